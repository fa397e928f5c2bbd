import PyProof.Rows.All
import Wide.All
import OpenK.AllK
import Wide.FinOn
import HandS.TupSets
import HandS.Sort
import HandS.SetFor
import HandS.Strs
import HandS.ForMost
import HandS.Flow
import HandS.Style
import HandS.IsInst
import HandS.Conv
import HandS.ClsMeth
import HandS.SortRule
import HandS.TupLen
import HandS.Star
import HandS.TupAny
import HandS.Codes
import HandS.SortInts
import PyProof.ReprRoads
import PyProof.CallFns
import HandS.Ends
import HandS.WordsExc
import HandS.Walk
import HandS.WideBits
import PyProof.ReprReads
import PyProof.ReprLen
import PyProof.TupleOfSeq
import HandS.SortOrd
import KE.KExcIs
import KE.KIsAll
import HandS.Exc
import HandS.ExcOwn
import HandS.ExcInit
import HandS.ExcField
import HandS.Call
import HandS.CallSlots
import KE.GoesEnum
import HandS.Iter
import HandS.TupMul
import PyProof.FitsInt
import HandS.Deep
import HandS.Defaults
import PySem.Challenge.RW_huefall_k00_house_faults
set_option Elab.async false
set_option linter.all false
section
set_option maxRecDepth 100000
set_option maxHeartbeats 2000000
namespace L2
open PySem PySem.Spec PyProof.Rows
/-! ### ranges as values, walked by their name -/
section
variable {X : Cx} {tg e : Expr} {te : TE}
theorem hu_cr_range1 : CallR X (.type "range") (fun vs H Q => ∃ j, vs = [V.int j] ∧ ∀ p, H p = none → Q (.ref p) (upd H p (.rng 0 j))) := by
  intro pins s σ H vs us Q I r h
  obtain ⟨j, rfl, q⟩ := h
  cases r with
  | cons rj rr =>
    cases rr
    obtain ⟨t, rfl⟩ := rj
    have lay := I.laid (a := s.heap.objs.size) (o := .rng 0 j) (t' := s.toks + 1 + 1) (h' := s.heap.push { cls := .type "range", data := .fields #[.int 0 s.toks, .int j t, .int 1 (s.toks + 1)] })
      (fun b o ho => Heap.get?_push_of_some _ ho) (Nat.le_refl _) ⟨s.toks, t, s.toks + 1, Heap.get?_push_size _ rfl⟩
    exact call_range_1 ⟨.ref s.heap.objs.size, _, lay, rfl, q _ (I.hok.fresh (Nat.le_refl _))⟩
def iHuRng (te : TE) : TI := fun σ H R => te σ H fun v H1 => ∃ a lo hi, v = .ref a ∧ H1 a = some (.rng lo hi) ∧ (-(2 ^ 62) ≤ lo ∧ lo < 2 ^ 62 ∧ -(2 ^ 62) ≤ hi ∧ hi < 2 ^ 62) ∧ R (Itr lo (hi - lo).toNat) H1
theorem hu_pi_rng (he : PE X e te) : PI X tg e (iHuRng te) := by
  refine ⟨fun pins s σ H R I h => ?_⟩
  refine thn (he.run pins s σ H _ I h) fun v s1 ⟨x, H1, I1, r1, q1⟩ => ?_
  obtain ⟨a, lo, hi, rfl, ha, ⟨b1, b2, b3, b4⟩, q⟩ := q1
  cases r1
  obtain ⟨t, u, w, ho⟩ := I1.hok a _ ha
  have ho' : IsRange s1.heap a lo hi 1 t u w := ho
  refine wpAny_pyIter_range ho' (small_one b1 b2 b3 b4) ?_
  refine ⟨s1.heap.objs.size, [s1.heap.objs.size], _, _, H1, rfl, I1.kept (t' := s1.toks) fun b o eo => Heap.get?_push_of_some _ eo, turn_range _ lo (hi - lo).toNat, ?_, fun b hb => ?_, q⟩
  · have z1 : lo + ((0 : Nat) : Int) * 1 = lo := by simp
    have z2 : (((hi - lo).toNat : Nat) : Int) - ((0 : Nat) : Int) = Builtin.Range.rangeSize lo hi 1 := by
      rw [rangeSize_one]; split <;> omega
    show IsRangeIter _ _ (lo + ((0 : Nat) : Int) * 1) ((((hi - lo).toNat : Nat) : Int) - ((0 : Nat) : Int)) 1
    rw [z1, z2]
    exact Heap.get?_push_size _ rfl
  · obtain rfl : b = s1.heap.objs.size := by simpa using hb
    exact I1.fpOk (Nat.le_refl _) (I1.hok.fresh (Nat.le_refl _))
end
/-! ### set(xs), xs a list of ints -/
section
variable {P : Program} {w : World} {A : Around} {E : Value → Shared → Prop} {s : Shared}
/-- the new set's record -/
abbrev newSetO (w : World) : Obj := { cls := .type "set", dict := none, data := .set #[] 0 (.fresh 0 0 (!w.params.followText "set-order")) }
set_option maxHeartbeats 3200000 in
theorem hu_call_set_list {l : Addr} {its : Array Value} (ns : List Int) {Q : Value → Shared → Prop} (nh : A.handled = none) (isl : s.heap.IsList l its) (hin : IntsAre its.toList ns) (small : ns.length + 1 < scanBound)
    (fin : ∀ (g : Heap) (tk c : Nat), SetR w g s.heap.objs.size (fun j => decide (j ∈ ns)) c → c ≤ ns.length → (∀ b o, s.heap.get? b = some o → g.get? b = some o) → Q (.ref s.heap.objs.size) { s with heap := g, toks := tk }) :
    wpAny (model P w) A (call (.type "set") [.ref l]) Q E s := by
  have size_eq : its.size = ns.length := by
    have z := IntsAre.length hin
    rwa [Array.length_toList] at z
  obtain ⟨c, tl, hmro⟩ := F.called_set.mro
  have made := F.called_set.made
  have sub := F.called_set.sub
  refine wpAny_call (codeAny_of_tree ?_)
  show wpAny _ _ (callAny (.type "set") _) _ _ _
  refine wpAny_pure ⟨Code.quiet_builtin _ (by decide +kernel), codeAny_builtin F.entry_type_call ?_⟩
  rw [Around.under_plain (weight_type_call_type "set" [.ref l] []) rfl]
  have nt := F.called_set.notType
  have cc := F.called_set.canCreate
  have tc := F.typeCall_set_1 (.ref l)
  repeat (any_goals (first | assumption | wp_step))
  refine codeAny_mono (code_set_led1 (.ref l) (E := E) (Q₁ := fun obj s1 => obj = .ref s.heap.objs.size ∧ s1 = { s with heap := s.heap.push (newSetO w) }) ⟨rfl, rfl⟩) fun r s1 hr => ?_
  cases r with
  | error e => exact hr
  | ok fl =>
    cases fl with
    | ret obj =>
      obtain ⟨rfl, rfl⟩ := hr
      have gS : (s.heap.push (newSetO w)).get? s.heap.objs.size = some (newSetO w) := Heap.get?_push_size _ rfl
      have tS : Shared.TypeIs { s with heap := s.heap.push (newSetO w) } (.ref s.heap.objs.size) "set" := ⟨_, gS, rfl⟩
      have il := F.called_set.init.lookup
      have ib := F.called_set.init.bind (.ref s.heap.objs.size)
      repeat (any_goals (first | assumption | wp_step))
      refine codeAny_mono (codeAny_call_builtin (R := wants (fun r s2 => r = .none ∧ ∃ g tk c, s2 = { s with heap := g, toks := tk } ∧ SetR w g s.heap.objs.size (fun j => decide (j ∈ ns)) c ∧ c ≤ ns.length ∧
          (∀ b o, s.heap.get? b = some o → g.get? b = some o)) E) F.called_set.init.plain F.entry_set_init (check_set_init_1 tS ?_)) fun r2 s2 hr2 => ?_
      · obtain ⟨⟨oc, od, odat, osl⟩, hol, hcl, nl, hdl⟩ := isl
        simp only at hcl hdl
        subst hcl; subst hdl
        have hol1 : (s.heap.push (newSetO w)).get? l = some { cls := .type "list", dict := od, data := .seq its nl, slots := osl } := Heap.get?_push_of_some _ hol
        have k1 := F.sub_list_set
        have k2 := F.sub_list_frozenset
        have k3 : (Value.type "list" == Value.type "dict") = false := by decide
        have isl1 : (s.heap.push (newSetO w)).IsList l its := ⟨_, hol1, rfl, nl, rfl⟩
        unfold Builtin.«set.__init__» noKeywords Builtin.Frozenset.updateFrom
        generalize hPI : pyIter = PI
        wp_walk
        subst hPI
        refine wpAny_pyIter_list isl1 ?_
        refine wpAny_bind (wpAny_runValue ?_)
        have lt : l < s.heap.objs.size := Heap.lt_size hol
        have nh3 : A.in1.in1.in1.handled = none := by simp [nh]
        have ne1 : l ≠ (s.heap.push (newSetO w)).objs.size := by
          rw [Heap.size_push]; exact Nat.ne_of_lt (Nat.lt_succ_of_lt lt)
        have nin : s.heap.objs.size ∉ [(s.heap.push (newSetO w)).objs.size, l] := by
          rw [Heap.size_push]
          simp only [List.mem_cons, List.mem_singleton, List.not_mem_nil, or_false, not_or]
          exact ⟨Nat.ne_of_lt (Nat.lt_succ_self _), Nat.ne_of_gt lt⟩
        have val : ∀ (i : Nat) (v : Value), its[i]? = some v → ∃ k t, ns[i]? = some k ∧ v = .int k t := fun i v hv => by
          have hi : i < ns.length := by rw [← size_eq]; exact (Array.getElem?_eq_some_iff.mp hv).1
          obtain ⟨t, e⟩ := PyProof.Rows.IntsAre.int_at hin i v (by rw [Array.getElem?_toList]; exact hv)
          refine ⟨ns[i], t, List.getElem?_eq_getElem hi, ?_⟩
          rw [e, List.getD_eq_getElem?_getD, List.getElem?_eq_getElem hi] <;> rfl
        refine set_update_ints ((Walks.list nh3 _ l ne1 its).toS) s.heap.objs.size nin ns size_eq small val (its.size - 0) 0 _ (by omega) (Nat.zero_le _)
          ⟨⟨_, Heap.get?_push_size _ rfl, rfl, rfl⟩, (isl1.push _)⟩ ?start ?ends
        case start =>
          exact ⟨0, Nat.le_refl 0, setR_new_at (Heap.get?_push_of_some _ gS)⟩
        case ends =>
          intro s3 c3 mv hc3 hS3
          obtain ⟨g3, gn3, d3, tk3, os3⟩ := s3
          obtain rfl : gn3 = s.gens := mv.gens
          obtain rfl : d3 = s.drawn := mv.drawn
          obtain rfl : os3 = s.os := mv.os
          show wpAny _ _ _ _ _ _
          refine wpAny_pure ?_
          show wpAny _ _ (ret Value.none) _ _ _
          rw [size_eq] at hc3
          refine wpAny_pure ⟨rfl, g3, tk3, c3, rfl, hS3, hc3, fun b o e => ?_⟩
          have b0 : b < s.heap.objs.size := Heap.lt_size e
          have b2 : b ≠ (s.heap.push (newSetO w)).objs.size := by
            rw [Heap.size_push]; exact Nat.ne_of_lt (Nat.lt_succ_of_lt b0)
          refine mv.heap b o ?_ (Heap.get?_push_of_some _ (Heap.get?_push_of_some _ e))
          simp only [List.mem_cons, List.mem_singleton, List.not_mem_nil, or_false, not_or]
          exact ⟨Nat.ne_of_lt b0, b2⟩
      · cases r2 with
        | error e => exact hr2
        | ok fl2 =>
          cases fl2 with
          | ret r =>
            obtain ⟨rfl, g, tk, c, rfl, hS, hc, hk⟩ := hr2
            repeat (any_goals (first | assumption | wp_step))
            exact fin _ _ _ hS hc hk
          | _ => exact hr2.elim
    | _ => exact hr.elim
end
section
variable {X : Cx}
/-- set(xs) of a list of ints -/
def rHuSetL (K : PySem.W.Frag) (w : World) : List V → Hp → VK → Prop := fun vs H Q => ∃ (a : Addr) (ns : List Int), vs = [V.ref a] ∧ SqL K H a (ns.map V.int) ∧ ns.length ≤ 1000 ∧
  ∀ p c, H p = none → c ≤ ns.length → Q (.ref p) (upd H p (SetO w p (fun j => decide (j ∈ ns)) c))
theorem hu_cr_setL (hc : X.calm = true) : CallR X (.type "set") (rHuSetL X.K X.w) := by
  intro pins s σ H vs us Q I r h
  obtain ⟨a, ns, rfl, hl, hn, q⟩ := h
  rw [Vals.ref1 r]
  obtain ⟨its, rv, pl, hz⟩ := I.list hl
  refine hu_call_set_list (P := X.prog) (w := X.w) ns (I.ok.hd hc) pl.isList (by simpa using rv.ints) (by unfold scanBound; omega) fun g tk c hS hle hk => ?_
  exact ⟨.ref s.heap.objs.size, _, I.laid (t' := tk) hk (Nat.le_refl _) (setO_new hS), rfl, q _ c (I.hok.fresh (Nat.le_refl _)) hle⟩
end
end L2

end
section
set_option maxRecDepth 100000
set_option maxHeartbeats 2000000
namespace L2
open PySem PySem.Spec PyProof.Rows
/-! ### sets of tuples of ints: in, add, set() -/
section
variable {P : Program} {w : World} {A : Around} {E : Value → Shared → Prop} {s : Shared}
variable {a : Addr} {L : List (Addr × List Int)} {es : Array (Int × Value)} {ep : Nat} {t : SetTable}
/-- the c-th place that a search for the hash comes to -/
abbrev pAt (m : Nat) (h : Int) (c : Nat) : SetTable.Probe := nth m (runAt m (SetTable.bits h % (m + 1)) (SetTable.bits h)) c
theorem pAt_dummy (m : Nat) (h : Int) (c : Nat) : (pAt m h c).dummy = none := by
  have all : ∀ (n : Nat) (p : SetTable.Probe), p.dummy = none → (nth m p n).dummy = none := by
    intro n
    induction n with
    | zero => exact fun p hp => hp
    | succ n ih =>
      intro p hp
      refine ih (adv m p) ?_
      unfold adv
      split <;> exact hp
  exact all c _ rfl
theorem pAt_on (m : Nat) (h : Int) (c q : Nat) : nth m (pAt m h c) q = pAt m h (c + q) := (nth_add m c _ q).symm
/-- a search that only asks -/
theorem find_from (R : SetTR P w s.heap a L es ep t) {x : Addr} {k : List Int} (hx : IsT P w s.heap k x) (hu : A.units < cLine) {K : Nat} (fuelK : K < 10 * SetTable.turns t.mask)
    (freeK : way t.mask (thash P w k) K ∉ t.place.toList) (below : ∀ c, c < K → way t.mask (thash P w k) c ∈ t.place.toList) {Q : SetFound → Shared → Prop}
    (yes : ∀ i, k ∈ L.map (·.2) → Q (.there (some i)) s) (no : k ∉ L.map (·.2) → Q (.free (way t.mask (thash P w k) K) false) s) :
    ∀ (f c : Nat) (stand : Option SetTable.Probe), stand.getD (t.probeStart (thash P w k)) = pAt t.mask (thash P w k) c → c ≤ K → K - c < f →
      (∀ (i : Nat) p, L[i]? = some p → p.2 = k → ∃ d, c ≤ d ∧ d < K ∧ t.place.toList[i]? = some (way t.mask (thash P w k) d)) →
      wpAny (model P w) A (setSearchFrom a (.ref x) (thash P w k) false f stand) Q E s
  | 0, _, _, _, _, lt, _ => absurd lt (Nat.not_lt_zero _)
  | f + 1, c, stand, st, cK, lt, left => by
    obtain ⟨o, ho, hex, hd⟩ := R.ob
    rw [setSearchFrom_succ]
    refine wpAny_bind (wpAny_setState_of ho hd R.fits ?_)
    dsimp only
    refine wp_if_neg R.gw ?_
    try refine wpAny_bind (wpAny_pure ?_)
    have jq : ∀ q, (nth t.mask (pAt t.mask (thash P w k) c) q).j = way t.mask (thash P w k) (c + q) := fun q => congrArg SetTable.Probe.j (pAt_on ..)
    have hashAt : ∀ (i : Nat) p, L[i]? = some p → (es[i]?.map (·.1)).getD 0 = thash P w p.2 := fun i p hp => by
      rw [R.entry hp] <;> rfl
    rcases go_spec t R.tab.ris R.tab.dm (fun i => (es[i]?.map (·.1)).getD 0) (thash P w k) (10 * SetTable.turns t.mask) (K - c) _ (pAt_dummy t.mask (thash P w k) c) (by omega)
      (fun q hq => by rw [jq]; exact below (c + q) (by omega)) (by rw [jq, show c + (K - c) = K by omega]; exact freeK) with ⟨q, i, hq, hi, hh, hno, hpr⟩ | ⟨hno, hpr⟩
    · have pr : t.probe (fun i => (es[i]?.map (·.1)).getD 0) (thash P w k) (stand.getD (t.probeStart (thash P w k))) = some (.candidate (way t.mask (thash P w k) (c + q)) i (pAt t.mask (thash P w k) (c + (q + 1)))) := by
        rw [st, ← jq, ← pAt_on]
        exact hpr
      rw [pr]
      dsimp only
      rw [jq] at hi
      have il : i < L.length := by
        have z1 : i < t.place.toList.length := (List.getElem?_eq_some_iff.mp hi).1
        have z2 := R.tab.sz
        rw [List.length_map] at z2
        rw [Array.length_toList] at z1
        omega
      obtain ⟨p, hp⟩ : ∃ p, L[i]? = some p := ⟨_, List.getElem?_eq_getElem il⟩
      have mem : p ∈ L := List.mem_of_getElem? hp
      have live : t.slot (way t.mask (thash P w k) (c + q)) = .live i := slot_live R.tab.ris hi
      have cont : wpAny (model P w) A (searchRest a (.ref x) (thash P w k) false f es t (way t.mask (thash P w k) (c + q)) i (pAt t.mask (thash P w k) (c + (q + 1)))) Q E s := by
        unfold searchRest
        rw [R.entry hp]
        dsimp only
        refine wpAny_bind (wpAny_holding (wpAny_eqBool_tuple hu (R.tup p mem) hx ?_))
        refine wpAny_bind (wpAny_setState_of ho hd R.fits ?_)
        dsimp only
        refine wp_if_neg (by simp) ?_
        try refine wpAny_bind (wpAny_pure ?_)
        rw [sameMem]
        dsimp only
        simp only [if_true, live, R.entry hp]
        refine wpAny_bind (wpAny_isSame_ref_self (wpAny_bind (wpAny_pure ?_)))
        simp only [if_true]
        by_cases kk : p.2 = k
        · refine wp_if_pos (by simp [kk]) ?_
          exact wpAny_pure (yes i (List.mem_map.mpr ⟨p, mem, kk⟩))
        · refine wp_if_neg (by simp [kk]) ?_
          refine find_from R hx hu fuelK freeK below yes no f (c + (q + 1)) _ rfl (by omega) (by omega) fun i0 p0 h0 k0 => ?_
          obtain ⟨d, d1, d2, d3⟩ := left i0 p0 h0 k0
          refine ⟨d, ?_, d2, d3⟩
          have e0 : (es[i0]?.map (·.1)).getD 0 = thash P w k := (hashAt i0 p0 h0).trans (congrArg (thash P w) k0)
          rcases Nat.lt_trichotomy d (c + q) with z | z | z
          · exact absurd e0 (hno (d - c) i0 (by omega) (by rw [jq, show c + (d - c) = d by omega]; exact d3))
          · exfalso
            rw [z] at d3
            have live0 := slot_live R.tab.ris d3
            rw [live] at live0
            injection live0 with ei
            rw [← ei, hp] at h0
            exact kk ((congrArg Prod.snd (Option.some.inj h0)).trans k0)
          · omega
      by_cases led : t.led = true
      · refine wp_if_neg (by simp [led]) ?_
        try refine wpAny_bind (wpAny_pure ?_)
        exact cont
      · refine wp_if_pos (by simp [led]) ?_
        refine wpAny_bind (seen_tup hx (fun y hy => ?_) ?_)
        · obtain ⟨e, he, ee⟩ := List.mem_map.mp hy
          have he1 : e ∈ es ∧ e.1 = thash P w k := by simpa using he
          have he2 : e ∈ es.toList := by simpa using he1.1
          rw [R.rows] at he2
          obtain ⟨p2, hp2, e2⟩ := List.mem_map.mp he2
          exact ⟨p2.2, p2.1, by rw [← ee, ← e2], R.tup p2 hp2⟩
        · refine wp_if_neg (by decide) ?_
          try refine wpAny_bind (wpAny_pure ?_)
          exact cont
    · have pr : t.probe (fun i => (es[i]?.map (·.1)).getD 0) (thash P w k) (stand.getD (t.probeStart (thash P w k))) = some (.empty (way t.mask (thash P w k) K) none) := by
        have eK : way t.mask (thash P w k) K = (nth t.mask (pAt t.mask (thash P w k) c) (K - c)).j := by
          rw [jq, show c + (K - c) = K by omega]
        rw [st, eK]
        exact hpr
      rw [pr]
      dsimp only
      refine wpAny_pure (no fun hm => ?_)
      obtain ⟨p0, h0, k0⟩ := List.mem_map.mp hm
      obtain ⟨i0, hi0, e0⟩ := List.getElem_of_mem h0
      have at0 : L[i0]? = some p0 := by rw [List.getElem?_eq_getElem hi0, e0]
      obtain ⟨d, d1, d2, d3⟩ := left i0 p0 at0 k0
      exact hno (d - c) i0 (by omega) (by rw [jq, show c + (d - c) = d by omega]; exact d3) ((hashAt i0 p0 at0).trans (congrArg (thash P w) k0))
/-- x in the set -/
theorem find_at (R : SetTR P w s.heap a L es ep t) {x : Addr} {k : List Int} (hx : IsT P w s.heap k x) (hu : A.units < cLine) {Q : Option Nat → Shared → Prop}
    (h : ∀ r : Option Nat, r.isSome = decide (k ∈ L.map (·.2)) → Q r s) : wpAny (model P w) A (setFind a (.ref x) (thash P w k)) Q E s := by
  obtain ⟨o, ho, hex, hd⟩ := R.ob
  have room := R.room
  obtain ⟨K, fuelK, freeK, below⟩ := R.tab.first (by rw [List.length_map]; omega) (thash P w k)
  have big : K < 100000 := by
    have z : 10 * SetTable.turns t.mask ≤ 1420 := by
      unfold SetTable.turns
      rcases R.tab.mok with e | e | e <;> omega
    omega
  unfold setFind
  rw [show (100000 : Nat) = 99999 + 1 from rfl]
  unfold setFindIn
  refine wpAny_bind (wpAny_setState_of ho hd R.fits ?_)
  dsimp only
  refine wp_if_neg (by simp [byScan, Value.scannable]) ?_
  try refine wpAny_bind (wpAny_pure ?_)
  unfold setSearch
  refine wpAny_bind (find_from R hx hu fuelK freeK below (fun i hm => ?_) (fun hm => ?_) 100000 0 none rfl (Nat.zero_le _) (by omega) fun i p hp hk => ?_)
  · exact wpAny_pure (h _ (by rw [decide_eq_true hm] <;> rfl))
  · exact wpAny_pure (h _ (by rw [decide_eq_false hm] <;> rfl))
  · have hi : (L.map fun p => thash P w p.2)[i]? = some (thash P w k) := by rw [List.getElem?_map, hp, ← hk] <;> rfl
    have il : i < t.place.toList.length := by
      have z1 : i < L.length := (List.getElem?_eq_some_iff.mp hp).1
      have z2 := R.tab.sz
      rw [List.length_map] at z2
      rw [Array.length_toList]
      omega
    have hj := List.getElem?_eq_getElem il
    obtain ⟨c, hc, e⟩ := R.tab.before freeK hi hj
    exact ⟨c, Nat.zero_le _, hc, by rw [hj, e]⟩
theorem SetTR.typ (R : SetTR P w s.heap a L es ep t) : s.TypeIs (.ref a) "set" := let ⟨o, ho, hex, _⟩ := R.ob; ⟨o, ho, hex.1⟩
theorem in_tupset (R : SetTR P w s.heap a L es ep t) {x : Addr} {k : List Int} (hx : IsT P w s.heap k x) (hu : A.units + 64 < cLine) {Q : Value → Shared → Prop}
    (h : ∀ tk, Q (.bool (decide (k ∈ L.map (·.2)))) { s with toks := tk }) : wpAny (model P w) A (compareOp .In (.ref x) (.ref a)) Q E s := by
  show wpAny _ _ (do return .bool (← contains (.ref a) (.ref x))) Q E s
  refine wpAny_bind ?_
  unfold contains
  try with_reducible refine wpAny_holding ?_
  refine wpAny_bind (wpAny_specialOf R.typ F.slot_set_contains.lookup ?_)
  show wpAny _ _ (if (some (Value.builtin "set.__contains__") == some Value.none) = true then _ else _) _ E s
  rw [if_neg (by rw [beq_builtin_none]; exact Bool.false_ne_true)]
  refine wpAny_bind (wpAny_callSpecialUnlessNone?_slot (name := Str.ofString "__contains__") R.typ F.slot_set_contains
    (wpAny_call_entry F.slot_set_contains R.typ entry_set_contains ?_ (F.args_set_contains_2 _ _)))
  unfold Builtin.«frozenset.__contains__» Builtin.Frozenset.oneOther
  simp only [List.isEmpty_nil, bind_assoc]
  unfold Builtin.Frozenset.addrOf Builtin.Frozenset.withSetAsKey setContains
  refine wpAny_bind (wpAny_pure ?_)
  try dsimp only
  refine wpAny_bind (wpAny_pure ?_)
  try dsimp only
  refine wpAny_bind (wpAny_tryCatch ?_)
  refine wpAny_holding ?_
  refine wpAny_bind (wpAny_pyHash_tuple ?_ hx ?_)
  · show A.units + 1 < cLine
    omega
  refine wpAny_bind (find_at (s := { s with toks := s.toks + (k.length + 1) }) R hx ?_ fun r hr => ?_)
  · show A.units + 1 < cLine
    omega
  refine wpAny_pure ?_
  show wpAny _ _ (ret (Value.bool r.isSome)) _ _ _
  rw [hr]
  exact wpAny_pure ⟨_, rfl, wpAny_truthy_bool (wpAny_pure (h _))⟩
theorem add_tupset (R : SetTR P w s.heap a L es ep t) {x : Addr} {k : List Int} (hx : IsT P w s.heap k x) (hu : A.units + 64 < cLine) (few : L.length + 1 < 64) {Q : Value → Shared → Prop}
    (h : ∀ g tk L2 es2 ep2 t2, Heap.SameBut a s.heap g → SetTR P w g a L2 es2 ep2 t2 → (k ∈ L.map (·.2) → L2 = L) → (k ∉ L.map (·.2) → L2.Perm ((x, k) :: L)) → Q .none { s with heap := g, toks := tk }) :
    wpAny (model P w) A (call (.builtin "set.add") [.ref a, .ref x]) Q E s := by
  refine wpAny_call_entry F.slot_set_add R.typ F.entry_set_add ?_ (F.args_set_add_2 _ _)
  unfold Builtin.«set.add» Builtin.Frozenset.oneOther
  simp only [List.isEmpty_nil, bind_assoc]
  unfold Builtin.Frozenset.addrOf setAdd
  refine wpAny_bind (wpAny_pure ?_)
  try dsimp only
  refine wpAny_bind (wpAny_pure ?_)
  try dsimp only
  refine wpAny_bind ?_
  refine wpAny_holding ?_
  refine wpAny_bind (wpAny_pyHash_tuple ?_ hx ?_)
  · show A.units + 1 < cLine
    omega
  refine add_at (s := { s with toks := s.toks + (k.length + 1) }) R hx ?_ few fun b g L2 es2 ep2 t2 sb R2 c1 c2 => ?_
  · show A.units + 1 < cLine
    omega
  show wpAny _ _ (ret Value.none) _ _ _
  exact wpAny_pure ⟨_, rfl, h g _ L2 es2 ep2 t2 sb R2 c1 c2⟩
end
section
variable {X : Cx}
/-- the set at a holds the tuples L, each still readable -/
def HasT (K : PySem.W.Frag) (P : Program) (w : World) (H : Hp) (a : Addr) (L : List (Addr × List Int)) : Prop :=
  H a = some (SetTO P w a L) ∧ ∀ p ∈ L, SqT K H p.1 (p.2.map V.int)
theorem HasT.full {pins : List (Addr × Obj)} {σ : St} {H : Hp} {s : Shared} {a : Addr} {L : List (Addr × List Int)} (I : Inv X pins σ H s) (h : HasT X.K X.prog X.w H a L) : ∃ es ep t, SetTR X.prog X.w s.heap a L es ep t := by
  have R0 : SetT0 X.prog X.w s.heap a L := (I.hok a _ h.1).1
  exact R0.full fun p hp => I.isT (h.2 p hp)
def rHuSet0T (P : Program) (w : World) : List V → Hp → VK → Prop := fun vs H Q => vs = [] ∧ ∀ p, H p = none → Q (.ref p) (upd H p (SetTO P w p []))
theorem hu_cr_set0T : CallR X (.type "set") (rHuSet0T X.prog X.w) := by
  intro pins s σ H vs us Q I r h
  obtain ⟨rfl, q⟩ := h
  cases r
  refine setR_new fun _ => ?_
  have R := setTR_fresh (P := X.prog) (w := X.w) (h := s.heap.push { cls := .type "set", dict := none, data := .set #[] 0 (.fresh 0 0 (!X.w.params.followText "set-order")) }) (a := s.heap.objs.size) (Heap.get?_push_size _ rfl)
  exact ⟨.ref _, _, I.laid (t' := s.toks) (fun b u e => Heap.get?_push_of_some _ e) (Nat.le_refl _) (setTO_new R.t0), rfl, q _ (I.hok.fresh (Nat.le_refl _))⟩
/-- k in found -/
def rHuInT (K : PySem.W.Frag) (P : Program) (w : World) : V → V → Hp → VK → Prop := fun x y H Q => ∃ (b a : Addr) (k : List Int) (L : List (Addr × List Int)), x = V.ref b ∧ y = V.ref a ∧ SqT K H b (k.map V.int) ∧ HasT K P w H a L ∧ Q (.bl (decide (k ∈ L.map (·.2)))) H
theorem hu_or_inT (hu : X.A.units + 64 < cLine) : OpR X (compareOp .In) (rHuInT X.K X.prog X.w) := by
  intro pins s σ H x y v u Q I rx ry h
  obtain ⟨b, a, k, L, rfl, rfl, hb, ha, q⟩ := h
  cases rx
  cases ry
  obtain ⟨es, ep, t, R⟩ := ha.full I
  exact in_tupset R (I.isT hb) hu fun tk => ⟨.bl _, H, I.tok _, rfl, q⟩
/-- found.add(k) -/
def rHuAddT (K : PySem.W.Frag) (P : Program) (w : World) : V → List V → Hp → VK → Prop := fun x vs H Q => ∃ (a b : Addr) (k : List Int) (L : List (Addr × List Int)), x = V.ref a ∧ vs = [V.ref b] ∧ SqT K H b (k.map V.int) ∧ HasT K P w H a L ∧ L.length + 1 < 64 ∧
  k ∉ L.map (·.2) ∧ ∀ L2, L2.Perm ((b, k) :: L) → Q .non (upd H a (SetTO P w a L2))
theorem hu_mt_addT (hu : X.A.units + 64 < cLine) : MtR X "set.add" (rHuAddT X.K X.prog X.w) := by
  intro pins s σ H x vs v us Q I rx rxs h
  obtain ⟨a, b, k, L, rfl, rfl, hb, ha, few, new, q⟩ := h
  cases rx
  rw [Vals.ref1 rxs]
  obtain ⟨es, ep, t, R⟩ := ha.full I
  refine add_tupset R (I.isT hb) hu few fun g tk L2 es2 ep2 t2 sb R2 _ c2 => ?_
  obtain ⟨o2, ho2, _⟩ := R2.ob
  exact ⟨.non, _, I.write (e := a) (t' := tk) (by rw [ha.1]; trivial) (.inl rfl) (fun c u hc hu => (sb.2 c hc).trans hu) ⟨o2, ho2⟩ (setTO_new R2.t0), rfl, q L2 (c2 new)⟩
def tHuAddT (K : PySem.W.Frag) (P : Program) (w : World) (to : TE) (t : TA) : TE := fun σ H Q => to σ H fun x H1 => (∃ a L, x = V.ref a ∧ H1 a = some (SetTO P w a L)) ∧ t σ H1 fun xs H2 => rHuAddT K P w x xs H2 Q
variable {o e : Expr} {es : List Expr} {to : TE} {t : TA} {apos cpos : Pos}
theorem hu_pe_addT (hu : X.A.units + 64 < cLine) (ho : PE X o to) (ha : PA X (e :: es) t)
    (hbase : attributeBase o "add" X.env (eval o X.env) = eval o X.env := by rfl)
    (hfew : ((backTo cpos (starEach (e :: es) X.env)).all (fun x => !x.1) && (backToKw cpos (keywordEach [] X.env)).all (fun x => x.1.isSome)
      && decide ((e :: es).length + ([] : List Keyword).length + (if ([] : List Keyword).isEmpty then 0 else 1) < 30)) = true := by rfl)
    (hline : (apos.endLine == cpos.line) = true := by rfl) (hs : starEach (e :: es) X.env = (false, eval e X.env) :: starEach es X.env := by rfl) (hplain : (backTo cpos (starEach es X.env)).any (·.1) = false := by rfl) :
    PE X (.Call (.Attribute o "add" apos) (e :: es) [] cpos) (tHuAddT X.K X.prog X.w to t) := by
  refine ⟨fun pins s σ H Q I h => ?_⟩
  refine wpAny_Call_method_late hbase hfew hline rfl (thn (ho.run pins s σ H _ I h) fun v s1 ⟨x, H1, I1, r1, ⟨a, L, ex, hka⟩, q1⟩ => ?_)
  subst ex
  have R0 : SetT0 X.prog X.w s1.heap a L := (I1.hok a _ hka).1
  obtain ⟨es0, ep0, t0, ⟨o0, ho0, hex0, _⟩, _⟩ := R0.ex
  cases r1
  refine ⟨"set", "set.add", F.plainAttrs_set, F.slot_set_add, F.type_set_add, ⟨o0, ho0, hex0.1⟩, ?_, ?_⟩
  · intro b eb
    injection eb with eb
    subst eb
    exact ⟨o0, ho0, by first | exact hex0.2.1 | exact hex0.2.2⟩
  have hA := ha.run cpos pins s1 σ H1 _ I1 q1
  rw [hs] at hA ⊢
  refine Calls.callWith_builtin (by show (false || (backTo cpos (starEach es X.env)).any (·.1)) = false; rw [hplain] <;> rfl) (Calls.evalArgs_plain ?_)
  exact thn hA fun us s2 ⟨vs, H2, I2, r2, q2⟩ => hu_mt_addT hu pins s2 σ H2 (.ref a) vs (.ref a) us Q I2 rfl r2 q2
end
end L2

end
section
set_option maxRecDepth 100000
namespace L2
open PySem PySem.Spec PyProof.Rows
/-! ### a def of the text under its name: its promise, its level, how it is bound -/
structure Cal (P : Program) (w : World) (K : PySem.W.Frag) (mg : Str → Option Value) (base : Heap) (x : Str) (k : Nat) (sp : Sp) : Prop where
  ex : ∃ (f : Addr) (fd : FuncData) (ps : List Str), FnOk P w K mg base CX0 k f fd ps sp ∧ mg x = some (.ref f) ∧ PySem.W.keepIn K (.ref f) = true ∧ Binds K fd ps []
/-- a method of the class at C -/
structure MCal (P : Program) (w : World) (K : PySem.W.Frag) (mg : Str → Option Value) (base : Heap) (C : Addr) (m : Str) (k : Nat) (sp : Sp) : Prop where
  ex : ∃ (f : Addr) (fd : FuncData) (ps : List Str), FnOk P w K mg base CX0 k f fd ps sp ∧ Meth K C m f ∧ Binds K fd ps []
/-- the making of an instance of the class at C, named x; k: the level of its __init__ -/
structure NCal (P : Program) (w : World) (K : PySem.W.Frag) (mg : Str → Option Value) (base : Heap) (C : Addr) (x : Str) (k : Nat) (sp : Sp) : Prop where
  ex : ∃ (f : Addr) (fd : FuncData) (ps : List Str), FnOk P w K mg base CX0 k f fd ps sp ∧ Mk K C f ∧ Binds K fd ps []
  mg : mg x = some (.ref C)
section
variable {X : Cx} {e o : Expr} {es : List Expr} {t : TA} {ta : TE} {x m : Str} {k : Nat} {sp : Sp} {C : Addr} {p pos apos : Pos}
theorem tCall_nil {t : TA} {E : XK} {σ : St} {H : Hp} {Q : VK} (h : t σ H fun vs H1 => sp vs H1 Q E) : tCall sp [] E t σ H Q := by
  unfold tCall
  simpa only [List.append_nil] using h
def tCal (sp : Sp) (t : TA) : TE := fun σ H Q => t σ H fun vs H1 => sp vs H1 Q E0
def tMCal (C : Addr) (m : Str) (sp : Sp) (to : TE) (t : TA) : TE := fun σ H Q => to σ H fun x H1 => ∃ a dx fs, x = .ref a ∧ H1 a = some (.ins C dx fs) ∧ fs.lookup m = none ∧ t σ H1 fun vs H2 => sp (x :: vs) H2 Q E0
def tNCal (C : Addr) (sp : Sp) (t : TA) : TE := fun σ H Q => t σ H fun vs H1 => ∀ x dx, H1 x = none → H1 dx = none → dx ≠ x → sp (.ref x :: vs) (upd (upd H1 dx (.own x)) x (.ins C dx [])) (fun v H2 => v = .non ∧ Q (.ref x) H2) E0
theorem PE.to {t u : TE} (h : PE X e t) (le : ∀ σ H Q, u σ H Q → t σ H Q) : PE X e u := ⟨fun pins s σ H Q I q => h.run pins s σ H Q I (le σ H Q q)⟩
theorem pe_cal (c : Cal X.prog X.w X.K X.mg X.base x k sp) (hr : Room k X.A) (ha : PA X (e :: es) t) (hg : Gl X x := by rfl) (hdb : (x == ("__debug__" : Str)) = false := by decide)
    (he : starEach (e :: es) X.env = (false, eval e X.env) :: starEach es X.env := by rfl) (hpl : (backTo pos (starEach es X.env)).any (·.1) = false := by rfl) :
    PE X (.Call (.Name x p) (e :: es) [] pos) (tCal sp t) := by
  obtain ⟨f, fd, ps, F, hm, hk, hb⟩ := c.ex
  exact (pe_call F hr hg hm hk hb .nil pass0 ha hdb he hpl).to fun σ H Q q => tCall_nil q
theorem pe_cal0 (c : Cal X.prog X.w X.K X.mg X.base x k sp) (hr : Room k X.A) (hg : Gl X x := by rfl) (hdb : (x == ("__debug__" : Str)) = false := by decide) :
    PE X (.Call (.Name x p) [] [] pos) (tCal sp tNil) := by
  obtain ⟨f, fd, ps, F, hm, hk, hb⟩ := c.ex
  exact (pe_call0 F hr hg hm hk hb .nil pass0 hdb).to fun σ H Q q => tCall_nil q
theorem pe_ncal (c : NCal X.prog X.w X.K X.mg X.base C x k sp) (hr : Room (k + 1) X.A) (ha : PA X (e :: es) t) (hg : Gl X x := by rfl) (hdb : (x == ("__debug__" : Str)) = false := by decide)
    (he : starEach (e :: es) X.env = (false, eval e X.env) :: starEach es X.env := by rfl) (hpl : (backTo pos (starEach es X.env)).any (·.1) = false := by rfl) :
    PE X (.Call (.Name x p) (e :: es) [] pos) (tNCal C sp t) := by
  obtain ⟨f, fd, ps, F, M, hb⟩ := c.ex
  refine (pe_make M F hr hg c.mg hb .nil pass0 ha hdb he hpl).to fun σ H Q q => ?_
  unfold tNCal at q
  unfold tMake
  simpa only [List.append_nil] using q
theorem setL_ (K : PySem.W.Frag) (w : World) (hc : X.calm = true) (hK : X.K = K := by rfl) (hw : X.w = w := by rfl) : CallR X (.type "set") (rHuSetL K w) := by
  subst hK hw; exact hu_cr_setL hc
theorem sortedSet_ (w : World) (hc : X.calm = true) (hw : X.w = w := by rfl) : CallR X (.builtin "sorted") (rSortedSet w) := by
  subst hw; exact cr_sortedSet hc
section
variable (K : PySem.W.Frag)
theorem all_ (hc : X.calm = true) (hK : X.K = K := by rfl) : CallR X (.builtin "all") (rAll K) := by subst hK; exact cr_all hc
theorem any_ (hc : X.calm = true) (hK : X.K = K := by rfl) : CallR X (.builtin "any") (rAny K) := by subst hK; exact cr_any hc
theorem sum_ (hc : X.calm = true) (hK : X.K = K := by rfl) : CallR X (.builtin "sum") (rSum K) := by subst hK; exact cr_sum hc
theorem min_ (hc : X.calm = true) (hK : X.K = K := by rfl) : CallR X (.builtin "min") (rMin K) := by subst hK; exact cr_min hc
theorem sortedI_ (hK : X.K = K := by rfl) : CallR X (.builtin "sorted") (rSortedI K) := by subst hK; exact cr_sortedI
theorem sortedPO_ (hK : X.K = K := by rfl) : CallR X (.builtin "sorted") (rSortedPO K) := by subst hK; exact cr_sortedPO
theorem isi_ (hK : X.K = K := by rfl) : CallR X (.builtin "isinstance") (rIsi K) := by subst hK; exact call_isi
theorem inS_ (hK : X.K = K := by rfl) : OpR X (compareOp .In) (rIn K false) := by subst hK; exact op_in_seq
theorem ninS_ (hK : X.K = K := by rfl) : OpR X (compareOp .NotIn) (rIn K true) := by subst hK; exact op_notIn_seq
theorem ixL_ (hK : X.K = K := by rfl) : IxR X (rIxL K) := by subst hK; exact ix_list
theorem ixT_ (hK : X.K = K := by rfl) : IxR X (rIxT K) := by subst hK; exact ix_tup
theorem slL_ (hK : X.K = K := by rfl) : SlR X (rSlL K) := by subst hK; exact sl_list
theorem slT_ (hK : X.K = K := by rfl) : SlR X (rSlT K) := by subst hK; exact sl_tup
theorem catT_ (hK : X.K = K := by rfl) : OpR X (binaryOp .Add) (rCatT K) := by subst hK; exact op_catT
theorem catA_ (hK : X.K = K := by rfl) : OpR X (binaryOp .Add) (rCatA K) := by subst hK; exact op_catA
theorem eqD_ (hu : X.A.units + 64 < cLine) (hK : X.K = K := by rfl) : OpR X (compareOp .Eq) (rEqD K) := by subst hK; exact op_eqD hu
theorem neD_ (hu : X.A.units + 64 < cLine) (hK : X.K = K := by rfl) : OpR X (compareOp .NotEq) (rNeD K) := by subst hK; exact op_neD hu
def rLenS (K : PySem.W.Frag) : List V → Hp → VK → Prop := fun xs H Q => ∃ p ys, xs = [.ref p] ∧ (SqL K H p ys ∨ SqT K H p ys) ∧ Q (.int ys.length) H
theorem lenS_ (hK : X.K = K := by rfl) : CallR X (.builtin "len") (rLenS K) := by subst hK; exact call_len_seq
def rLstOf (K : PySem.W.Frag) : List V → Hp → VK → Prop := fun xs H Q => ∃ p ys, xs = [.ref p] ∧ (SqL K H p ys ∨ SqT K H p ys) ∧ ∀ l, H l = none → Q (.ref l) (upd H l (.lst ys))
theorem lstOf_ (hK : X.K = K := by rfl) : CallR X (.type "list") (rLstOf K) := by subst hK; exact call_list_of
def rTupOf (K : PySem.W.Frag) : List V → Hp → VK → Prop := fun xs H Q => ∃ p ys, xs = [.ref p] ∧ ((SqL K H p ys ∧ ∀ l, H l = none → Q (.ref l) (upd H l (.tup ys))) ∨ (SqT K H p ys ∧ Q (.ref p) H))
theorem tupOf_ (hK : X.K = K := by rfl) : CallR X (.type "tuple") (rTupOf K) := by subst hK; exact call_tuple_of
theorem inT_ (P : Program) (w : World) (hu : X.A.units + 64 < cLine) (hP : X.prog = P := by rfl) (hw : X.w = w := by rfl) (hK : X.K = K := by rfl) : OpR X (compareOp .In) (rHuInT K P w) := by subst hK hP hw; exact hu_or_inT hu
theorem fld_ {f : Str} (he : PE X e ta) (hb : attributeBase e f X.env (eval e X.env) = eval e X.env := by rfl) (hK : X.K = K := by rfl) : PE X (.Attribute e f pos) (tFld K ta f) := by subst hK; exact pe_fld he hb
theorem cval_ {f : Str} (he : PE X e ta) (hb : attributeBase e f X.env (eval e X.env) = eval e X.env := by rfl) (hK : X.K = K := by rfl) : PE X (.Attribute e f pos) (ClX.tCVal K ta f) := by subst hK; exact ClX.pe_cval he hb
theorem pil_ {tg l : Expr} {tl : TE} (hl : PE X l tl) (hK : X.K = K := by rfl) : PI X tg l (iList K tl) := by subst hK; exact pi_list hl
theorem pit_ {tg l : Expr} {tl : TE} (hl : PE X l tl) (hK : X.K = K := by rfl) : PI X tg l (iTup K tl) := by subst hK; exact pi_tup hl
theorem star_ {te : TE} (he : PE X e te) (hr : PA X es t) (hK : X.K = K := by rfl) : PA X (.Starred e p :: es) (StX.tStar K te t) := by subst hK; exact StX.pa_star he hr
theorem revL_ {te : TE} {j : Nat} {p1 p2 p3 : Pos} (he : PE X e te) (hK : X.K = K := by rfl) : PE X (.Subscript e (.Slice none none (some (.UnaryOp .USub (.Constant (.int 1) j p1) p2)) p3) pos) (tRevL K te) := by subst hK; exact pe_revL he
def tTru (K : PySem.W.Frag) (ta : TE) : TT := fun σ H Q => ta σ H fun x H' => ∃ k, TruV K x H' k ∧ Q k H'
theorem truth_ (he : PE X e ta) (hh : ∀ whole, isTrue e X.env whole = (do let v ← whole; standAt e.pos; holding [v] (truthy v)) := by intro _; rfl) (hK : X.K = K := by rfl) : PT X e (tTru K ta) := by subst hK; exact pt_truth he hh
end
end
theorem b_len : bootBuiltins ("len" : Str) = some (.builtin "len") := by decide +kernel
theorem b_abs : bootBuiltins ("abs" : Str) = some (.builtin "abs") := by decide +kernel
theorem b_min : bootBuiltins ("min" : Str) = some (.builtin "min") := by decide +kernel
theorem b_max : bootBuiltins ("max" : Str) = some (.builtin "max") := by decide +kernel
theorem b_all : bootBuiltins ("all" : Str) = some (.builtin "all") := by decide +kernel
theorem b_any : bootBuiltins ("any" : Str) = some (.builtin "any") := by decide +kernel
theorem b_sum : bootBuiltins ("sum" : Str) = some (.builtin "sum") := by decide +kernel
theorem b_sorted : bootBuiltins ("sorted" : Str) = some (.builtin "sorted") := by decide +kernel
theorem b_isinstance : bootBuiltins ("isinstance" : Str) = some (.builtin "isinstance") := by decide +kernel
theorem b_int : bootBuiltins ("int" : Str) = some (.type "int") := by decide +kernel
theorem b_bool : bootBuiltins ("bool" : Str) = some (.type "bool") := by decide +kernel
theorem b_tuple : bootBuiltins ("tuple" : Str) = some (.type "tuple") := by decide +kernel
theorem b_list : bootBuiltins ("list" : Str) = some (.type "list") := by decide +kernel
theorem b_set : bootBuiltins ("set" : Str) = some (.type "set") := by decide +kernel
theorem b_range : bootBuiltins ("range" : Str) = some (.type "range") := by decide +kernel
theorem b_str : bootBuiltins ("str" : Str) = some (.type "str") := by decide +kernel
end L2

end
section
set_option maxRecDepth 100000
namespace L2
open PySem PySem.Spec PyProof.Rows
/-! ### repr of plain data, where no repr is under way -/
def rRepr (K : PySem.W.Frag) : List V → Hp → VK → Prop := fun xs H Q => ∃ x d, xs = [x] ∧ Dp K H x d ∧ d.showable = true ∧ d.hasDict = false ∧ d.depth ≤ 64 ∧ d.shown.length ≤ sizeLine ∧ Q (.str d.shown) H
theorem cr_repr {X : Cx} (hg : X.A.guards = some []) (hu : X.A.units + 100 < cLine) : CallR X (.builtin "repr") (rRepr X.K) := by
  intro pins s σ H xs us Q I r h
  obtain ⟨x, d, rfl, hd, hs, hno, hdep, hz, q⟩ := h
  cases r with
  | cons ru rn =>
    rename_i u us'
    cases rn
    obtain ⟨as, rd⟩ := Dp.reads I d x u hd ru
    have leaf : ∀ (y : Str) (tk : Nat), d.shown = y → EP X pins σ Q (.str y s.toks) { s with toks := tk } := fun y tk e => ⟨.str y, H, I.tok tk, ⟨_, rfl⟩, e ▸ q⟩
    cases rd with
    | none => exact PySem.P.repr_of_none (leaf _ _ rfl)
    | bool b => exact PySem.P.repr_of_bool (leaf _ _ (by cases b <;> rfl))
    | int i t => exact PySem.P.repr_of_int (of_decide_eq_true hs) (leaf _ _ rfl)
    | str y t => exact PySem.P.repr_of_str (leaf _ _ rfl) hz
    | list h1 h2 h3 h4 => exact repr_of_reads' (.list h1 h2 h3 h4) hs (fun z => by rw [hno] at z; cases z) hg (by omega) (fun b o e => e) (fun h' u tk hk => ⟨.str _, H, I.kept hk, ⟨u, rfl⟩, q⟩) hz
    | tuple h1 h2 h3 h4 => exact repr_of_reads' (.tuple h1 h2 h3 h4) hs (fun z => by rw [hno] at z; cases z) hg (by omega) (fun b o e => e) (fun h' u tk hk => ⟨.str _, H, I.kept hk, ⟨u, rfl⟩, q⟩) hz
    | dict h1 h2 h3 h4 h5 => cases hd
end L2

end
section
set_option maxRecDepth 100000
namespace L2
open PySem PySem.Spec PyProof.Rows
/-! ### a def's promise where no repr is under way around it -/
structure GOk (P : Program) (w : World) (K : PySem.W.Frag) (mg : Str → Option Value) (base : Heap) (CX : CXT) (k : Nat) (f : Addr) (fd : FuncData) (ps : List Str) (sp : Sp) : Prop where
  ln : ∀ vs H Q E, sp vs H Q E → vs.length = ps.length
  go : ∀ A : Around, A.guards = some [] → ∀ (outer : List Env) (s : Shared) (H : Hp) (args : Args) (us : List Value) (vs : List V) (Q : VK) (E : XK), Room k A → Env0 P w K mg base A outer s H → BindsTo s fd args (ps.zip us) → Vals vs us → sp vs H Q E →
    codeAny (model P w) A (.call (.ref f) args) (CR CX outer P w H s Q E) s
section
variable {P : Program} {w : World} {K : PySem.W.Frag} {mg : Str → Option Value} {base : Heap} {CX : CXT} {k : Nat} {f : Addr} {fd : FuncData} {N ps : List Str} {sp : Sp}
/-- what holds everywhere holds there too -/
theorem FnOk.g (F : FnOk P w K mg base CX k f fd ps sp) : GOk P w K mg base CX k f fd ps sp := ⟨F.len, fun A _ => F.run A⟩
/-- by the body, which may know that the guards are none -/
theorem g_of {name qual : Str} {params : Arguments} {body : List Stmt} {scope : Scope} {dV kV doc pm cdv ct oc : Value} {an od : Option Addr} {osl : Array (Option Value)}
    (at_f : K.lookup f = some ⟨oc, od, .func (PySem.W.fnOf name qual params body scope dV kV doc pm an cdv ct), osl⟩) (code : PySem.W.codeIn K cdv qual = true) (S : FnScope N ps scope) (ln : ∀ vs H Q E, sp vs H Q E → vs.length = ps.length)
    (bd : ∀ A : Around, A.guards = some [] → ∀ (outer : List Env) (s : Shared) (H : Hp) (vs : List V) (Q : VK) (E : XK), Room k (A.deeper (envOfC qual scope s.heap.objs.size f cdv)) → sp vs H Q E →
      ∃ t, PSs (cxOf CX P w K mg base N qual scope f cdv A outer s H E) body t ∧ t { nx := fun _ H' => Q .non H', rt := Q } (start N vs) H) :
    GOk P w K mg base CX (k + 1) f (PySem.W.fnOf name qual params body scope dV kV doc pm an cdv ct) ps sp := by
  constructor
  · exact ln
  intro A gA outer s H args us vs Q E room env bnd vals want
  have kept0 : ∀ c ob, base.get? c = some ob → s.heap.get? c = some ob := fun c ob z => (env.bs c ob z).1
  have inK := env.mod.kin.keeps kept0
  refine codeAny_call_function room.depth (inK _ _ at_f) rfl S.co S.gen rfl (PySem.W.codeRec_of inK code) (bnd _ _ _ _ ?_)
  refine wpAny_newFunctionEnv_cells S.kind ?_ fun en en_is s1 fresh => ?_
  · rintro ⟨n, v⟩ mem
    exact (S.par n (List.of_mem_zip mem).1).imp id fun cell => ⟨cell, PySem.W.cellsFrom_some _ _ _ (.inl cell)⟩
  subst en_is
  refine ⟨(env.mod.nolimit.keeps kept0).keeps fresh.toInCall.keep, codeAny_func ?_⟩
  obtain ⟨t, rd, start_ok⟩ := bd A gA outer s H vs Q E (room.deeper _) want
  refine wpAny_mono (rd.run [] s1 (start N vs) H _ (inv_start S room.hd env (ln _ _ _ _ want) vals fresh) start_ok) (fun fl s' ended => ?_) fun _ _ z => z
  cases fl with
  | ret u =>
    obtain ⟨v, _, H', J, rv, q⟩ := ended
    exact ⟨v, H', J.os, J.bare, J.base, J.hok, rv, q⟩
  | next =>
    obtain ⟨_, H', J, q⟩ := ended
    exact ⟨V.non, H', J.os, J.bare, J.base, J.hok, rfl, q⟩
  | brk => exact ended.choose_spec.choose_spec.2.elim
  | cont => exact ended.choose_spec.choose_spec.2.elim
/-- a def of the text, no defaults, nothing leaves it -/
theorem Fun.okG {x qual : Str} {st : Stmt} (F : Fun K x qual st f fd) (S : FnScope N ps (defScope st)) (ln : ∀ vs H Q E, sp vs H Q E → vs.length = ps.length)
    (bd : ∀ (cdv : Value) (A : Around), A.guards = some [] → ∀ (outer : List Env) (s : Shared) (H : Hp) (vs : List V) (Q : VK) (E : XK), Room k (A.deeper (envOfC qual (defScope st) s.heap.objs.size f cdv)) → sp vs H Q E →
      ∃ t, PSs (cxOf CX0 P w K mg base N qual (defScope st) f cdv A outer s H E).nox (defBody st) t ∧ t { nx := fun _ H' => Q .non H', rt := Q } (start N vs) H) : GOk P w K mg base CX0 (k + 1) f fd ps sp := by
  obtain ⟨oc, od, kV, doc, pm, an, cdv, ct, osl, rfl, at_f, code⟩ := F.ex
  refine g_of at_f code S ln fun A gA outer s H vs Q E room want => ?_
  obtain ⟨t, rd, q⟩ := bd cdv A gA outer s H vs Q E room want
  exact ⟨t, rd.nox, q⟩
/-- such a def under its name -/
structure CalG (P : Program) (w : World) (K : PySem.W.Frag) (mg : Str → Option Value) (base : Heap) (x : Str) (k : Nat) (sp : Sp) : Prop where
  ex : ∃ (f : Addr) (fd : FuncData) (ps : List Str), GOk P w K mg base CX0 k f fd ps sp ∧ mg x = some (.ref f) ∧ PySem.W.keepIn K (.ref f) = true ∧ Binds K fd ps []
end
section
variable {X : Cx} {e : Expr} {es : List Expr} {t : TA} {x : Str} {k : Nat} {sp : Sp} {p pos : Pos}
theorem pe_calG (c : CalG X.prog X.w X.K X.mg X.base x k sp) (gX : X.A.guards = some []) (hr : Room k X.A) (ha : PA X (e :: es) t) (hg : Gl X x := by rfl) (hdb : (x == ("__debug__" : Str)) = false := by decide)
    (he : starEach (e :: es) X.env = (false, eval e X.env) :: starEach es X.env := by rfl) (hpl : (backTo pos (starEach es X.env)).any (·.1) = false := by rfl) :
    PE X (.Call (.Name x p) (e :: es) [] pos) (tCal sp t) := by
  obtain ⟨f, fd, ps, F, hm, hk, hb⟩ := c.ex
  refine ⟨fun pins s σ H Q I h => wpAny_Call_Name_kw (ld_glob I hg hm ?_ hdb)⟩
  refine PySem.W.callWith_K (h₀ := X.base) I.ok.mod.kin hk (thn (ha.run pos pins s σ H _ I h) fun us s1 got => ?_) he hpl
  obtain ⟨vs, H1, I1, rv, want⟩ := got
  refine ⟨I1.kIn, wpAny_call ?_⟩
  have n := rv.length ▸ F.ln _ _ _ _ want
  have bnd := hb s1 us I1.kIn (by rw [List.append_nil]; exact n)
  rw [List.append_nil] at bnd
  refine codeAny_mono (F.go X.A gX X.stack s1 H1 ⟨us, []⟩ us vs Q E0 hr I1.env0 bnd rv want) fun r s' ended => ?_
  match r, ended with
  | .ok (.ret u), z => exact I1.after z
  | .ok .next, z => exact z.elim
  | .ok .brk, z => exact z.elim
  | .ok .cont, z => exact z.elim
  | .error _, z => exact z.elim
end
end L2

end
section
set_option maxRecDepth 100000
namespace L2
open PySem PySem.Spec PyProof.Rows
/-! ### the end, by a promise that wants no guards -/
section
variable {P : Program} {w : World} {K : PySem.W.Frag} {mg mb : Str → Option Value} {k : Nat} {fa a : Addr} {fd : FuncData} {x : Str} {sp : Sp} {s1 : Shared} {vs : List Value} {ns : List Int}
/-- the heap in which the script alone may be tracked, and only if it is none of the text's own objects -/
def scrH (K : PySem.W.Frag) (a : Addr) (vs : List Value) (ns : List Int) : Hp := fun b => if b = a ∧ K.lookup a = none then some (.frz { cls := .type "list", data := .seq vs.toArray } (.lst (ns.map V.int))) else none
theorem scrH_some {b : Addr} {o : HO} (h : scrH K a vs ns b = some o) : b = a ∧ K.lookup a = none ∧ o = .frz { cls := .type "list", data := .seq vs.toArray } (.lst (ns.map V.int)) := by
  unfold scrH at h
  split at h
  · rename_i c
    cases h
    exact ⟨c.1, c.2, rfl⟩
  · cases h
theorem scrH_only : Only (scrH K a vs ns) := fun b => by
  cases e : scrH K a vs ns b with
  | none => exact .inl rfl
  | some o => exact .inr ⟨_, _, congrArg some (scrH_some e).2.2⟩
theorem scr_call (inK : K.In s1.heap) (tops : s1.heap.Ns mainGlobals mg) (blt : s1.heap.Ns builtinsNs mb) (boot : ∀ x : Str, x ≠ "__name__" → mb x = bootBuiltins x) (lim : s1.heap.NoLimit) (none_run : s1.gens = #[])
    (obj : s1.heap.get? a = some { cls := .type "list", data := .seq vs.toArray }) (isI : IntsAre vs ns) (few : ns.length ≤ sizeLine) (room : Room k callerA)
    (F : ∀ base : Heap, K.In base → base.Ns mainGlobals mg → GOk P w K mg base CX0 k fa fd [x] sp) (bnd : ∀ (s : Shared) (u : Value), BindsTo s fd ⟨[u], []⟩ [(x, u)])
    (want : ∀ H : Hp, Only H → SqL K H a (ns.map V.int) → sp [.ref a] H (fun v _ => v = .bl true) fun _ _ _ => False) :
    codeAny (model P w) callerA (.call (.ref fa) ⟨[.ref a], []⟩) (fun r s' => r = .ok (.ret (.bool true)) ∧ OldK s1.heap s'.heap ∧ s'.os = s1.os ∧ AllBare s'.gens) s1 := by
  have vals := vals_ints isI
  have lv := isI.length
  have stand : ∀ {b : Addr} {o : Obj}, s1.heap.get? b = some o → b ≠ a ∨ K.lookup a ≠ none → (hidT s1.heap (scrH K a vs ns)).get? b = some o := fun {b o} e c => hidT_get e (by
    cases z : scrH K a vs ns b with
    | none => rfl
    | some u =>
      obtain ⟨z1, z2, _⟩ := scrH_some z
      rcases c with c | c
      · exact absurd z1 c
      · exact absurd z2 c)
  have dicts : ∀ {b : Addr} {o : Obj} {es : Array DictEntry} {ep : Nat}, s1.heap.get? b = some o → o.data = .dict es ep → b ≠ a := fun {b o es ep} e d z => by
    rw [z, obj] at e
    cases e
    cases d
  have spaces : ∀ {b : Addr} {m : Str → Option Value}, s1.heap.Ns b m → (hidT s1.heap (scrH K a vs ns)).Ns b m := fun {b m} ns => by
    obtain ⟨o, es, ep, e, d, r⟩ := ns
    exact ⟨o, es, ep, stand e (.inl (dicts e d)), d, r⟩
  have inB : K.In (hidT s1.heap (scrH K a vs ns)) := fun b o e => stand (inK b o e) (by
    by_cases z : b = a
    · exact .inr fun n => by rw [← z, e] at n; cases n
    · exact .inl z)
  have limB : (hidT s1.heap (scrH K a vs ns)).NoLimit := let ⟨mc, h1, h2⟩ := lim; ⟨mc, spaces h1, h2⟩
  have long : (ns.map V.int).length ≤ sizeLine := by rw [List.length_map]; exact few
  have ok : HOk P w (scrH K a vs ns) s1.heap := fun b o e => by
    obtain ⟨rfl, _, rfl⟩ := scrH_some e
    exact ⟨obj, long, vs, _, vals, obj⟩
  have listed : SqL K (scrH K a vs ns) a (ns.map V.int) := by
    cases lk : K.lookup a with
    | none => exact .inl (.inr ⟨_, if_pos ⟨rfl, lk⟩⟩)
    | some o =>
      have e := (inK a o lk).symm.trans obj
      cases e
      exact .inr ⟨_, vs.toArray, _, lk, rfl, rfl, rfl, by rw [List.size_toArray, lv]; exact few, by simpa using vals⟩
  have env : Env0 P w K mg (hidT s1.heap (scrH K a vs ns)) callerA [] s1 (scrH K a vs ns) :=
    { frames := rfl, mod := ⟨inB, spaces tops, ⟨mb, spaces blt, boot⟩, limB⟩, bs := fun b o e => of_hidT e, bsz := Nat.le_of_eq (hidT_size _ _), funs := trivial, frf := fun b z => (List.not_mem_nil z).elim, hok := ok, bare := .of_eq none_run }
  refine codeAny_mono ((F _ inB (spaces tops)).go callerA rfl [] s1 _ ⟨[.ref a], []⟩ [.ref a] [.ref a] _ _ room env (bnd s1 (.ref a)) (.cons rfl .nil) (want _ scrH_only listed)) fun r s' ended => ?_
  match r, ended with
  | .ok (.ret u), z =>
    obtain ⟨v, H', os, bare, un, ok', rv, q⟩ := z
    have ev : v = .bl true := q
    rw [ev] at rv
    cases rv
    refine ⟨rfl, .of_keep fun b o e => ?_, os, bare⟩
    cases n : scrH K a vs ns b with
    | none => exact un.keep b o e n List.not_mem_nil List.not_mem_nil
    | some t =>
      obtain ⟨rfl, _, rfl⟩ := scrH_some n
      have same := (ok' b _ (un.frzs b _ _ n)).1
      rw [obj] at e
      cases e
      exact same
  | .ok .next, z => exact z.elim
  | .ok .brk, z => exact z.elim
  | .ok .cont, z => exact z.elim
  | .error _, z => exact z.elim
end
theorem walk_ofG {l : PySem.W.OpenLaw} {n k : Nat} {q : Program} {loose : List Str} {XP : (Str → Option Value) → Heap → Prop} {YP : World → Heap → Prop} {d : DefRec} {K : Params → PySem.W.Frag} {sp : World → Sp} {x : Str}
    (hn : l.most = some n) (hn2 : n ≤ sizeLine) (hdf : d.params.defaults = []) (room : Room k callerA) (hY : ∀ (w : World) (h : Heap), YP w h → (K w.params).In h)
    (F : ∀ (w : World) (mg : Str → Option Value) (fa : Addr) (h : Heap), (K w.params).In h → h.Ns mainGlobals mg → mg d.name = some (.ref fa) →
      ∃ fd : FuncData, (∀ (s : Shared) (u : Value), BindsTo s fd ⟨[u], []⟩ [(x, u)]) ∧ ∀ base : Heap, (K w.params).In base → base.Ns mainGlobals mg → GOk l.prog w (K w.params) mg base CX0 k fa fd [x] (sp w))
    (want : ∀ (w : World) (H : Hp) (a : Addr) (ns : List Int), ns.length ≤ n → Only H → SqL (K w.params) H a (ns.map V.int) → sp w [.ref a] H (fun v _ => v = .bl true) fun _ _ _ => False) :
    PySem.W.WalkO q loose XP YP l.row.toRowW d [] (fun f vs => PySem.call f vs) := by
  refine Att.attach_call hn hdf fun w s0 s1 mg mb fa o pm cd doc a vs ns G Y _ _ _ named obj isI len none_run => ?_
  obtain ⟨fd, bnd, ok⟩ := F w mg fa _ (hY w _ Y) G.T.g named
  exact scr_call (hY w _ Y) G.T.g G.T.b G.T.builtins G.T.nolimit none_run obj isI (Nat.le_trans len hn2) room ok bnd fun H hO hS => want w H a ns len hO hS
end L2

end
section
set_option maxRecDepth 100000
namespace Hue
open PySem PySem.Spec PyProof.Rows L2
/-! ### heaps -/
theorem same_new {H : Hp} {p : Addr} {o : HO} (h : H p = Option.none) : Same H (upd H p o) := fun b u e => by
  rw [upd_ne (ne_of_none e h)]; exact e
theorem same_upd {H0 H : Hp} {p : Addr} {o : HO} (s : Same H0 H) (h : H0 p = Option.none) : Same H0 (upd H p o) := fun b u e => by
  rw [upd_ne (ne_of_none e h)]; exact s b u e
theorem same_then {H0 H : Hp} {p : Addr} {o : HO} (s : Same H0 H) (h : H p = Option.none) : Same H0 (upd H p o) := s.trans (same_new h)
theorem Same.tup {K : PySem.W.Frag} {H H' : Hp} {a : Addr} {xs : List V} (e : Same H H') (h : SqT K H a xs) : SqT K H' a xs := by
  rcases h with (h | ⟨o, h⟩) | h
  · exact .inl (.inl (e _ _ h))
  · exact .inl (.inr ⟨o, e _ _ h⟩)
  · exact .inr h
theorem ifT {c : Bool} {A B : Prop} (hc : c = true) (h : A) : if c = true then A else B := by rw [if_pos hc]; exact h
theorem ifF {c : Bool} {A B : Prop} (hc : c = false) (h : B) : if c = true then A else B := by rw [hc, if_neg Bool.false_ne_true]; exact h
theorem yesT {σ : L2.St} {H : Hp} {X Y : Hp → Prop} (h : X H) : tYes σ H (fun b H3 => if b = true then X H3 else Y H3) := h
/-! ### lists of numbers -/
def nI (l : List Nat) : List Int := l.map fun k : Nat => (k : Int)
def nL (l : List Nat) : List V := (nI l).map V.int
theorem nL_get {l : List Nat} {i k : Nat} (h : l[i]? = some k) : (nL l)[i]? = some (V.int (k : Int)) := by
  unfold nL nI; simp [List.getElem?_map, h]
theorem nL_len (l : List Nat) : (nL l).length = l.length := by unfold nL nI; simp
theorem nI_len (l : List Nat) : (nI l).length = l.length := by unfold nI; simp
theorem mem_nI {l : List Nat} {z : Int} : z ∈ nI l ↔ ∃ k, k ∈ l ∧ (k : Int) = z := by unfold nI; simp
theorem nL_app (a b : List Nat) : nL (a ++ b) = nL a ++ nL b := by unfold nL nI; simp
theorem nL_one (k : Nat) : nL [k] = [V.int (k : Int)] := rfl
theorem asc_ext : ∀ {a b : List Int}, a.Pairwise (· < ·) → b.Pairwise (· < ·) → (∀ k, k ∈ a ↔ k ∈ b) → a = b
  | [], [], _, _, _ => rfl
  | [], y :: b, _, _, h => absurd ((h y).mpr List.mem_cons_self) List.not_mem_nil
  | x :: a, [], _, _, h => absurd ((h x).mp List.mem_cons_self) List.not_mem_nil
  | x :: a, y :: b, ha, hb, h => by
    rw [List.pairwise_cons] at ha hb
    have exy : x = y := by
      rcases List.mem_cons.mp ((h x).mp List.mem_cons_self) with e | e
      · exact e
      · rcases List.mem_cons.mp ((h y).mpr List.mem_cons_self) with f | f
        · exact f.symm
        · have h1 := hb.1 x e
          have h2 := ha.1 y f
          omega
    subst exy
    rw [asc_ext ha.2 hb.2 fun k => ⟨fun hk => ?_, fun hk => ?_⟩]
    · rcases List.mem_cons.mp ((h k).mp (List.mem_cons_of_mem _ hk)) with e | e
      · have := ha.1 k hk; omega
      · exact e
    · rcases List.mem_cons.mp ((h k).mpr (List.mem_cons_of_mem _ hk)) with e | e
      · have := hb.1 k hk; omega
      · exact e
/-! ### relations on lamps -/
abbrev Rel := Nat → Nat → Bool
def Bel (n : Nat) (R : Rel) (i : Nat) : List Nat := (List.range n).filter fun j => R i j
theorem mem_Bel {n : Nat} {R : Rel} {i j : Nat} : j ∈ Bel n R i ↔ j < n ∧ R i j = true := by unfold Bel; simp
theorem Bel_asc (n : Nat) (R : Rel) (i : Nat) : (nI (Bel n R i)).Pairwise (· < ·) := by
  unfold nI
  rw [List.pairwise_map]
  have h : (List.range n).Pairwise (· < ·) := List.pairwise_lt_range
  refine List.Pairwise.imp ?_ (List.Pairwise.filter _ h)
  intro a b hab; omega
theorem Bel_len (n : Nat) (R : Rel) (i : Nat) : (Bel n R i).length ≤ n := by
  unfold Bel
  refine Nat.le_trans (List.length_filter_le ..) ?_
  rw [List.length_range]; exact Nat.le_refl _
theorem Bel_congr {n : Nat} {R S : Rel} {i : Nat} (h : ∀ j, j < n → R i j = S i j) : Bel n R i = Bel n S i := by
  unfold Bel
  refine List.filter_congr fun j hj => ?_
  exact h j (List.mem_range.mp hj)
def addW (R : Rel) (u l : Nat) : Rel := fun i j => R i j || ((i == u || R i u) && (j == l || R l j))
/-- at b: a list of lists of numbers -/
def Rows (H : Hp) (b : Addr) (rows : List (List Nat)) : Prop :=
  ∃ as : List Addr, H b = some (.lst (as.map V.ref)) ∧ as.length = rows.length ∧ ∀ (i : Nat) a r, as[i]? = some a → rows[i]? = some r → H a = some (.lst (nL r))
theorem Rows.same {H H' : Hp} {b : Addr} {rows : List (List Nat)} (h : Rows H b rows) (s : Same H H') : Rows H' b rows := by
  obtain ⟨as, h1, h2, h3⟩ := h
  exact ⟨as, s _ _ h1, h2, fun i a r ha hr => s _ _ (h3 i a r ha hr)⟩
/-- the row at i, as Python reads it -/
theorem Rows.at {H : Hp} {b : Addr} {rows : List (List Nat)} (h : Rows H b rows) {i : Nat} {r : List Nat} (hr : rows[i]? = some r) : ∃ xs a, H b = some (.lst xs) ∧ xs.length = rows.length ∧ xs[i]? = some (V.ref a) ∧ H a = some (.lst (nL r)) := by
  obtain ⟨as, h1, h2, h3⟩ := h
  have hi : i < as.length := by rw [h2]; exact (List.getElem?_eq_some_iff.mp hr).1
  refine ⟨_, as[i], h1, by rw [List.length_map, h2], by rw [List.getElem?_map, List.getElem?_eq_getElem hi]; rfl, h3 i _ r (List.getElem?_eq_getElem hi) hr⟩
def relRows (n : Nat) (R : Rel) : List (List Nat) := (List.range n).map (Bel n R)
theorem relRows_at {n : Nat} {R : Rel} {i : Nat} (h : i < n) : (relRows n R)[i]? = some (Bel n R i) := by
  unfold relRows; rw [List.getElem?_map, List.getElem?_range h]; rfl
theorem relRows_len (n : Nat) (R : Rel) : (relRows n R).length = n := by unfold relRows; simp
theorem flat_nL (l : List Nat) : (nL l).all flatV = true := by
  unfold nL; rw [List.all_eq_true]; intro x hx
  obtain ⟨z, _, rfl⟩ := List.mem_map.mp hx
  rfl
theorem in_nL {k : Nat} {l : List Nat} : inV (V.int (k : Int)) (nL l) = decide (k ∈ l) := by
  unfold inV nL nI
  rw [Bool.eq_iff_iff, List.any_eq_true, decide_eq_true_eq]
  constructor
  · rintro ⟨x, hx, e⟩
    obtain ⟨z, hz, rfl⟩ := List.mem_map.mp hx
    obtain ⟨m, hm, rfl⟩ := List.mem_map.mp hz
    have e2 : ((m : Int) == (k : Int)) = true := e
    have e3 : (m : Int) = (k : Int) := by simpa using e2
    have e4 : m = k := by omega
    rw [← e4]; exact hm
  · intro hk
    refine ⟨V.int k, List.mem_map.mpr ⟨k, List.mem_map.mpr ⟨k, hk, rfl⟩, rfl⟩, ?_⟩
    show ((k : Int) == (k : Int)) = true
    simp
theorem Rows.ext {H : Hp} {b e : Addr} {rows : List (List Nat)} {φ : Heap → Prop} {o : HO} (h : Rows H b rows) (he : H e = some (.ext φ)) : Rows (upd H e o) b rows := by
  obtain ⟨as, h1, h2, h3⟩ := h
  refine ⟨as, ?_, h2, fun i a r ha hr => ?_⟩
  · rw [upd_ne (ne_of h1 he (by intro z; cases z))]; exact h1
  · rw [upd_ne (ne_of (h3 i a r ha hr) he (by intro z; cases z))]; exact h3 i a r ha hr
/-- the tuples at ts are the pairs ps -/
def Pairs (H : Hp) (ts : List Addr) (ps : List (Nat × Nat)) : Prop :=
  ts.length = ps.length ∧ ∀ (i : Nat) t p, ts[i]? = some t → ps[i]? = some p → H t = some (.tup [.int (p.1 : Int), .int (p.2 : Int)])
theorem Pairs.same {H H' : Hp} {ts : List Addr} {ps : List (Nat × Nat)} (h : Pairs H ts ps) (s : Same H H') : Pairs H' ts ps := ⟨h.1, fun i t p a b => s _ _ (h.2 i t p a b)⟩
def relOf (ps : List (Nat × Nat)) : Rel := ps.foldl (fun R p => addW R p.1 p.2) fun _ _ => false
theorem relOf_more {ps : List (Nat × Nat)} {i : Nat} {p : Nat × Nat} (h : ps[i]? = some p) : relOf (ps.take (i + 1)) = addW (relOf (ps.take i)) p.1 p.2 := by
  unfold relOf
  rw [List.take_add_one, h, List.foldl_append]
  rfl
/-- along a rank the relation goes up -/
theorem relOf_rank {ρ : Nat → Nat} : ∀ {ps : List (Nat × Nat)}, (∀ p ∈ ps, ρ p.1 < ρ p.2) → ∀ i j, relOf ps i j = true → ρ i < ρ j := by
  have key : ∀ (ps : List (Nat × Nat)) (R : Rel), (∀ i j, R i j = true → ρ i < ρ j) → (∀ p ∈ ps, ρ p.1 < ρ p.2) → ∀ i j, ps.foldl (fun R p => addW R p.1 p.2) R i j = true → ρ i < ρ j := by
    intro ps
    induction ps with
    | nil => intro R hR _; exact hR
    | cons p ps ih =>
      intro R hR hp
      refine ih (addW R p.1 p.2) (fun i j h => ?_) fun q hq => hp q (List.mem_cons_of_mem _ hq)
      have hp0 := hp p List.mem_cons_self
      unfold addW at h
      rw [Bool.or_eq_true, Bool.and_eq_true, Bool.or_eq_true, Bool.or_eq_true, beq_iff_eq, beq_iff_eq] at h
      rcases h with h | ⟨h1, h2⟩
      · exact hR i j h
      · have a1 : ρ i ≤ ρ p.1 := by
          rcases h1 with e | e
          · rw [e]; exact Nat.le_refl _
          · exact Nat.le_of_lt (hR _ _ e)
        have a2 : ρ p.2 ≤ ρ j := by
          rcases h2 with e | e
          · rw [e]; exact Nat.le_refl _
          · exact Nat.le_of_lt (hR _ _ e)
        omega
  intro ps hp i j h
  exact key ps _ (fun i j h => by cases h) hp i j h
theorem mem_take_of {α : Type} {l : List α} {n : Nat} {x : α} (h : x ∈ l.take n) : x ∈ l := List.mem_of_mem_take h
/-! ### lists that a comprehension collects -/
def Coll (H1 : Hp) (D : Addr) (f : Nat → List V) (i : Nat) (H2 : Hp) : Prop :=
  ∃ as : List Addr, H2 D = some (.lst (as.map V.ref)) ∧ as.length = i ∧ Same H1 H2 ∧ ∀ (j : Nat) a, as[j]? = some a → a ≠ D ∧ H2 a = some (.lst (f j))
theorem Coll.start {H1 : Hp} {D : Addr} {f : Nat → List V} (hD : H1 D = Option.none) : Coll H1 D f 0 (upd H1 D (.lst [])) := ⟨[], upd_same, rfl, same_new hD, fun j a e => by simp at e⟩
theorem Coll.more {H1 H2 H3 : Hp} {D a : Addr} {f : Nat → List V} {i : Nat} (c : Coll H1 D f i H2) (hD : H1 D = Option.none) (s : Same H2 H3) (na : a ≠ D) (ha : H3 a = some (.lst (f i))) (hi : i < 1000) :
    ∃ acc, H3 D = some (.lst acc) ∧ acc.length < sizeLine ∧ Coll H1 D f (i + 1) (upd H3 D (.lst (acc ++ [V.ref a]))) := by
  obtain ⟨as, h1, h2, s2, h3⟩ := c
  refine ⟨_, s _ _ h1, by rw [List.length_map, h2, sizeLine_eq]; omega, as ++ [a], by rw [upd_same, List.map_append]; rfl, by rw [List.length_append, h2]; rfl, same_upd (s2.trans s) hD, fun j c2 e => ?_⟩
  rcases Nat.lt_or_ge j as.length with lt | ge
  · rw [List.getElem?_append_left lt] at e
    obtain ⟨n1, n2⟩ := h3 j c2 e
    exact ⟨n1, by rw [upd_ne n1]; exact s _ _ n2⟩
  · rw [List.getElem?_append_right ge] at e
    have j0 : j - as.length = 0 := by
      rcases Nat.eq_zero_or_pos (j - as.length) with z | z
      · exact z
      · rw [List.getElem?_eq_none (by rw [List.length_singleton]; exact z)] at e; cases e
    rw [j0] at e
    cases e
    have ji : j = i := by omega
    rw [ji]
    exact ⟨na, by rw [upd_ne na]; exact ha⟩
theorem Coll.same {H1 H2 : Hp} {D : Addr} {f : Nat → List V} {i : Nat} (c : Coll H1 D f i H2) : Same H1 H2 := let ⟨_, _, _, s, _⟩ := c; s
theorem Coll.rows {H1 H2 : Hp} {D : Addr} {n : Nat} {R : Rel} (c : Coll H1 D (fun j => nL (Bel n R j)) n H2) : Rows H2 D (relRows n R) := by
  obtain ⟨as, h1, h2, _, h3⟩ := c
  refine ⟨as, h1, by rw [h2, relRows_len], fun i a r ha hr => ?_⟩
  have hi : i < n := by rw [← h2]; exact (List.getElem?_eq_some_iff.mp ha).1
  rw [relRows_at hi] at hr
  cases hr
  exact (h3 i a ha).2
/-! ### all but one place as it was -/
def SB (x : Addr) (H H' : Hp) : Prop := ∀ b o, b ≠ x → H b = some o → H' b = some o
theorem SB.of {x : Addr} {H H' : Hp} (s : Same H H') : SB x H H' := fun b o _ e => s b o e
theorem SB.trans {x : Addr} {H H1 H2 : Hp} (a : SB x H H1) (b : SB x H1 H2) : SB x H H2 := fun c o n e => b c o n (a c o n e)
theorem SB.refl (x : Addr) (H : Hp) : SB x H H := fun _ _ _ e => e
theorem SB.upd {x : Addr} {H H1 : Hp} {o : HO} (a : SB x H H1) : SB x H (upd H1 x o) := fun c u n e => by rw [upd_ne n]; exact a c u n e
theorem SB.rows {x b : Addr} {H H' : Hp} {rows : List (List Nat)} {C dx : Addr} {fs : List (Str × V)} (s : SB x H H') (hx : H x = some (.ins C dx fs)) (h : Rows H b rows) : Rows H' b rows := by
  obtain ⟨as, h1, h2, h3⟩ := h
  exact ⟨as, s _ _ (ne_of h1 hx (by intro z; cases z)) h1, h2, fun i a r ha hr => s _ _ (ne_of (h3 i a r ha hr) hx (by intro z; cases z)) (h3 i a r ha hr)⟩
theorem lk_same (f : Str) (v : V) (fs : List (Str × V)) : (putF f v fs).lookup f = some v := by rw [lookup_putF, if_pos rfl]
theorem lk_ne {f g : Str} (v : V) (fs : List (Str × V)) (h : ¬ g = f) : (putF f v fs).lookup g = fs.lookup g := by rw [lookup_putF, if_neg h]
theorem put_few {f : Str} {v : V} {fs : List (Str × V)} {k : Nat} (h : fs.length ≤ k) : (putF f v fs).length ≤ k + 1 := by
  have := length_putF f v fs; omega
/-! ### a def with defaults, all parameters given -/
structure FunV (K : PySem.W.Frag) (x qual : Str) (st : Stmt) (f : Addr) (fd : FuncData) : Prop where
  ex : ∃ (oc : Value) (od : Option Addr) (dV kV doc pm : Value) (an : Option Addr) (cdv ct : Value) (osl : Array (Option Value)),
    fd = PySem.W.fnOf x qual (defArgs st) (defBody st) (defScope st) dV kV doc pm an cdv ct ∧ K.lookup f = some ⟨oc, od, .func fd, osl⟩ ∧ PySem.W.codeIn K cdv qual = true
  kp : PySem.W.keepIn K (.ref f) = true
theorem FunV.ok {P : Program} {w : World} {K : PySem.W.Frag} {mg : Str → Option Value} {base : Heap} {x qual : Str} {st : Stmt} {f : Addr} {fd : FuncData} {N ps : List Str} {k : Nat} {sp : Sp} (F : FunV K x qual st f fd) (S : FnScope N ps (defScope st)) (len : ∀ vs H Q E, sp vs H Q E → vs.length = ps.length)
    (hbody : ∀ (cdv : Value) (A : Around) (outer : List Env) (s : Shared) (H : Hp) (vs : List V) (Q : VK) (E : XK), Room k (A.deeper (envOfC qual (defScope st) s.heap.objs.size f cdv)) → sp vs H Q E →
      ∃ t, PSs (cxOf CX0 P w K mg base N qual (defScope st) f cdv A outer s H E).nox (defBody st) t ∧ t { nx := fun _ H' => Q .non H', rt := Q } (start N vs) H) : FnOk P w K mg base CX0 (k + 1) f fd ps sp := by
  obtain ⟨oc, od, dV, kV, doc, pm, an, cdv, ct, osl, rfl, lk, hcd⟩ := F.ex
  refine fn_of lk hcd S len fun A outer s H vs Q E hr hsp => ?_
  obtain ⟨t, h, q⟩ := hbody cdv A outer s H vs Q E hr hsp
  exact ⟨t, h.nox, q⟩
/-- a store into a list by place -/
theorem set_at {H : Hp} {p : Addr} {xs : List V} {k : Int} {j : Nat} {v : V} {Q : Hp → Prop} (hp : H p = some (.lst xs)) (hk : ixN xs.length k = some j)
    (h : ∀ H', SB p H H' → H' p = some (.lst (xs.set j v)) → Q H') : rSetL (.ref p) (.int k) v H Q := ⟨p, xs, k, j, rfl, rfl, hp, hk, h _ (SB.upd (SB.refl p H)) upd_same⟩
theorem ixN_nat {n k : Nat} (h : k < n) : ixN n (k : Int) = some k := by
  unfold ixN
  rw [if_pos (by omega), if_pos (by omega), Int.toNat_natCast]
theorem SB.to_same {x : Addr} {H0 H H' : Hp} (s : SB x H H') (s0 : Same H0 H) (n : H0 x = Option.none) : Same H0 H' := fun b o e => s b o (fun z => by rw [z, n] at e; cases e) (s0 b o e)
end Hue

end
section
set_option maxRecDepth 100000
namespace Hue
open PySem PySem.Spec PyProof.Rows L2
/-! ### the order list -/
def flip (R : Rel) : Rel := fun i j => R j i
/-- k is the next in turn -/
def nxt (n : Nat) (R : Rel) (ord : List Nat) (k : Nat) : Bool := !decide (k ∈ ord) && (Bel n (flip R) k).all fun j => decide (j ∈ ord)
def cands (n : Nat) (R : Rel) (ord : List Nat) : List Nat := (List.range n).filter (nxt n R ord)
def ordN (n : Nat) (R : Rel) : Nat → List Nat
  | 0 => []
  | k + 1 => ordN n R k ++ (cands n R (ordN n R k)).take 1
def Ranked (R : Rel) : Prop := ∃ ρ : Nat → Nat, ∀ i j, R i j = true → ρ i < ρ j
theorem nxt_iff {n : Nat} {R : Rel} {ord : List Nat} {k : Nat} : nxt n R ord k = true ↔ k ∉ ord ∧ ∀ j, j < n → R j k = true → j ∈ ord := by
  unfold nxt
  rw [Bool.and_eq_true, Bool.not_eq_true', decide_eq_false_iff_not, List.all_eq_true]
  constructor
  · rintro ⟨h1, h2⟩
    exact ⟨h1, fun j hj hr => of_decide_eq_true (h2 j (mem_Bel.mpr ⟨hj, hr⟩))⟩
  · rintro ⟨h1, h2⟩
    exact ⟨h1, fun j hj => decide_eq_true (h2 j (mem_Bel.mp hj).1 (mem_Bel.mp hj).2)⟩
theorem cands_ne {n : Nat} {R : Rel} (hR : Ranked R) {ord : List Nat} (hl : ord.length < n) : ∃ c rest, cands n R ord = c :: rest := by
  obtain ⟨ρ, hρ⟩ := hR
  have least : ∀ m i, i < n → i ∉ ord → ρ i ≤ m → ∃ c, c < n ∧ nxt n R ord c = true := by
    intro m
    induction m with
    | zero =>
      intro i hi hn hm
      refine ⟨i, hi, nxt_iff.mpr ⟨hn, fun j hj hr => ?_⟩⟩
      have := hρ j i hr
      omega
    | succ m ih =>
      intro i hi hn hm
      rcases Classical.em (∃ j, j < n ∧ R j i = true ∧ j ∉ ord) with ⟨j, hj, hr, hjn⟩ | none
      · have := hρ j i hr
        exact ih j hj hjn (by omega)
      · refine ⟨i, hi, nxt_iff.mpr ⟨hn, fun j hj hr => ?_⟩⟩
        rcases Classical.em (j ∈ ord) with h | h
        · exact h
        · exact absurd ⟨j, hj, hr, h⟩ none
  obtain ⟨i, hi, hn⟩ := st_missing ord n hl
  obtain ⟨c, hc, hx⟩ := least (ρ i) i hi hn (Nat.le_refl _)
  cases e : cands n R ord with
  | nil =>
    have : c ∈ cands n R ord := List.mem_filter.mpr ⟨List.mem_range.mpr hc, hx⟩
    rw [e] at this
    cases this
  | cons a rest => exact ⟨a, rest, rfl⟩
theorem cands_asc (n : Nat) (R : Rel) (ord : List Nat) : (cands n R ord).Pairwise (· < ·) := List.Pairwise.filter _ List.pairwise_lt_range
/-- the least of the candidates is the first -/
theorem cands_min {n : Nat} {R : Rel} {ord : List Nat} {c : Nat} {rest : List Nat} (e : cands n R ord = c :: rest) {m : Int} (hm : m ∈ nI (cands n R ord)) (hle : ∀ y, y ∈ nI (cands n R ord) → m ≤ y) : m = (c : Int) := by
  obtain ⟨k, hk, rfl⟩ := mem_nI.mp hm
  have h1 := hle (c : Int) (mem_nI.mpr ⟨c, by rw [e]; exact List.mem_cons_self, rfl⟩)
  have pw := cands_asc n R ord
  rw [e] at hk pw
  rcases List.mem_cons.mp hk with z | z
  · rw [z]
  · have := (List.pairwise_cons.mp pw).1 k z
    omega
theorem ordN_succ {n : Nat} {R : Rel} {k c : Nat} {rest : List Nat} (e : cands n R (ordN n R k) = c :: rest) : ordN n R (k + 1) = ordN n R k ++ [c] := by
  show ordN n R k ++ (cands n R (ordN n R k)).take 1 = _
  rw [e]; rfl
structure OrdOk (n : Nat) (R : Rel) (ord : List Nat) : Prop where
  nd : ord.Nodup
  lt : ∀ i ∈ ord, i < n
  up : ∀ q i, ord[q]? = some i → ∀ j, j < n → R j i = true → j ∈ ord.take q
theorem ordN_ok {n : Nat} {R : Rel} (hR : Ranked R) : ∀ k, k ≤ n → (ordN n R k).length = k ∧ OrdOk n R (ordN n R k)
  | 0, _ => ⟨rfl, ⟨List.nodup_nil, fun i h => absurd h List.not_mem_nil, fun q i h => by simp [ordN] at h⟩⟩
  | k + 1, hk => by
    obtain ⟨l, ok⟩ := ordN_ok hR k (Nat.le_of_succ_le hk)
    obtain ⟨c, rest, e⟩ := cands_ne (n := n) hR (ord := ordN n R k) (by omega)
    have cm : c ∈ cands n R (ordN n R k) := by rw [e]; exact List.mem_cons_self
    obtain ⟨c1, c2⟩ := List.mem_filter.mp cm
    obtain ⟨c3, c4⟩ := nxt_iff.mp c2
    rw [ordN_succ e]
    refine ⟨by rw [List.length_append, l]; rfl, ⟨?_, fun i hi => ?_, fun q i hq j hj hr => ?_⟩⟩
    · rw [List.nodup_append]
      refine ⟨ok.nd, by simp, fun a ha b hb => ?_⟩
      rw [List.mem_singleton.mp hb]
      intro z
      exact c3 (z ▸ ha)
    · rcases List.mem_append.mp hi with h | h
      · exact ok.lt i h
      · rw [List.mem_singleton.mp h]; exact List.mem_range.mp c1
    · rcases Nat.lt_or_ge q (ordN n R k).length with h | h
      · rw [List.getElem?_append_left h] at hq
        rw [List.take_append_of_le_length (Nat.le_of_lt h)]
        exact ok.up q i hq j hj hr
      · rw [List.getElem?_append_right h] at hq
        have q0 : q - (ordN n R k).length = 0 := by
          rcases Nat.eq_zero_or_pos (q - (ordN n R k).length) with z | z
          · exact z
          · rw [List.getElem?_eq_none (by rw [List.length_singleton]; exact z)] at hq; cases hq
        rw [q0] at hq
        cases hq
        have eq : q = (ordN n R k).length := by omega
        rw [eq, List.take_left']
        · exact c4 j hj hr
        · rfl
/-- every lamp stands in it -/
theorem ord_all {n : Nat} {R : Rel} (hR : Ranked R) {i : Nat} (hi : i < n) : i ∈ ordN n R n := by
  obtain ⟨l, ok⟩ := ordN_ok hR n (Nat.le_refl _)
  rcases Classical.em (i ∈ ordN n R n) with h | h
  · exact h
  · exfalso
    have := nat_nodup_len (i :: ordN n R n) (List.range n) (List.nodup_cons.mpr ⟨h, ok.nd⟩) fun x hx => by
      rcases List.mem_cons.mp hx with z | z
      · rw [z]; exact List.mem_range.mpr hi
      · exact List.mem_range.mpr (ok.lt x z)
    rw [List.length_cons, l, List.length_range] at this
    omega
theorem relOf_ranked {ps : List (Nat × Nat)} {ρ : Nat → Nat} (h : ∀ p ∈ ps, ρ p.1 < ρ p.2) : Ranked (relOf ps) := ⟨ρ, relOf_rank h⟩
/-! ### the relation goes on -/
def Trans (R : Rel) : Prop := ∀ i j k, R i j = true → R j k = true → R i k = true
theorem addW_iff {R : Rel} {u l i j : Nat} : addW R u l i j = true ↔ R i j = true ∨ ((i = u ∨ R i u = true) ∧ (j = l ∨ R l j = true)) := by
  unfold addW
  rw [Bool.or_eq_true, Bool.and_eq_true, Bool.or_eq_true, Bool.or_eq_true, beq_iff_eq, beq_iff_eq]
theorem addW_trans {R : Rel} (hR : Trans R) (u l : Nat) : Trans (addW R u l) := by
  intro i j k h1 h2
  rw [addW_iff] at h1 h2 ⊢
  rcases h1 with h1 | ⟨a1, a2⟩ <;> rcases h2 with h2 | ⟨b1, b2⟩
  · exact .inl (hR i j k h1 h2)
  · refine .inr ⟨.inr ?_, b2⟩
    rcases b1 with e | e
    · rw [← e]; exact h1
    · exact hR _ _ _ h1 e
  · refine .inr ⟨a1, .inr ?_⟩
    rcases a2 with e | e
    · rw [← e]; exact h2
    · exact hR _ _ _ e h2
  · exact .inr ⟨a1, b2⟩
theorem relOf_trans : ∀ (ps : List (Nat × Nat)), Trans (relOf ps) := by
  have key : ∀ (ps : List (Nat × Nat)) (R : Rel), Trans R → Trans (ps.foldl (fun R p => addW R p.1 p.2) R) := by
    intro ps
    induction ps with
    | nil => intro R h; exact h
    | cons p ps ih => intro R h; exact ih _ (addW_trans h p.1 p.2)
  intro ps
  exact key ps _ fun i j k h => by cases h
/-! ### states -/
abbrev stV (S : List Int) : List V := S.map V.int
def at_ (S : List Int) (k : Nat) : Int := S.getD k 0
theorem stV_get {S : List Int} {k : Nat} (h : k < S.length) : (stV S)[k]? = some (V.int (at_ S k)) := by
  unfold stV at_
  rw [List.getElem?_map, List.getElem?_eq_getElem h, List.getD_eq_getElem?_getD, List.getElem?_eq_getElem h]
  rfl
def StOk (n h : Nat) (S : List Int) : Prop := S.length = n ∧ ∀ z ∈ S, 0 ≤ z ∧ z < (h : Int)
theorem StOk.at {n h : Nat} {S : List Int} (s : StOk n h S) {k : Nat} (hk : k < n) : 0 ≤ at_ S k ∧ at_ S k < (h : Int) := by
  have hl : k < S.length := by rw [s.1]; exact hk
  unfold at_
  rw [List.getD_eq_getElem?_getD, List.getElem?_eq_getElem hl]
  exact s.2 _ (List.getElem_mem hl)
/-- T is reachable from S: every topmost difference goes down -/
def Reach (n : Nat) (R : Rel) (S T : List Int) : Prop := ∀ k, k < n → at_ S k ≠ at_ T k → (∀ u, u < n → R u k = true → at_ S u = at_ T u) → at_ T k < at_ S k
theorem rgV_nL (n : Nat) : rgV 0 (n : Int) = nL (List.range n) := by
  unfold rgV nL nI
  simp
theorem rgOk (n : Nat) (h : n ≤ 1000) : RgOk 0 (n : Int) := by
  unfold RgOk
  exact ⟨by omega, by omega, by omega, by omega, by omega⟩
theorem nL_erase (l : List Nat) (j : Nat) : (nL l).eraseIdx j = nL (l.eraseIdx j) := by
  unfold nL nI
  rw [List.map_map, List.map_map]
  induction l generalizing j with
  | nil => rfl
  | cons a l ih =>
    cases j with
    | zero => rfl
    | succ j => show _ :: _ = _ :: _; exact congrArg _ (ih j)
/-! ### the relation by its last wire -/
theorem fold_mono : ∀ (ps : List (Nat × Nat)) (R : Rel) (i j : Nat), R i j = true → ps.foldl (fun R p => addW R p.1 p.2) R i j = true
  | [], _, _, _, h => h
  | p :: ps, R, i, j, h => fold_mono ps _ i j (addW_iff.mpr (.inl h))
theorem fold_wire : ∀ (ps : List (Nat × Nat)) (R : Rel) (p : Nat × Nat), p ∈ ps → ps.foldl (fun R p => addW R p.1 p.2) R p.1 p.2 = true
  | [], _, _, h => by cases h
  | q :: ps, R, p, h => by
    rcases List.mem_cons.mp h with e | h
    · rw [e]
      exact fold_mono ps _ _ _ (addW_iff.mpr (.inr ⟨.inl rfl, .inl rfl⟩))
    · exact fold_wire ps _ p h
theorem rel_last {ps : List (Nat × Nat)} {j i : Nat} : relOf ps j i = true ↔ ∃ u, (u, i) ∈ ps ∧ (j = u ∨ relOf ps j u = true) := by
  have key : ∀ (ps qs : List (Nat × Nat)) (R : Rel), (∀ j i, R j i = true → ∃ u, (u, i) ∈ qs ∧ (j = u ∨ R j u = true)) →
      ∀ j i, ps.foldl (fun R p => addW R p.1 p.2) R j i = true → ∃ u, (u, i) ∈ qs ++ ps ∧ (j = u ∨ ps.foldl (fun R p => addW R p.1 p.2) R j u = true) := by
    intro ps
    induction ps with
    | nil =>
      intro qs R h j i hr
      rw [List.append_nil]
      exact h j i hr
    | cons p ps ih =>
      intro qs R h j i hr
      have z := ih (qs ++ [p]) (addW R p.1 p.2) (fun j i h2 => ?_) j i hr
      · rw [List.append_assoc] at z
        exact z
      · rcases addW_iff.mp h2 with h3 | ⟨h3, h4⟩
        · obtain ⟨u, hu, e⟩ := h j i h3
          exact ⟨u, List.mem_append_left _ hu, e.imp id fun z => addW_iff.mpr (.inl z)⟩
        · rcases h4 with e | e
          · refine ⟨p.1, List.mem_append_right _ (by rw [e]; exact List.mem_cons_self), ?_⟩
            exact h3.imp id fun z => addW_iff.mpr (.inl z)
          · obtain ⟨u, hu, e2⟩ := h p.2 i e
            refine ⟨u, List.mem_append_left _ hu, .inr (addW_iff.mpr (.inr ⟨h3, ?_⟩))⟩
            exact e2.imp Eq.symm id
  constructor
  · intro h
    have z := key ps [] (fun _ _ => false) (fun j i h => by cases h) j i h
    rw [List.nil_append] at z
    exact z
  · rintro ⟨u, hu, e⟩
    have w : relOf ps u i = true := fold_wire ps _ (u, i) hu
    rcases e with e | e
    · rw [e]; exact w
    · exact relOf_trans ps _ _ _ e w
end Hue

end
section
set_option maxRecDepth 100000
namespace L2
open PySem PySem.Spec PyProof.Rows
/-! ### masks -/
section
variable {X : Cx}
theorem op_orN : OpR X (binaryOp .BitOr) (fun x y H Q => ∃ a b : Nat, x = .int (a : Int) ∧ y = .int (b : Int) ∧ Q (.int ((a ||| b : Nat) : Int)) H) := by
  intro pins s σ H x y v u Q I rx ry h
  obtain ⟨a, b, rfl, rfl, q⟩ := h
  refine op_or pins s σ H _ _ v u Q I rx ry ⟨_, _, rfl, rfl, ?_⟩
  have e := bitOr_nn (x := (a : Int)) (y := (b : Int)) (by omega) (by omega)
  rw [Int.toNat_natCast, Int.toNat_natCast] at e
  show Q (.int (Builtin.bitOr (a : Int) (b : Int))) H
  rw [e]
  exact q
theorem op_oneN : OpR X (binaryOp .LShift) (fun x y H Q => ∃ k : Nat, x = .int 1 ∧ y = .int (k : Int) ∧ k ≤ 1000 ∧ Q (.int ((2 ^ k : Nat) : Int)) H) := by
  intro pins s σ H x y v u Q I rx ry h
  obtain ⟨k, rfl, rfl, c, q⟩ := h
  refine op_oneShl pins s σ H _ _ v u Q I rx ry ⟨k, rfl, rfl, by omega, ?_⟩
  have e : ((2 : Int) ^ k) = ((2 ^ k : Nat) : Int) := by rw [Int.natCast_pow]; rfl
  rw [e]
  exact q
theorem op_shrNN : OpR X (binaryOp .RShift) (fun x y H Q => ∃ n k : Nat, x = .int (n : Int) ∧ y = .int (k : Int) ∧ Q (.int ((n / 2 ^ k : Nat) : Int)) H) := by
  intro pins s σ H x y v u Q I rx ry h
  obtain ⟨n, k, rfl, rfl, q⟩ := h
  refine op_shrN pins s σ H _ _ v u Q I rx ry ⟨_, k, rfl, rfl, ?_⟩
  have e : ((n : Int) / 2 ^ k) = ((n / 2 ^ k : Nat) : Int) := by
    rw [Int.natCast_ediv, Int.natCast_pow]; rfl
  rw [e]
  exact q
end
end L2
namespace Hue
open PySem PySem.Spec PyProof.Rows L2
theorem bit_of (m k : Nat) : decide (V.int ((m / 2 ^ k % 2 : Nat) : Int) = V.int 1) = m.testBit k := by
  rw [Nat.testBit_eq_decide_div_mod_eq]
  refine decide_eq_decide.mpr ⟨fun z => ?_, fun z => by rw [z]; rfl⟩
  injection z with z
  omega
theorem bit_one (u j : Nat) : (2 ^ u).testBit j = decide (u = j) := Nat.testBit_two_pow
theorem bit_or3 (a b u j : Nat) : (a ||| b ||| 2 ^ u).testBit j = (a.testBit j || b.testBit j || decide (u = j)) := by
  rw [Nat.testBit_or, Nat.testBit_or, bit_one]
end Hue

end
section
set_option maxRecDepth 100000
set_option maxHeartbeats 4000000
namespace L2
open PySem PySem.Spec PyProof.Rows
/-! ### repr of plain data is text of true characters -/
def SOk (x : Str) : Prop := PyData.strOk x = true
theorem SOk.app {a b : Str} (ha : SOk a) (hb : SOk b) : SOk (a ++ b) := by
  unfold SOk PyData.strOk at *
  show (a.cps ++ b.cps).all _ = true
  rw [Array.all_append, ha, hb]
  rfl
theorem SOk.of (s : String) : SOk (Str.ofString s) := by
  unfold SOk PyData.strOk
  rw [Str.ofString_eq_toList]
  rw [Array.all_eq_true']
  intro x hx
  have hx2 : x ∈ s.toList.map Char.toNat := by simpa using hx
  obtain ⟨c, _, rfl⟩ := List.mem_map.mp hx2
  refine decide_eq_true ?_
  have v := c.valid
  have e : c.toNat = c.val.toNat := rfl
  rw [e]
  rcases v with v | ⟨_, v⟩
  · omega
  · exact v
theorem SOk.join {y : Str} (hy : SOk y) : ∀ {ts : List Str}, (∀ t ∈ ts, SOk t) → SOk (Str.join y ts)
  | [], _ => SOk.of ""
  | [t], h => h t List.mem_cons_self
  | t :: u :: r, h => by
    have z := SOk.join hy (ts := u :: r) fun v hv => h v (List.mem_cons_of_mem _ hv)
    show SOk (t ++ y ++ Str.join y (u :: r))
    exact ((h t List.mem_cons_self).app hy).app z
theorem SOk.from_ : ∀ {ts : List Str} {k : Nat} {acc : Str}, SOk acc → (∀ t ∈ ts, SOk t) → SOk (textFrom k acc ts)
  | [], _, _, a, _ => a
  | t :: r, k, acc, a, h => by
    show SOk (textFrom (k + 1) (acc ++ (if k > 0 then ", " else "" : String) ++ t) r)
    exact SOk.from_ ((a.app (SOk.of _)).app (h t List.mem_cons_self)) fun u hu => h u (List.mem_cons_of_mem _ hu)
theorem SOk.all {ds : List PyData} (h : ∀ d ∈ ds, SOk d.shown) : ∀ t ∈ PyData.shownAll ds, SOk t := by
  induction ds with
  | nil => intro t ht; simp [PyData.shownAll] at ht
  | cons d ds ih =>
    intro t ht
    simp only [PyData.shownAll, List.mem_cons] at ht
    rcases ht with e | ht
    · rw [e]; exact h d List.mem_cons_self
    · exact ih (fun e he => h e (List.mem_cons_of_mem _ he)) t ht
theorem SOk.lst {ds : List PyData} (h : ∀ d ∈ ds, SOk d.shown) : SOk (PyData.list ds).shown := by
  rw [show (PyData.list ds).shown = listText (PyData.shownAll ds) by simp only [PyData.shown]]
  exact (SOk.from_ (SOk.of "[") (SOk.all h)).app (SOk.of "]")
theorem SOk.tup {ds : List PyData} (h : ∀ d ∈ ds, SOk d.shown) : SOk (PyData.tuple ds).shown := by
  rw [show (PyData.tuple ds).shown = tupleText (PyData.shownAll ds) by simp only [PyData.shown]]
  exact ((SOk.of "(").app (SOk.join (SOk.of ", ") (SOk.all h))).app (SOk.of _)
theorem SOk.int (i : Int) : SOk (PyData.int i).shown := by
  rw [show (PyData.int i).shown = Str.ofString (toString i) by simp only [PyData.shown]]
  exact SOk.of _
theorem SOk.bool (b : Bool) : SOk (PyData.bool b).shown := by unfold SOk; cases b <;> decide +kernel
theorem SOk.non : SOk PyData.none.shown := by unfold SOk; decide +kernel
theorem SOk.ints (S : List Int) : ∀ d ∈ S.map PyData.int, SOk d.shown := fun d hd => by
  obtain ⟨i, _, rfl⟩ := List.mem_map.mp hd
  exact SOk.int i
end L2

end
section
set_option maxRecDepth 100000
namespace L2
open PySem PySem.Spec PyProof.Rows
/-- the making of an instance with defaults -/
structure NCalD (P : Program) (w : World) (K : PySem.W.Frag) (mg : Str → Option Value) (base : Heap) (C : Addr) (x : Str) (k : Nat) (sp : Sp) (dvs : List V) : Prop where
  ex : ∃ (f : Addr) (fd : FuncData) (ps : List Str) (ds : List Value), FnOk P w K mg base CX0 k f fd ps sp ∧ Mk K C f ∧ Binds K fd ps ds ∧ Vals dvs ds
  mg : mg x = some (.ref C)
section
variable {X : Cx} {e : Expr} {es : List Expr} {t : TA} {x : Str} {k : Nat} {sp : Sp} {C : Addr} {dvs : List V} {p pos : Pos}
def tNCalD (C : Addr) (sp : Sp) (dvs : List V) (t : TA) : TE := fun σ H Q => t σ H fun vs H1 => ∀ x dx, H1 x = none → H1 dx = none → dx ≠ x → sp (.ref x :: (vs ++ dvs)) (upd (upd H1 dx (.own x)) x (.ins C dx [])) (fun v H2 => v = .non ∧ Q (.ref x) H2) E0
theorem pe_ncalD (c : NCalD X.prog X.w X.K X.mg X.base C x k sp dvs) (hr : Room (k + 1) X.A) (ha : PA X (e :: es) t) (hg : Gl X x := by rfl) (hdb : (x == ("__debug__" : Str)) = false := by decide)
    (he : starEach (e :: es) X.env = (false, eval e X.env) :: starEach es X.env := by rfl) (hpl : (backTo pos (starEach es X.env)).any (·.1) = false := by rfl) :
    PE X (.Call (.Name x p) (e :: es) [] pos) (tNCalD C sp dvs t) := by
  obtain ⟨f, fd, ps, ds, F, M, hb, hd⟩ := c.ex
  exact (pe_make M F hr hg c.mg hb hd pass0 ha hdb he hpl).to fun σ H Q q => q
end
/-! ### a static method, read off its class -/
structure SCal (P : Program) (w : World) (K : PySem.W.Frag) (mg : Str → Option Value) (base : Heap) (C : Addr) (mc : Value) (m : Str) (k : Nat) (sp : Sp) : Prop where
  ex : ∃ (p f : Addr) (rest : List Value) (fd : FuncData) (ps : List Str), FnOk P w K mg base CX0 k f fd ps sp ∧ PySem.W.findCls K (.ref C) mc m = some (.get (.builtin "staticmethod.__get__") (.ref p) .none (.ref C)) ∧ PySem.W.recIn K p "staticmethod" = some (.ref f :: rest) ∧ PySem.W.keepIn K (.ref f) = true ∧ Binds K fd ps []
def tSMeth (C : Addr) (sp : Sp) (ta : TE) (t : TA) : TE := fun σ H Q => ta σ H fun x H1 => x = .ref C ∧ t σ H1 fun vs H2 => sp vs H2 Q E0
section
variable {X : Cx} {k : Nat} {C : Addr} {mc : Value} {sp : Sp} {o e : Expr} {es : List Expr} {m : Str} {pos apos : Pos} {ta : TE} {t : TA} {pl : Sem Bool}
theorem pe_smeth (he : PE X o ta) (r : ClX.CRead X.K C mc) (c : SCal X.prog X.w X.K X.mg X.base C mc m k sp) (hr : Room k X.A) (ha : PA X (e :: es) t)
    (hst : starEach (e :: es) X.env = (false, eval e X.env) :: starEach es X.env := by rfl) (hpl : (backTo pos (starEach es X.env)).any (·.1) = false := by rfl)
    (ht : eval (.Call (.Attribute o m apos) (e :: es) [] pos) X.env = (do
      let ov ← eval o X.env
      standAt apos.atName
      let (f, first) ← holding [ov] (getMethod ov m pl)
      callWith pos f first (backTo pos (starEach (e :: es) X.env)) (backToKw pos (keywordEach [] X.env))) := by rfl) :
    PE X (.Call (.Attribute o m apos) (e :: es) [] pos) (tSMeth C sp ta t) := by
  obtain ⟨p, f, rest, fd, ps, F, at_, rc, hk, hb⟩ := c.ex
  refine ⟨fun pins s σ H Q I h => ?_⟩
  refine PySem.W.methodCall_KW (pl := pl) (thn (he.run pins s σ H _ I h) fun u s1 ⟨x, H1, I1, rx, ex, q⟩ => ?_) ht
  subst ex
  obtain rfl : u = Value.ref C := rx
  refine PySem.W.method_cls I1.kIn r.ga (PySem.W.cls_bind I1.kIn r.rd at_ (wpAny_call (PySem.W.sm_get (s := { s1 with toks := s1.toks + 1 }) I1.kIn rc (PySem.W.handed_on rfl ?_))))
  have I2 := I1.tok (s1.toks + 1)
  refine PySem.W.callWith_K (h₀ := X.base) I2.ok.mod.kin hk (thn (ha.run pos _ _ σ H1 _ I2 q) fun us s3 ⟨vs, H2, I3, rv, q2⟩ => ⟨I3.kIn, ?_⟩) hst hpl
  have q3 : sp (vs ++ []) H2 Q E0 := by rw [List.append_nil]; exact q2
  exact run_fn F hr hb .nil pass0 I3 rv q3
end
end L2

end
section
set_option maxRecDepth 100000
set_option maxHeartbeats 2000000
namespace Srt
open PySem PySem.W PySem.Calls PyProof.Rows
section
variable {prog : Program} {w : World} {A : Around} {E : Value → Shared → Prop} {s : Shared}
/-- sorted(x), x a list or a tuple of pairs of ints -/
theorem hu_sorted_seq {l : Addr} {T : String} {o : Obj} {items : Array Value} {n : Nat} {Q : Value → Shared → Prop} (hT : T = "list" ∨ T = "tuple") (ho : s.heap.get? l = some o) (hc : o.cls = .type T) (hd : o.data = .seq items n) (hz : items.size ≤ sizeLine)
    (hp : ∀ v ∈ items.toList, ∃ x y, IsPair s.heap v x y)
    (h : ∀ (h1 h' : Heap) (d : Addr) (out : List Value), out.Perm items.toList → (∀ b o, s.heap.get? b = some o → h1.get? b = some o) → (∀ b o, h1.get? b = some o → h'.get? b = some o) → h1.objs.size ≤ d → (∃ n, h'.get? d = some (seqObj "list" out.toArray n)) → Q (.ref d) { s with heap := h' }) :
    wpAny (model prog w) A (call (.builtin "sorted") [.ref l]) Q E s := by
  have hz' : items.toList.length ≤ sizeLine := hz
  refine Calls.call_function_entry kind_sorted plain_sorted entry_sorted (args_sorted1 _) ?_
  unfold Builtin.«sorted»
  refine wpAny_bind (m := checkCount "sorted" 1 1 _) (wpAny_pure ?_)
  refine wpAny_bind (wpAny_collect_seq l hT ho hc hd (fun h1 k1 => ?_) hz)
  refine wpAny_bind (wpAny_newList ?_ hz')
  have hoL : (h1.push (seqObj "list" items.toList.toArray 0)).get? h1.objs.size = some (seqObj "list" items.toList.toArray 0) := Heap.get?_push_size _ rfl
  have keep : ∀ b o, h1.get? b = some o → b < h1.objs.size ∧ (h1.push (seqObj "list" items.toList.toArray 0)).get? b = some o := fun b o e => ⟨Heap.lt_size e, Heap.get?_push_of_some _ e⟩
  refine wpAny_bind (wpAny_holding (wpAny_call_entry slot_list_sort ⟨_, hoL, rfl⟩ entry_list_sort (list_sort_any (s := { s with heap := h1.push (seqObj "list" items.toList.toArray 0) }) hoL hz' (fun h2 => ?_) fun out pm => ⟨_, rfl, ?_⟩) (args_list_sort _)))
  · refine pairs_sortable (s := { s with heap := h1.push (seqObj "list" items.toList.toArray 0) }) (by omega) (fun v hm => ?_) fun o e => ?_
    · obtain ⟨x, y, p⟩ := hp v hm
      exact ⟨x, y, p.keeps fun b o e _ => (keep b o (k1 b o e)).2⟩
    · have e' : some o = some (seqObj "list" items.toList.toArray 0) := e.symm.trans hoL
      cases e'
      intro c
      exact absurd (Value.type.inj c) (by decide)
  · refine wpAny_pure ⟨_, rfl, h h1 _ h1.objs.size out pm k1 (fun b o e => ?_) (Nat.le_refl _) (sortedHeap_at hoL)⟩
    obtain ⟨lt, e2⟩ := keep b o e
    rw [sortedHeap_old (Nat.ne_of_lt lt) (by rw [size_push']; exact Nat.lt_succ_of_lt lt)]
    exact e2
end
end Srt

namespace L2
open PySem PySem.Spec PyProof.Rows
section
variable {X : Cx}
/-- sorted(x), x a list or a tuple of pairs of ints -/
def rSortPA (K : PySem.W.Frag) : List V → Hp → VK → Prop := fun vs H Q => ∃ a xs, vs = [V.ref a] ∧ (SqL K H a xs ∨ SqT K H a xs) ∧ (∀ x ∈ xs, ∃ t i j, x = V.ref t ∧ H t = some (.tup [.int i, .int j])) ∧ ∀ ys p, ys.Perm xs → H p = none → Q (.ref p) (upd H p (.lst ys))
theorem cr_sortPA : CallR X (.builtin "sorted") (rSortPA X.K) := by
  intro pins s σ H vs us Q I r h
  obtain ⟨a, xs, rfl, hs, hx, q⟩ := h
  obtain ⟨T, its, o, n, hT, rv, ho, hc, hd, hz⟩ : ∃ (T : String) (its : List Value) (o : Obj) (n : Nat), (T = "list" ∨ T = "tuple") ∧ Vals xs its ∧ s.heap.get? a = some o ∧ o.cls = .type T ∧ o.data = .seq its.toArray n ∧ xs.length ≤ sizeLine := by
    rcases hs with hs | hs
    · obtain ⟨its, rv, hl, hz⟩ := I.list hs
      obtain ⟨o, ho, hc, n, hd⟩ := hl.isList
      exact ⟨"list", its, o, n, .inl rfl, rv, ho, hc, hd, hz⟩
    · obtain ⟨its, rv, ⟨o, ho, hc, n, hd⟩, hz⟩ := I.tuple hs
      exact ⟨"tuple", its, o, n, .inr rfl, rv, ho, hc, hd, hz⟩
  obtain ⟨u, rfl, ru⟩ := vals1 r
  obtain rfl : u = Value.ref a := ru
  obtain ⟨e1, e2⟩ := bkV_refs rv fun x m => by
    obtain ⟨t, _, _, e, _⟩ := hx x m
    exact ⟨t, e⟩
  refine Srt.hu_sorted_seq hT ho hc hd (by rw [List.size_toArray, ← rv.length]; exact hz) (fun v hv => ?_) fun h1 h' d out hp k1 k2 hd' hn => ?_
  · obtain ⟨t, rfl⟩ := e2 v hv
    have hm : V.ref t ∈ xs := by rw [e1]; exact List.mem_map.mpr ⟨_, hv, rfl⟩
    obtain ⟨t', i, j, e, ht⟩ := hx _ hm
    cases e
    obtain ⟨_, its2, r2, o2, ho2, hc2, n2, hd2⟩ := I.hok _ _ ht
    obtain ⟨u1, u2, rfl, ri, rj⟩ := vals2 r2
    obtain ⟨t1, rfl⟩ := ri
    obtain ⟨t2, rfl⟩ := rj
    exact ⟨i, j, t, o2, t1, t2, n2, rfl, ho2, hc2, hd2⟩
  · have h3 : ∀ u ∈ out, ∃ a, u = Value.ref a := fun u hu => e2 u (hp.mem_iff.mp hu)
    obtain ⟨n, hn⟩ := hn
    have I1 : Inv X pins σ H { s with heap := h1 } := I.kept (t' := s.toks) k1
    refine ⟨.ref d, upd H d (.lst (out.map bkV)), I1.laid (t' := s.toks) k2 hd' ⟨?_, out, n, bkV_vals h3, hn⟩, rfl, q _ d ?_ (I1.hok.fresh hd')⟩
    · rw [List.length_map, hp.length_eq]
      show its.length ≤ sizeLine
      rw [← rv.length]; exact hz
    · rw [e1]
      exact hp.map bkV
end
end L2

end
section
set_option maxRecDepth 100000
set_option maxHeartbeats 2000000
namespace Srt
open PySem PySem.W PySem.Calls PyProof.Rows
section
variable {prog : Program} {w : World} {A : Around} {E : Value → Shared → Prop} {s : Shared}
/-- sorted(x), x a list or a tuple of pairs of ints: in order -/
theorem hu_sorted_ord {l : Addr} {T : String} {o : Obj} {items : Array Value} {n : Nat} {Q : Value → Shared → Prop} {k : Value → Int × Int} (hT : T = "list" ∨ T = "tuple") (ho : s.heap.get? l = some o) (hc : o.cls = .type T) (hd : o.data = .seq items n) (hz : items.size ≤ sizeLine)
    (hp : ∀ v ∈ items.toList, IsPair s.heap v (k v).1 (k v).2)
    (h : ∀ (h1 h' : Heap) (d : Addr) (out : List Value), out.Perm items.toList → SrtO.Srtd (fun v u => SrtO.lexB (k v) (k u)) out → (∀ b o, s.heap.get? b = some o → h1.get? b = some o) → (∀ b o, h1.get? b = some o → h'.get? b = some o) → h1.objs.size ≤ d → (∃ n, h'.get? d = some (seqObj "list" out.toArray n)) → Q (.ref d) { s with heap := h' }) :
    wpAny (model prog w) A (call (.builtin "sorted") [.ref l]) Q E s := by
  have hz' : items.toList.length ≤ sizeLine := hz
  refine Calls.call_function_entry kind_sorted plain_sorted entry_sorted (args_sorted1 _) ?_
  unfold Builtin.«sorted»
  refine wpAny_bind (m := checkCount "sorted" 1 1 _) (wpAny_pure ?_)
  refine wpAny_bind (wpAny_collect_seq l hT ho hc hd (fun h1 k1 => ?_) hz)
  refine wpAny_bind (wpAny_newList ?_ hz')
  have hoL : (h1.push (seqObj "list" items.toList.toArray 0)).get? h1.objs.size = some (seqObj "list" items.toList.toArray 0) := Heap.get?_push_size _ rfl
  have keep : ∀ b o, h1.get? b = some o → b < h1.objs.size ∧ (h1.push (seqObj "list" items.toList.toArray 0)).get? b = some o := fun b o e => ⟨Heap.lt_size e, Heap.get?_push_of_some _ e⟩
  refine wpAny_bind (wpAny_holding (wpAny_call_entry slot_list_sort ⟨_, hoL, rfl⟩ entry_list_sort (SrtO.list_sort_ord (s := { s with heap := h1.push (seqObj "list" items.toList.toArray 0) }) (SrtO.swo_lex k) hoL hz' (fun h2 => ?_) fun out so pm => ⟨_, rfl, ?_⟩) (args_list_sort _)))
  · refine SrtO.pairs_sortableO (s := { s with heap := h1.push (seqObj "list" items.toList.toArray 0) }) (by omega) (fun v hm => ?_) fun o e => ?_
    · exact (hp v hm).keeps fun b o e _ => (keep b o (k1 b o e)).2
    · have e' : some o = some (seqObj "list" items.toList.toArray 0) := e.symm.trans hoL
      cases e'
      intro c
      exact absurd (Value.type.inj c) (by decide)
  · refine wpAny_pure ⟨_, rfl, h h1 _ h1.objs.size out pm.perm so k1 (fun b o e => ?_) (Nat.le_refl _) (sortedHeap_at hoL)⟩
    obtain ⟨lt, e2⟩ := keep b o e
    rw [sortedHeap_old (Nat.ne_of_lt lt) (by rw [size_push']; exact Nat.lt_succ_of_lt lt)]
    exact e2
end
end Srt

namespace L2
open PySem PySem.Spec PyProof.Rows
section
variable {X : Cx}
/-- sorted(x), x a list or a tuple of pairs of ints: in order -/
def rSortPS (K : PySem.W.Frag) : List V → Hp → VK → Prop := fun vs H Q => ∃ (a : Addr) (xs : List V) (k : V → Int × Int), vs = [V.ref a] ∧ (SqL K H a xs ∨ SqT K H a xs) ∧ (∀ x ∈ xs, ∃ t, x = V.ref t ∧ H t = some (.tup [.int (k x).1, .int (k x).2])) ∧
  ∀ ys p, ys.Perm xs → (ys.Pairwise fun x y => ¬ ((k y).1 < (k x).1 ∨ ((k y).1 = (k x).1 ∧ (k y).2 < (k x).2))) → H p = none → Q (.ref p) (upd H p (.lst ys))
theorem cr_sortPS : CallR X (.builtin "sorted") (rSortPS X.K) := by
  intro pins s σ H vs us Q I r h
  obtain ⟨a, xs, k, rfl, hs, hx, q⟩ := h
  obtain ⟨T, its, o, n, hT, rv, ho, hc, hd, hz⟩ : ∃ (T : String) (its : List Value) (o : Obj) (n : Nat), (T = "list" ∨ T = "tuple") ∧ Vals xs its ∧ s.heap.get? a = some o ∧ o.cls = .type T ∧ o.data = .seq its.toArray n ∧ xs.length ≤ sizeLine := by
    rcases hs with hs | hs
    · obtain ⟨its, rv, hl, hz⟩ := I.list hs
      obtain ⟨o, ho, hc, n, hd⟩ := hl.isList
      exact ⟨"list", its, o, n, .inl rfl, rv, ho, hc, hd, hz⟩
    · obtain ⟨its, rv, ⟨o, ho, hc, n, hd⟩, hz⟩ := I.tuple hs
      exact ⟨"tuple", its, o, n, .inr rfl, rv, ho, hc, hd, hz⟩
  obtain ⟨u, rfl, ru⟩ := vals1 r
  obtain rfl : u = Value.ref a := ru
  obtain ⟨e1, e2⟩ := bkV_refs rv fun x m => by
    obtain ⟨t, e, _⟩ := hx x m
    exact ⟨t, e⟩
  refine Srt.hu_sorted_ord (k := fun u => k (bkV u)) hT ho hc hd (by rw [List.size_toArray, ← rv.length]; exact hz) (fun v hv => ?_) fun h1 h' d out hp so k1 k2 hd' hn => ?_
  · obtain ⟨t, rfl⟩ := e2 v hv
    have hm : V.ref t ∈ xs := by rw [e1]; exact List.mem_map.mpr ⟨_, hv, rfl⟩
    obtain ⟨t', e, ht⟩ := hx _ hm
    cases e
    obtain ⟨_, its2, r2, o2, ho2, hc2, n2, hd2⟩ := I.hok _ _ ht
    obtain ⟨u1, u2, rfl, ri, rj⟩ := vals2 r2
    obtain ⟨t1, rfl⟩ := ri
    obtain ⟨t2, rfl⟩ := rj
    exact ⟨t, o2, t1, t2, n2, rfl, ho2, hc2, hd2⟩
  · have h3 : ∀ u ∈ out, ∃ a, u = Value.ref a := fun u hu => e2 u (hp.mem_iff.mp hu)
    obtain ⟨n, hn⟩ := hn
    have I1 : Inv X pins σ H { s with heap := h1 } := I.kept (t' := s.toks) k1
    refine ⟨.ref d, upd H d (.lst (out.map bkV)), I1.laid (t' := s.toks) k2 hd' ⟨?_, out, n, bkV_vals h3, hn⟩, rfl, q _ d ?_ ?_ (I1.hok.fresh hd')⟩
    · rw [List.length_map, hp.length_eq]
      show its.length ≤ sizeLine
      rw [← rv.length]; exact hz
    · rw [e1]
      exact hp.map bkV
    · rw [List.pairwise_map]
      exact so.imp fun z => SrtO.lexB_no.mp z
theorem sortPS_ (K : PySem.W.Frag) (hK : X.K = K := by rfl) : CallR X (.builtin "sorted") (rSortPS K) := by subst hK; exact cr_sortPS
/-! ### is, of two bools -/
theorem op_isB : OpR X (compareOp .Is) (fun x y H Q => ∃ b c : Bool, x = .bl b ∧ y = .bl c ∧ Q (.bl (decide (b = c))) H) := by
  intro pins s σ H x y v u Q I rx ry h
  obtain ⟨b, c, rfl, rfl, q⟩ := h
  cases rx
  cases ry
  show wpAny _ _ ((isSame (Value.bool b) (Value.bool c)) >>= fun z => pure (Value.bool z)) _ _ s
  exact wpAny_bind (wpAny_isSame_plain (by cases b <;> cases c <;> rfl) (wpAny_pure (fin_bl I q (by cases b <;> cases c <;> rfl))))
theorem op_notB : OpR X (compareOp .IsNot) (fun x y H Q => ∃ b c : Bool, x = .bl b ∧ y = .bl c ∧ Q (.bl (!decide (b = c))) H) := by
  intro pins s σ H x y v u Q I rx ry h
  obtain ⟨b, c, rfl, rfl, q⟩ := h
  cases rx
  cases ry
  show wpAny _ _ ((isSame (Value.bool b) (Value.bool c)) >>= fun z => pure (Value.bool (!z))) _ _ s
  exact wpAny_bind (wpAny_isSame_plain (by cases b <;> cases c <;> rfl) (wpAny_pure (fin_bl I q (by cases b <;> cases c <;> rfl))))
end
end L2

end
section
set_option maxRecDepth 100000
namespace L2
open PySem PySem.Spec PyProof.Rows
/-! ### own exceptions with a field -/
/-- what an own exception class at C must have -/
structure XCls (K : PySem.W.Frag) (C : Addr) : Prop where
  oex : OexC K C
  xf : XfC K C
  ca : PySem.W.findIn K (.ref C) "__class__" = some (some (.builtin "object.__class__"))
  mo : PySem.W.mroIn K C (.type "object") = some true
structure XGlob (K : PySem.W.Frag) : Prop where
  gs : PySem.W.specialIn K (.builtin "object.__class__") "__get__" = some (some (.builtin "getset_descriptor.__get__"))
  tk : PySem.W.takesIn K (.builtin "object.__class__") = some true
/-- isinstance of the exception at a (class cls, dict d) -/
def rIsX (K : PySem.W.Frag) (a : Addr) (cls : Value) (C : Addr) (d : Option Addr) : List V → Hp → VK → Prop := fun xs H Q => cls = .ref C ∧ (∃ (dd : Addr) (fs : List (Str × V)), d = some dd ∧ H dd = some (.xd fs)) ∧
  ((∃ (D : Addr) (b : Bool), xs = [.ref a, .ref D] ∧ PySem.W.kitOne K (.ref C) (.ref D) = some b ∧ Q (.bl b) H) ∨
    (∃ (n : String) (b : Bool), xs = [.ref a, .ty n] ∧ PySem.W.kitOne K (.ref C) (.type n) = some b ∧ Q (.bl b) H) ∨
    ∃ (tp : Addr) (ds : List Addr) (b : Bool), xs = [.ref a, .ref tp] ∧ H tp = some (.tup (ds.map V.ref)) ∧ PySem.W.kitAny K (.ref C) (ds.map Value.ref) = some b ∧ Q (.bl b) H)
theorem refs_vals : ∀ {ds : List Addr} {us : List Value}, Vals (ds.map V.ref) us → us = ds.map Value.ref
  | [], _, .nil => rfl
  | d :: ds, _, .cons h r => by
    cases h
    rw [refs_vals r]
    rfl
theorem cr_isX {X : Cx} {a C : Addr} {cls : Value} {oe : Obj} {d : Option Addr} {pn : List (Addr × Obj)} (T : XCls X.K C) (G : XGlob X.K) (hz : Zc cls d oe) (hf : ∃ vs, oe.data = .fields vs) : CallR (X.suite a ((a, oe) :: pn)) (.builtin "isinstance") (rIsX X.K a cls C d) := by
  intro pins s σ H xs us Q I r h
  obtain ⟨ec, ⟨dd, fs, ed, hdd⟩, h⟩ := h
  subst ec
  subst ed
  obtain ⟨hget, _⟩ := I.pin (a, oe) (List.mem_append.mpr (.inl List.mem_cons_self))
  obtain ⟨fv, hv⟩ := hf
  have hx : ObjOk X.prog X.w H s.heap dd (.xd fs) := I.hok dd _ hdd
  obtain ⟨mA, hns, _⟩ := hx
  obtain ⟨od, ho, _⟩ := lookIn_ns hns
  have J : PySem.W.InstAt s.heap a oe C (some od) := ⟨hget, hz.1, by unfold PySem.W.notCls; rw [hv] <;> rfl, by rw [hz.2]; exact ho⟩
  have some_cls : (PySem.W.clsIn X.K C).isSome = true := by
    obtain ⟨nm, q, N, bs, bm, sn, sub, ab, col, dd, k0, k1, k2, k3, k5, hC, _⟩ := T.oex.cls
    unfold PySem.W.clsIn
    rw [hC] <;> rfl
  have Z := PySem.W.kitx_exc (x := a) (ox := oe) (od := some od) some_cls T.xf.ga T.xf.gg T.xf.exC T.ca G.gs G.tk T.mo
  have fin : ∀ b : Bool, Q (.bl b) H → ∀ tk, EP (X.suite a ((a, oe) :: pn)) pins σ Q (.bool b) { s with toks := tk } := fun b q tk => ⟨.bl b, H, I.tok tk, rfl, q⟩
  rcases h with ⟨D, b, rfl, e, q⟩ | ⟨n, b, rfl, e, q⟩ | ⟨tp, ds, b, rfl, ht, e, q⟩
  · cases r with
    | cons r1 r2 => cases r2 with
      | cons r2 r3 =>
        cases r3
        cases r1
        cases r2
        exact PySem.W.kia_one Z I.kIn J e (fun z => nomatch z) (fin b q)
  · cases r with
    | cons r1 r2 => cases r2 with
      | cons r2 r3 =>
        cases r3
        cases r1
        cases r2
        exact PySem.W.kia_one Z I.kIn J e (fun z => nomatch z) (fin b q)
  · cases r with
    | cons r1 r2 => cases r2 with
      | cons r2 r3 =>
        cases r3
        cases r1
        cases r2
        obtain ⟨_, its, rv, ⟨o, ho, hc, n, hd⟩⟩ := I.hok tp _ ht
        have ei := refs_vals rv
        subst ei
        obtain ⟨oc, odd, oda, osl⟩ := o
        cases hc
        cases hd
        exact PySem.W.kia_tup Z I.kIn J ho e (fun z => nomatch z) (fin b q)
/-! ### defs and methods that may raise -/
structure CalX (P : Program) (w : World) (K : PySem.W.Frag) (mg : Str → Option Value) (base : Heap) (x : Str) (k : Nat) (sp : Sp) : Prop where
  ex : ∃ (f : Addr) (fd : FuncData) (ps : List Str), FnOk P w K mg base (L2.CX P w) k f fd ps sp ∧ mg x = some (.ref f) ∧ PySem.W.keepIn K (.ref f) = true ∧ Binds K fd ps []
structure MCalX (P : Program) (w : World) (K : PySem.W.Frag) (mg : Str → Option Value) (base : Heap) (C : Addr) (m : Str) (k : Nat) (sp : Sp) : Prop where
  ex : ∃ (f : Addr) (fd : FuncData) (ps : List Str), FnOk P w K mg base (L2.CX P w) k f fd ps sp ∧ Meth K C m f ∧ Binds K fd ps []
section
variable {X : Cx} {e o : Expr} {es : List Expr} {t : TA} {ta : TE} {x m : Str} {k : Nat} {sp : Sp} {C : Addr} {E : XK} {W : WX} {p pos apos : Pos}
/-- what a callee lets out goes on -/
theorem goes_on (tk : Takes X (fun cls d _ H => E cls d H)) : Passes (L2.CX X.prog X.w) X E := fun _ _ _ _ e s' I c => tk e s' (XE.of_call I (fun _ _ _ h => h) c)
def tCalX (sp : Sp) (E : XK) (t : TA) : TE := fun σ H Q => t σ H fun vs H1 => sp vs H1 Q E
theorem pe_calX (c : CalX X.prog X.w X.K X.mg X.base x k sp) (tk : Takes X (fun cls d _ H => E cls d H)) (hr : Room k X.A) (ha : PA X (e :: es) t) (hg : Gl X x := by rfl) (hdb : (x == ("__debug__" : Str)) = false := by decide)
    (he : starEach (e :: es) X.env = (false, eval e X.env) :: starEach es X.env := by rfl) (hpl : (backTo pos (starEach es X.env)).any (·.1) = false := by rfl) :
    PE X (.Call (.Name x p) (e :: es) [] pos) (tCalX sp E t) := by
  obtain ⟨f, fd, ps, F, hm, hk, hb⟩ := c.ex
  refine (pe_call F hr hg hm hk hb .nil (goes_on tk) ha hdb he hpl).to fun σ H Q q => ?_
  have q' : t σ H fun vs H1 => sp vs H1 Q E := q
  show t σ H fun vs H1 => sp (vs ++ []) H1 Q E
  simpa only [List.append_nil] using q'
/-- the same where a try of the def's own takes it: wished for at the slots -/
theorem pe_calW (c : CalX X.prog X.w X.K X.mg X.base x k sp) (tk : Takes X W) (hr : Room k X.A) (ha : PA X (e :: es) t) (hg : Gl X x := by rfl) (hdb : (x == ("__debug__" : Str)) = false := by decide)
    (he : starEach (e :: es) X.env = (false, eval e X.env) :: starEach es X.env := by rfl) (hpl : (backTo pos (starEach es X.env)).any (·.1) = false := by rfl) :
    PE X (.Call (.Name x p) (e :: es) [] pos) (tCallS sp (WE W) t) := by
  obtain ⟨f, fd, ps, F, hm, hk, hb⟩ := c.ex
  exact pe_callS F hr hg hm hk hb (fun σ => passAt tk σ) ha hdb he hpl
/-- a method at the slots -/
def tMethW (C : Addr) (m : Str) (sp : Sp) (W : WX) (ta : TE) (t : TA) : TE := fun σ H Q => ta σ H fun y H1 => ∃ a dx fs, y = .ref a ∧ H1 a = some (.ins C dx fs) ∧ fs.lookup m = none ∧ t σ H1 fun vs H2 => sp (y :: vs) H2 Q (WE W σ)
theorem pe_methW {pl : Sem Bool} (ho : PE X o ta) (cl : Cls X.K C) (M : MCalX X.prog X.w X.K X.mg X.base C m k sp) (tk : Takes X W) (hr : Room k X.A) (ha : PA X (e :: es) t)
    (hst : starEach (e :: es) X.env = (false, eval e X.env) :: starEach es X.env := by rfl) (hpl : (backTo pos (starEach es X.env)).any (·.1) = false := by rfl)
    (shape : eval (.Call (.Attribute o m apos) (e :: es) [] pos) X.env = (do let ov ← eval o X.env; standAt apos.atName; let (f, first) ← holding [ov] (getMethod ov m pl); callWith pos f first (backTo pos (starEach (e :: es) X.env)) (backToKw pos (keywordEach [] X.env))) := by rfl) :
    PE X (.Call (.Attribute o m apos) (e :: es) [] pos) (tMethW C m sp W ta t) := by
  obtain ⟨f, fd, ps, F, hm, hb⟩ := M.ex
  refine ⟨fun pins s σ H Q I h => PySem.W.methodCall_KW (pl := pl) (thn (ho.run pins s σ H _ I h) fun u s1 got => ?_) shape⟩
  obtain ⟨y, H1, I1, ry, a, dx, fs, rfl, ea, l, q⟩ := got
  cases ry
  refine getmeth_ok I1 ea cl hm l (PySem.W.callWith_K (first := [.ref a]) (h₀ := X.base) I.ok.mod.kin hm.kp (thn (ha.run pos pins s1 σ H1 _ I1 q) fun us s2 got => ?_) hst hpl)
  obtain ⟨vs, H2, I2, rv, want⟩ := got
  exact ⟨I2.kIn, run_fnS (us := .ref a :: us) (vs := .ref a :: vs) F hr hb (passAt tk σ) I2 (.cons rfl rv) want⟩
/-- a method whose exceptions leave the def -/
def tMethX (C : Addr) (m : Str) (sp : Sp) (E : XK) (ta : TE) (t : TA) : TE := fun σ H Q => ta σ H fun y H1 => ∃ a dx fs, y = .ref a ∧ H1 a = some (.ins C dx fs) ∧ fs.lookup m = none ∧ t σ H1 fun vs H2 => sp (y :: vs) H2 Q E
/-- raise C(e, ..), C's own __init__ keeping sp -/
theorem ps_raiseX {fI : Addr} {fd : FuncData} {ps : List Str} (calm : X.calm = true) (tk : Takes X W) (T : OexC X.K C) (iC : PySem.W.findIn X.K (.ref C) "__init__" = some (some (.ref fI))) (tI : PySem.W.typeIn X.K (.ref fI) = some (.type "function"))
    (F : FnOk X.prog X.w X.K X.mg X.base CX0 k fI fd ps sp) (hr : Room (k + 1) X.A) (hb : Binds X.K fd ps []) (hm : X.mg x = some (.ref C)) (ha : PA X (e :: es) t) (hg : Gl X x := by rfl)
    (hdb : (x == ("__debug__" : Str)) = false := by decide) (he : starEach (e :: es) X.env = (false, eval e X.env) :: starEach es X.env := by rfl) (hpl : (backTo apos (starEach es X.env)).any (·.1) = false := by rfl) :
    PS X (.Raise (some (.Call (.Name x p) (e :: es) [] apos)) none pos) (fun _ σ H => tMkO C sp [] t σ H fun cls d H' => W cls d σ H') :=
  ps_raise calm tk (pmk_oex T iC tI F hr hb .nil (fun _ _ _ _ _ _ _ z => z.elim) hg hm ha hdb he hpl)
end
/-! ### an __init__ that keeps its one argument in a field -/
def spKeep (K : PySem.W.Frag) (f : Str) : Sp := fun vs H Q _ => ∃ (a C : Addr) (v : V), vs = [.ref a, v] ∧ OexC K C ∧ PySem.W.findIn K (.ref C) f = some none ∧ H a = some (exo a C none) ∧ ∀ dx, H dx = none → dx ≠ a → Q .non (upd (upd H dx (exd dx [(f, v)])) a (exo a C (some dx)))
/-- its raising, as the callers see it -/
theorem keep_raised {K : PySem.W.Frag} {C : Addr} {f : Str} {v : V} {H : Hp} {Q : XK} (T : OexC K C) (hf : PySem.W.findIn K (.ref C) f = some none) (q : ∀ (d : Addr) (H' : Hp), H d = none → Same H H' → H' d = some (.xd [(f, v)]) → Q (.ref C) (some d) H') (a : Addr) (na : H a = none) :
    spKeep K f [.ref a, v] (upd H a (exo a C none)) (fun y H2 => y = .non ∧ ∃ (d : Addr) (fs : List (Str × V)), H2 a = some (exo a C (some d)) ∧ H2 d = some (exd d fs) ∧ H d = none ∧ Q (.ref C) (some d) (upd (del H2 a) d (.xd fs))) fun _ _ _ => False := by
  refine ⟨a, C, v, rfl, T, hf, upd_same, fun dx ndx ne => ⟨rfl, dx, _, upd_same, by rw [upd_ne ne, upd_same], ?_, q dx _ ?_ (fun b o e => ?_) upd_same⟩⟩
  · rw [upd_ne ne] at ndx; exact ndx
  · rw [upd_ne ne] at ndx; exact ndx
  · have nb : b ≠ dx := fun z => by
      rw [upd_ne ne] at ndx
      rw [z, ndx] at e; cases e
    have na' : b ≠ a := fun z => by rw [z, na] at e; cases e
    rw [upd_ne nb, del_ne na', upd_ne na', upd_ne nb, upd_ne na']
    exact e
end L2
namespace L2
open PySem PySem.Spec PyProof.Rows
/-- an exception class with such an __init__, under its name -/
structure XMk (P : Program) (w : World) (K : PySem.W.Frag) (mg : Str → Option Value) (base : Heap) (C : Addr) (x f : Str) : Prop where
  ex : ∃ (fI : Addr) (fd : FuncData) (ps : List Str), FnOk P w K mg base CX0 1 fI fd ps (spKeep K f) ∧ Binds K fd ps [] ∧ PySem.W.findIn K (.ref C) "__init__" = some (some (.ref fI)) ∧ PySem.W.typeIn K (.ref fI) = some (.type "function")
  mg : mg x = some (.ref C)
  cls : XCls K C
  no : PySem.W.findIn K (.ref C) f = some none
section
variable {X : Cx} {e : Expr} {es : List Expr} {t : TA} {x f : Str} {C : Addr} {W : WX} {p pos apos : Pos}
theorem ps_raiseM (M : XMk X.prog X.w X.K X.mg X.base C x f) (calm : X.calm = true) (tk : Takes X W) (hr : Room 2 X.A) (ha : PA X (e :: es) t) (hg : Gl X x := by rfl)
    (hdb : (x == ("__debug__" : Str)) = false := by decide) (he : starEach (e :: es) X.env = (false, eval e X.env) :: starEach es X.env := by rfl) (hpl : (backTo apos (starEach es X.env)).any (·.1) = false := by rfl) :
    PS X (.Raise (some (.Call (.Name x p) (e :: es) [] apos)) none pos) (fun _ σ H => tMkO C (spKeep X.K f) [] t σ H fun cls d H' => W cls d σ H') := by
  obtain ⟨fI, fd, ps, F, hb, iC, tI⟩ := M.ex
  exact ps_raiseX calm tk M.cls.oex iC tI F hr hb M.mg ha hg hdb he hpl
end
/-- where it does not raise, it is as one that never does -/
theorem FnOk.calm {P : Program} {w : World} {K : PySem.W.Frag} {mg : Str → Option Value} {base : Heap} {k : Nat} {f : Addr} {fd : FuncData} {ps : List Str} {sp : Sp} (F : FnOk P w K mg base (L2.CX P w) k f fd ps sp) : FnOk P w K mg base CX0 k f fd ps (fun vs H Q _ => sp vs H Q fun _ _ _ => False) where
  len := fun vs H Q _ h => F.len vs H Q _ h
  run := fun A outer s H args us vs Q _ hr env bnd vals want => codeAny_mono (F.run A outer s H args us vs Q _ hr env bnd vals want) fun r s' z => match r, z with
    | .ok (.ret _), z => z
    | .ok .next, z => z.elim
    | .ok .brk, z => z.elim
    | .ok .cont, z => z.elim
    | .error _, ⟨_, _, _, _, _, _, _, _, _, _, _, _, no⟩ => no.elim
theorem CalX.calm {P : Program} {w : World} {K : PySem.W.Frag} {mg : Str → Option Value} {base : Heap} {x : Str} {k : Nat} {sp sp' : Sp} (c : CalX P w K mg base x k sp) (h : ∀ vs H Q E, sp' vs H Q E → sp vs H Q fun _ _ _ => False) : Cal P w K mg base x k sp' := by
  obtain ⟨f, fd, ps, F, r⟩ := c.ex
  exact ⟨f, fd, ps, F.calm.imp h, r⟩
theorem MCalX.calm {P : Program} {w : World} {K : PySem.W.Frag} {mg : Str → Option Value} {base : Heap} {C : Addr} {m : Str} {k : Nat} {sp sp' : Sp} (c : MCalX P w K mg base C m k sp) (h : ∀ vs H Q E, sp' vs H Q E → sp vs H Q fun _ _ _ => False) : MCal P w K mg base C m k sp' := by
  obtain ⟨f, fd, ps, F, r⟩ := c.ex
  exact ⟨f, fd, ps, F.calm.imp h, r⟩
theorem Cal.imp {P : Program} {w : World} {K : PySem.W.Frag} {mg : Str → Option Value} {base : Heap} {x : Str} {k : Nat} {sp sp' : Sp} (c : Cal P w K mg base x k sp) (h : ∀ vs H Q E, sp' vs H Q E → sp vs H Q E) : Cal P w K mg base x k sp' := by
  obtain ⟨f, fd, ps, F, r⟩ := c.ex
  exact ⟨f, fd, ps, F.imp h, r⟩
end L2

end
section
set_option maxRecDepth 100000
set_option maxHeartbeats 4000000
/-! own exceptions with two fields; a class whose __init__ may raise, made within a try -/
namespace L2
open PySem PySem.Spec PyProof.Rows
/-- an __init__ that keeps its two arguments in fields -/
def spKeep2 (K : PySem.W.Frag) (f g : Str) : Sp := fun vs H Q _ => ∃ (a C : Addr) (v u : V), vs = [.ref a, v, u] ∧ OexC K C ∧ PySem.W.findIn K (.ref C) f = some none ∧ PySem.W.findIn K (.ref C) g = some none ∧ H a = some (exo a C none) ∧
  ∀ dx, H dx = none → dx ≠ a → Q .non (upd (upd (upd H dx (exd dx [(f, v)])) a (exo a C (some dx))) dx (exd dx [(g, u), (f, v)]))
theorem keep_raised2 {K : PySem.W.Frag} {C : Addr} {f g : Str} {v u : V} {H : Hp} {Q : XK} (T : OexC K C) (hf : PySem.W.findIn K (.ref C) f = some none) (hg : PySem.W.findIn K (.ref C) g = some none) (q : ∀ (d : Addr) (H' : Hp), H d = none → Same H H' → H' d = some (.xd [(g, u), (f, v)]) → Q (.ref C) (some d) H') (a : Addr) (na : H a = none) :
    spKeep2 K f g [.ref a, v, u] (upd H a (exo a C none)) (fun y H2 => y = .non ∧ ∃ (d : Addr) (fs : List (Str × V)), H2 a = some (exo a C (some d)) ∧ H2 d = some (exd d fs) ∧ H d = none ∧ Q (.ref C) (some d) (upd (del H2 a) d (.xd fs))) fun _ _ _ => False := by
  refine ⟨a, C, v, u, rfl, T, hf, hg, upd_same, fun dx ndx ne => ?_⟩
  rw [upd_ne ne] at ndx
  refine ⟨rfl, dx, _, by rw [upd_ne ne.symm, upd_same], upd_same, ndx, q dx _ ndx (fun b o e => ?_) upd_same⟩
  have nb : b ≠ dx := fun z => by rw [z, ndx] at e; cases e
  have na' : b ≠ a := fun z => by rw [z, na] at e; cases e
  rw [upd_ne nb, del_ne na', upd_ne nb, upd_ne na', upd_ne nb, upd_ne na']
  exact e
structure XMk2 (P : Program) (w : World) (K : PySem.W.Frag) (mg : Str → Option Value) (base : Heap) (C : Addr) (x f g : Str) : Prop where
  ex : ∃ (fI : Addr) (fd : FuncData) (ps : List Str), FnOk P w K mg base CX0 1 fI fd ps (spKeep2 K f g) ∧ Binds K fd ps [] ∧ PySem.W.findIn K (.ref C) "__init__" = some (some (.ref fI)) ∧ PySem.W.typeIn K (.ref fI) = some (.type "function")
  mg : mg x = some (.ref C)
  cls : XCls K C
  no1 : PySem.W.findIn K (.ref C) f = some none
  no2 : PySem.W.findIn K (.ref C) g = some none
section
variable {X : Cx} {e : Expr} {es : List Expr} {t : TA} {x f g : Str} {C : Addr} {W : WX} {p pos apos : Pos}
theorem ps_raiseM2 (M : XMk2 X.prog X.w X.K X.mg X.base C x f g) (calm : X.calm = true) (tk : Takes X W) (hr : Room 2 X.A) (ha : PA X (e :: es) t) (hg : Gl X x := by rfl)
    (hdb : (x == ("__debug__" : Str)) = false := by decide) (he : starEach (e :: es) X.env = (false, eval e X.env) :: starEach es X.env := by rfl) (hpl : (backTo apos (starEach es X.env)).any (·.1) = false := by rfl) :
    PS X (.Raise (some (.Call (.Name x p) (e :: es) [] apos)) none pos) (fun _ σ H => tMkO C (spKeep2 X.K f g) [] t σ H fun cls d H' => W cls d σ H') := by
  obtain ⟨fI, fd, ps, F, hb, iC, tI⟩ := M.ex
  exact ps_raiseX calm tk M.cls.oex iC tI F hr hb M.mg ha hg hdb he hpl
end
/-! ### making, where __init__ may raise -/
def tMakeS (C : Addr) (sp : Sp) (E : L2.St → XK) (t : TA) : TE := fun σ H Q => t σ H fun vs H1 => ∀ x dx, H1 x = none → H1 dx = none → dx ≠ x →
  sp (.ref x :: vs) (upd (upd H1 dx (.own x)) x (.ins C dx [])) (fun v H2 => v = .non ∧ Q (.ref x) H2) (E σ)
section
variable {X : Cx} {CX : CXT} {k : Nat} {f C : Addr} {fd : FuncData} {ps : List Str} {sp : Sp} {E : L2.St → XK} {x : Str} {p pos : Pos} {e : Expr} {es : List Expr} {t : TA} {W : WX}
theorem run_makeS {pins : List (Addr × Obj)} {σ : L2.St} {H : Hp} {s : Shared} {Q : VK} {us : List Value} {vs : List V} (M : Mk X.K C f) (F : FnOk X.prog X.w X.K X.mg X.base CX k f fd ps sp) (hr : Room (k + 1) X.A) (hb : Binds X.K fd ps [])
    (hx : PassesAt CX X σ (E σ)) (I : Inv X pins σ H s) (r : Vals vs us)
    (h : ∀ x dx, H x = none → H dx = none → dx ≠ x → sp (.ref x :: vs) (upd (upd H dx (.own x)) x (.ins C dx [])) (fun v H2 => v = .non ∧ Q (.ref x) H2) (E σ)) :
    wpAny (model X.prog X.w) X.A (call (.ref C) us) (EP X pins σ Q) X.xe s := by
  have hq := h (s.heap.objs.size + 1) s.heap.objs.size (I.hok.fresh (Nat.le_succ _)) (I.hok.fresh (Nat.le_refl _)) (Nat.ne_of_lt (Nat.lt_succ_self _))
  have I2 := Inv.made (C := C) I
  have r2 : Vals (V.ref (s.heap.objs.size + 1) :: vs) (Value.ref (s.heap.objs.size + 1) :: us) := .cons rfl r
  have hl : (Value.ref (s.heap.objs.size + 1) :: us).length = ps.length := by
    have e := r2.length
    rw [F.len _ _ _ _ hq] at e
    exact e.symm
  have b := hb _ (Value.ref (s.heap.objs.size + 1) :: us) I2.kIn (by rw [List.append_nil]; exact hl)
  rw [List.append_nil] at b
  refine wpAny_call (make_map (f := f) I.kIn M.makes M.init (beq_iff_eq.mp M.fn) (codeAny_mono (F.run _ X.stack _ _ ⟨Value.ref (s.heap.objs.size + 1) :: us, []⟩ (Value.ref (s.heap.objs.size + 1) :: us) _ _ (E σ) (hr.make C us [])
    (I2.env0.make C us []) b r2 hq) fun r s' hq' => ?_))
  cases r with
  | error e => exact hx pins _ _ e s' I2 hq'
  | ok fl =>
    cases fl with
    | ret u =>
      obtain ⟨v, H', I3, rv, ev, q3⟩ := I2.after hq'
      subst ev
      exact ⟨rv, ⟨V.ref (s.heap.objs.size + 1), H', I3, rfl, q3⟩⟩
    | next => exact False.elim hq'
    | brk => exact False.elim hq'
    | cont => exact False.elim hq'
structure NCalX (P : Program) (w : World) (K : PySem.W.Frag) (mg : Str → Option Value) (base : Heap) (C : Addr) (x : Str) (k : Nat) (sp : Sp) : Prop where
  ex : ∃ (f : Addr) (fd : FuncData) (ps : List Str), FnOk P w K mg base (L2.CX P w) k f fd ps sp ∧ Mk K C f ∧ Binds K fd ps []
  mg : mg x = some (.ref C)
theorem pe_ncalW (c : NCalX X.prog X.w X.K X.mg X.base C x k sp) (tk : Takes X W) (hr : Room (k + 1) X.A) (ha : PA X (e :: es) t) (hg : Gl X x := by rfl) (hdb : (x == ("__debug__" : Str)) = false := by decide)
    (he : starEach (e :: es) X.env = (false, eval e X.env) :: starEach es X.env := by rfl) (hpl : (backTo pos (starEach es X.env)).any (·.1) = false := by rfl) :
    PE X (.Call (.Name x p) (e :: es) [] pos) (tMakeS C sp (WE W) t) := by
  obtain ⟨f, fd, ps, F, M, hb⟩ := c.ex
  refine ⟨fun pins s σ H Q I h => ?_⟩
  refine wpAny_Call_Name_kw (ld_glob I hg c.mg ?_ hdb)
  refine PySem.W.callWith_K (h₀ := X.base) I.ok.mod.kin M.kp (thn (ha.run pos pins s σ H _ I h) fun us s1 ⟨vs, H1, I1, r, q⟩ => ⟨I1.kIn, ?_⟩) he hpl
  exact run_makeS M F hr hb (passAt tk σ) I1 r q
end
end L2

end
section
set_option maxRecDepth 100000
namespace L2
open PySem PySem.Spec PyProof.Rows
/-! ### states by == and != -/
section
variable {X : Cx}
theorem hu_eqD (K : PySem.W.Frag) (hu : X.A.units + 64 < cLine) (hK : X.K = K := by rfl) : OpR X (compareOp .Eq) (rEqD K) := by subst hK; exact op_eqD hu
theorem hu_neD (K : PySem.W.Frag) (hu : X.A.units + 64 < cLine) (hK : X.K = K := by rfl) : OpR X (compareOp .NotEq) (rNeD K) := by subst hK; exact op_neD hu
end
end L2
namespace Hue
open PySem PySem.Spec PyProof.Rows L2
/-- a state as plain data -/
def stD (S : List Int) : PyData := .tuple (S.map .int)
theorem ints_dp {K : PySem.W.Frag} {H : Hp} : ∀ S : List Int, DpAll K H (stV S) (S.map .int)
  | [] => .nil
  | z :: S => .cons (.int z) (ints_dp S)
theorem st_dp {K : PySem.W.Frag} {H : Hp} {a : Addr} {S : List Int} (h : H a = some (.tup (stV S))) : Dp K H (.ref a) (stD S) := .tup (SqT.of h) (ints_dp S)
theorem ints_lay : ∀ S : List Int, PyData.canLayAll0 (S.map .int) = true
  | [] => by simp [PyData.canLayAll0]
  | z :: S => by simp [PyData.canLayAll0, PyData.canLay0, ints_lay S]
theorem ints_deep : ∀ S : List Int, PyData.depthAll (S.map .int) ≤ 1
  | [] => by simp [PyData.depthAll]
  | z :: S => by
    have := ints_deep S
    simp only [List.map_cons, PyData.depthAll, PyData.depth]
    omega
theorem st_shaped (S : List Int) : SeqAt.shaped (stD S) = true := by
  have h1 := ints_deep S
  have h2 : PyData.depth (stD S) ≤ 64 := by
    simp only [stD, PyData.depth]
    omega
  show (PyData.canLay0 (stD S) && decide (PyData.depth (stD S) ≤ 64)) = true
  rw [decide_eq_true h2, Bool.and_true]
  show PyData.canLay0 (.tuple (S.map .int)) = true
  simp only [PyData.canLay0]
  exact ints_lay S
theorem ints_eqv : ∀ S T : List Int, PyData.eqvAll (S.map .int) (T.map .int) = decide (S = T)
  | [], [] => by simp [PyData.eqvAll]
  | [], _ :: _ => by simp [PyData.eqvAll]
  | _ :: _, [] => by simp [PyData.eqvAll]
  | z :: S, y :: T => by
    simp only [List.map_cons, PyData.eqvAll, PyData.eqv, ints_eqv S T]
    by_cases e : z = y
    · by_cases e2 : S = T
      · simp [e, e2]
      · simp [e, e2]
    · simp [e]
theorem st_eqv (S T : List Int) : PyData.eqv (stD S) (stD T) = decide (S = T) := by
  simp only [stD, PyData.eqv]
  exact ints_eqv S T
end Hue

end
section
set_option maxRecDepth 100000
namespace L2
open PySem PySem.Spec PyProof.Rows
/-! ### a call that knows nothing of one list leaves that list as it is, and builds nothing upon it -/
section
variable {P : Program} {w : World} {K : PySem.W.Frag} {mg : Str → Option Value} {base : Heap} {k : Nat} {f : Addr} {fd : FuncData} {ps : List Str}
/-- H without what stands at b -/
def hide (H : Hp) (b : Addr) : Hp := fun a => if a = b then none else H a
theorem hide_same {H : Hp} {b : Addr} : hide H b b = none := if_pos rfl
theorem hide_ne {H : Hp} {a b : Addr} (h : a ≠ b) : hide H b a = H a := if_neg h
theorem hide_some {H : Hp} {a b : Addr} {o : HO} (h : hide H b a = some o) : a ≠ b ∧ H a = some o := by
  have ne : a ≠ b := fun e => by
    rw [e, hide_same] at h
    cases h
  exact ⟨ne, (hide_ne (H := H) ne).symm.trans h⟩
/-- an object asks of the others for tuples and for the dicts of instances alone -/
theorem objOk_swap {H H2 : Hp} {h : Heap} {a : Addr} (tups : ∀ c xs, H c = some (.tup xs) → H2 c = some (.tup xs)) (owns : ∀ c x, H c = some (.own x) → H2 c = some (.own x)) : ∀ o : HO, ObjOk P w H h a o → ObjOk P w H2 h a o
  | .lst _, k => k
  | .tup _, k => k
  | .dK _, k => k
  | .dT _, ⟨l, s, xs, p, r⟩ => ⟨l, s, xs, by
    clear r
    induction p with
    | nil => exact .nil
    | cons e _ ih => exact .cons ⟨e.1, tups _ _ e.2.1, e.2.2⟩ (ih (Nat.le_of_succ_le l)), r⟩
  | .set _ _, k => k
  | .ins _ _ _, ⟨d, r⟩ => ⟨owns _ _ d, r⟩
  | .own _, k => k
  | .xd _, k => k
  | .met _ _, k => k
  | .rng _ _, k => k
  | .frz _ u, ⟨d, r⟩ => ⟨d, objOk_swap tups owns u r⟩
  | .tbl _, k => k
  | .ext _, k => k
theorem hOk_hide {H : Hp} {h : Heap} {b : Addr} {xs : List V} (hb : H b = some (.lst xs)) (k : HOk P w H h) : HOk P w (hide H b) h := fun a o ha =>
  objOk_swap (fun c ys e => by rw [hide_ne (ne_of e hb (by intro z; cases z))]; exact e) (fun c x e => by rw [hide_ne (ne_of e hb (by intro z; cases z))]; exact e) o (k a o (hide_some ha).2)
theorem env0_hide {A : Around} {outer : List Env} {s : Shared} {H : Hp} {b : Addr} {xs : List V} (hb : H b = some (.lst xs)) (e : Env0 P w K mg base A outer s H) : Env0 P w K mg base A outer s (hide H b) where
  frames := e.frames
  mod := e.mod
  bs := fun c o q => ⟨(e.bs c o q).1, by
    by_cases z : c = b
    · rw [z, hide_same]
    · rw [hide_ne z]; exact (e.bs c o q).2⟩
  bsz := e.bsz
  funs := e.funs
  frf := fun c hc => by
    by_cases z : c = b
    · rw [z, hide_same]
    · rw [hide_ne z]; exact e.frf c hc
  hok := hOk_hide hb e.hok
  bare := e.bare
/-- a spec, asked of the heap without the list at b -/
def Off (sp : Sp) : Sp := fun vs H Q E => ∃ (b : Addr) (xs : List V), H b = some (.lst xs) ∧ sp vs (hide H b) (fun v H' => H' b = none → Q v (upd H' b (.lst xs))) E
theorem FnOk.off {sp : Sp} (F : FnOk P w K mg base CX0 k f fd ps sp) : FnOk P w K mg base CX0 k f fd ps (Off sp) where
  len := fun vs H Q E ⟨b, xs, _, h⟩ => F.len _ _ _ _ h
  run := fun A outer s H args us vs Q E hr he hb hv ⟨b, xs, hbx, hs⟩ => by
    refine codeAny_mono (F.run A outer s (hide H b) args us vs _ E hr (env0_hide hbx he) hb hv hs) fun r s' hq => ?_
    cases r with
    | error e => exact hq
    | ok fl =>
      cases fl with
      | ret u =>
        obtain ⟨v, H', ho, hg, un, hok, rv, q⟩ := hq
        obtain ⟨hl, its, n, vv, hget⟩ := he.hok b _ hbx
        have nf : b ∉ frs outer := fun z => by
          rw [he.frf b z] at hbx
          cases hbx
        have kept := un.keep b _ hget hide_same nf List.not_mem_nil
        have gone := un.free b _ hget hide_same List.not_mem_nil
        have off : ∀ {c : Addr}, H c = none → c ≠ b ∧ hide H b c = none := fun {c} e => by
          have ne : c ≠ b := fun z => by rw [z, hbx] at e; cases e
          exact ⟨ne, by rw [hide_ne ne]; exact e⟩
        refine ⟨v, upd H' b (.lst xs), ho, hg, ⟨fun c o q n => un.keep c o q (off n).2, fun c o q n => un.slot c o q (off n).2, fun c o q n x => ?_, un.there, fun c ys e => ?_, fun c o u e => ?_, fun c ys e => ?_⟩, fun a o ha => ?_, rv, q gone⟩
        · rw [upd_ne (off n).1]
          exact un.free c o q (off n).2 x
        · have ne : c ≠ b := ne_of e hbx (by intro z; cases z)
          rw [upd_ne ne]
          exact un.tups c ys (by rw [hide_ne ne]; exact e)
        · have ne : c ≠ b := ne_of e hbx (by intro z; cases z)
          rw [upd_ne ne]
          exact un.frzs c o u (by rw [hide_ne ne]; exact e)
        · have ne : c ≠ b := ne_of e hbx (by intro z; cases z)
          obtain ⟨more, m⟩ := un.tbls c ys (by rw [hide_ne ne]; exact e)
          exact ⟨more, by rw [upd_ne ne]; exact m⟩
        · by_cases z : a = b
          · subst z
            rw [upd_same] at ha
            cases ha
            exact ⟨hl, its, n, vv, kept⟩
          · rw [upd_ne z] at ha
            have keepH : ∀ c o, H' c = some o → upd H' b (.lst xs) c = some o := fun c o e => by
              rw [upd_ne (ne_of_none e gone)]
              exact e
            exact objOk_swap (fun c ys e => keepH c _ e) (fun c x e => keepH c _ e) o (hok a o ha)
      | next => exact hq
      | brk => exact hq
      | cont => exact hq
end
end L2

end
section
set_option maxRecDepth 100000
set_option maxHeartbeats 2000000
namespace L2
open PySem PySem.Spec PyProof.Rows
/-! ### sets of tuples of ints, up to 4914 of them -/
section
/-- the masks of such a set -/
def Wid (m : Nat) : Prop := m = 7 ∨ m = 31 ∨ m = 127 ∨ m = 511 ∨ m = 2047 ∨ m = 8191
theorem Wid.pow {m : Nat} (h : Wid m) : ∃ k, m + 1 = 2 ^ k := by
  rcases h with e | e | e | e | e | e
  · exact ⟨3, by rw [e]⟩
  · exact ⟨5, by rw [e]⟩
  · exact ⟨7, by rw [e]⟩
  · exact ⟨9, by rw [e]⟩
  · exact ⟨11, by rw [e]⟩
  · exact ⟨13, by rw [e]⟩
theorem Wid.bounds {m : Nat} (h : Wid m) : 7 ≤ m ∧ m ≤ 8191 ∧ m % 2 = 1 := by
  rcases h with e | e | e | e | e | e <;> omega

/-- five times and one more, again and again -/
def five : Nat → Nat → Nat
  | x, 0 => x
  | x, n + 1 => five (5 * x + 1) n
theorem five_add : ∀ (a x b : Nat), five x (a + b) = five (five x a) b
  | 0, x, b => by rw [Nat.zero_add] <;> rfl
  | a + 1, x, b => by
    have e : a + 1 + b = (a + b) + 1 := by omega
    rw [e]
    exact five_add a (5 * x + 1) b
/-- 2^k of these steps: x goes to x + 2^k, but for a multiple of 2^(k+1) -/
theorem five_pow (k : Nat) : ∃ a b : Nat, ∀ x, five x (2 ^ k) = (1 + 4 * (2 ^ k * a)) * x + 2 ^ k * (1 + 2 * b) := by
  induction k with
  | zero =>
    refine ⟨1, 0, fun x => ?_⟩
    show 5 * x + 1 = (1 + 4 * (2 ^ 0 * 1)) * x + 2 ^ 0 * (1 + 2 * 0)
    omega
  | succ k ih =>
    obtain ⟨a, b, h⟩ := ih
    refine ⟨a + 2 * (2 ^ k * a * a), b + 2 ^ k * a + 2 * (2 ^ k * a * b), fun x => ?_⟩
    have e : (2 : Nat) ^ (k + 1) = 2 ^ k + 2 ^ k := by rw [Nat.pow_succ]; omega
    rw [e, five_add, h, h]
    generalize (2 : Nat) ^ k = N
    grind
theorem five_shift (k x : Nat) : five x (2 ^ k) % 2 ^ (k + 1) = (x + 2 ^ k) % 2 ^ (k + 1) := by
  obtain ⟨a, b, h⟩ := five_pow k
  rw [h x]
  have e : (1 + 4 * (2 ^ k * a)) * x + 2 ^ k * (1 + 2 * b) = (x + 2 ^ k) + 2 ^ (k + 1) * (2 * (a * x) + b) := by
    rw [Nat.pow_succ]
    generalize (2 : Nat) ^ k = N
    grind
  rw [e, Nat.add_mul_mod_self_left]
/-- each remainder comes -/
theorem five_covers (x j : Nat) : ∀ k, ∃ n, n < 2 ^ k ∧ five x n % 2 ^ k = j % 2 ^ k
  | 0 => ⟨0, by decide, by rw [Nat.pow_zero, Nat.mod_one, Nat.mod_one]⟩
  | k + 1 => by
    obtain ⟨n, hn, e⟩ := five_covers x j k
    have hp : 0 < (2 : Nat) ^ k := Nat.pow_pos (by decide)
    have e2 : (2 : Nat) ^ (k + 1) = 2 ^ k * 2 := Nat.pow_succ ..
    by_cases c : five x n / 2 ^ k % 2 = j / 2 ^ k % 2
    · refine ⟨n, by omega, ?_⟩
      rw [e2, Nat.mod_mul, Nat.mod_mul, e, c]
    · refine ⟨n + 2 ^ k, by omega, ?_⟩
      rw [five_add, five_shift, e2, Nat.mod_mul, Nat.mod_mul, Nat.add_mod_right, e, Nat.add_div_right _ hp]
      have d : (five x n / 2 ^ k).succ % 2 = j / 2 ^ k % 2 := by omega
      rw [d]
theorem lcgI_five (m i : Nat) (hi : i ≤ m) : ∀ n, lcgI m i n = five i n % (m + 1)
  | 0 => (Nat.mod_eq_of_lt (Nat.lt_succ_of_le hi)).symm
  | n + 1 => by
    have e : five i (n + 1) = 5 * five i n + 1 := by rw [five_add] <;> rfl
    show (lcgI m i n * 5 + 1) % (m + 1) = _
    rw [lcgI_five m i hi n, e, Nat.add_mod, Nat.mul_mod, Nat.mod_mod, ← Nat.mul_mod, ← Nat.add_mod, Nat.mul_comm]
theorem Wid.covers {m : Nat} (h : Wid m) {i j : Nat} (hi : i ≤ m) (hj : j ≤ m) : ∃ n, n ≤ m ∧ lcgI m i n = j := by
  obtain ⟨k, hk⟩ := h.pow
  obtain ⟨n, hn, e⟩ := five_covers i j k
  rw [← hk] at hn e
  exact ⟨n, Nat.le_of_lt_succ hn, by rw [lcgI_five m i hi, e, Nat.mod_eq_of_lt (Nat.lt_succ_of_le hj)]⟩
/-- a run starts at each place, soon enough -/
theorem Wid.start {m : Nat} (wd : Wid m) (g : Int) {j : Nat} (hj : j ≤ m) : ∃ n, n ≤ m + 12 ∧ runI m (SetTable.bits g) n = j := by
  obtain ⟨n, hn, e⟩ := wd.covers (runI_le m (SetTable.bits g) 12) hj
  refine ⟨12 + n, by omega, ?_⟩
  rw [runI_tail (bits_lt g), e]
theorem Wid.comes {m : Nat} (wd : Wid m) (g : Int) {j : Nat} (hj : j ≤ m) : ∃ c, c < 10 * SetTable.turns m ∧ way m g c = j := by
  obtain ⟨n, hn, e⟩ := wd.start g hj
  obtain ⟨c, hc, e2⟩ := run_nth m (SetTable.bits g) n
  have e3 : way m g c = runI m (SetTable.bits g) n := congrArg SetTable.Probe.j e2
  exact ⟨c, by unfold SetTable.turns; omega, e3.trans e⟩
theorem way_low (m : Nat) (g : Int) (c : Nat) : way m g c ≤ m := by
  have b0 : SetTable.bits g % (m + 1) ≤ m := Nat.le_of_lt_succ (Nat.mod_lt _ (Nat.succ_pos m))
  have b1 := runEnd_bd b0
  have b2 := nth_in (m := m) c (runAt m (SetTable.bits g % (m + 1)) (SetTable.bits g)) (by
    show SetTable.bits g % (m + 1) + (SetTable.runEnd m (SetTable.bits g % (m + 1)) - SetTable.bits g % (m + 1)) ≤ m
    omega)
  exact Nat.le_trans (Nat.le_add_right _ _) b2

/-- a table in which a search for a hash passes its places -/
structure Lay (t : SetTable) (hs : List Int) : Prop where
  wid : Wid t.mask
  up : Ris t.place.toList
  bare : t.dummies = #[]
  many : t.place.size = hs.length
  low : ∀ j ∈ t.place.toList, j ≤ t.mask
  path : ∀ (i : Nat) (g : Int) (j : Nat), hs[i]? = some g → t.place.toList[i]? = some j → ∃ n, way t.mask g n = j ∧ ∀ c, c < n → way t.mask g c ∈ t.place.toList
variable {t : SetTable} {hs : List Int}
theorem Lay.hole (T : Lay t hs) (le : hs.length ≤ t.mask) (g : Int) : ∃ n, n < 10 * SetTable.turns t.mask ∧ way t.mask g n ∉ t.place.toList ∧ ∀ c, c < n → way t.mask g c ∈ t.place.toList := by
  obtain ⟨j, lt, out⟩ := st_missing t.place.toList (t.mask + 1) (by rw [Array.length_toList, T.many]; omega)
  obtain ⟨c0, lt0, e0⟩ := T.wid.comes g (Nat.le_of_lt_succ lt)
  obtain ⟨n, n1, n2, n3⟩ := st_least (p := fun c => way t.mask g c ∉ t.place.toList) c0 (fun hm => out (e0 ▸ hm))
  exact ⟨n, Nat.lt_of_le_of_lt n1 lt0, n2, fun c hc => Classical.not_not.mp (n3 c hc)⟩
theorem Lay.ahead (T : Lay t hs) {g : Int} {n i j : Nat} (out : way t.mask g n ∉ t.place.toList) (hi : hs[i]? = some g) (hj : t.place.toList[i]? = some j) : ∃ c, c < n ∧ way t.mask g c = j := by
  obtain ⟨c, e, bef⟩ := T.path i g j hi hj
  refine ⟨c, Nat.lt_of_not_le fun le => ?_, e⟩
  rcases Nat.lt_or_eq_of_le le with lt | eq
  · exact out (bef n lt)
  · rw [eq, e] at out
    exact out (List.mem_of_getElem? hj)
theorem Lay.put (T : Lay t hs) {g : Int} {n : Nat} (out : way t.mask g n ∉ t.place.toList) (bef : ∀ c, c < n → way t.mask g c ∈ t.place.toList) :
    SetTable.below t.place (way t.mask g n) ≤ hs.length ∧ Lay (t.put (way t.mask g n)).1 (hs.take (SetTable.below t.place (way t.mask g n)) ++ g :: hs.drop (SetTable.below t.place (way t.mask g n))) ∧
    (t.put (way t.mask g n)).1.fill = hs.length + 1 := by
  have jm := way_low t.mask g n
  obtain ⟨j, ej⟩ : ∃ j, way t.mask g n = j := ⟨_, rfl⟩
  rw [ej] at out jm ⊢
  have b1 : SetTable.below t.place j ≤ t.place.size := (below_cut T.up j).1
  have b2 : SetTable.below t.place j ≤ t.place.toList.length := by rw [Array.length_toList]; exact b1
  have b3 : SetTable.below t.place j ≤ hs.length := by rw [← T.many]; exact b1
  have pl := put_place t j
  have inn : ∀ x ∈ t.place.toList, x ∈ (t.put j).1.place.toList := fun x hx => by
    rw [pl]
    exact mem_ins.2 (.inr hx)
  have sz : (t.put j).1.place.size = hs.length + 1 := by
    rw [← Array.length_toList, pl, len_ins _ b2, Array.length_toList, T.many]
  refine ⟨b3, ⟨T.wid, ?_, put_dm T.bare j, by rw [len_ins _ b3]; exact sz, fun x hx => ?_, fun i g' j' h1 h2 => ?_⟩, ?_⟩
  · exact ris_insert T.up fun e => out (List.mem_of_getElem? (by rw [Array.getElem?_toList]; exact e))
  · rw [pl] at hx
    rcases mem_ins.1 hx with e | hx
    · rw [e]
      exact jm
    · exact T.low x hx
  · rw [pl, tins_get _ b2] at h2
    rw [tins_get hs b3] at h1
    have old : ∀ i0, hs[i0]? = some g' → t.place.toList[i0]? = some j' → ∃ n0, way t.mask g' n0 = j' ∧ ∀ c, c < n0 → way t.mask g' c ∈ (t.put j).1.place.toList := fun i0 a1 a2 => by
      obtain ⟨n0, x1, x2⟩ := T.path i0 g' j' a1 a2
      exact ⟨n0, x1, fun c hc => inn _ (x2 c hc)⟩
    rcases Nat.lt_trichotomy i (SetTable.below t.place j) with c | c | c
    · rw [if_pos c] at h1 h2
      exact old i h1 h2
    · rw [if_neg (by omega), if_pos c] at h1 h2
      obtain rfl := Option.some.inj h1
      obtain rfl := Option.some.inj h2
      exact ⟨n, ej, fun c hc => inn _ (bef c hc)⟩
    · rw [if_neg (by omega), if_neg (by omega)] at h1 h2
      exact old (i - 1) h1 h2
  · show (t.put j).1.place.size + (t.put j).1.dummies.size = _
    rw [sz, put_dm T.bare j] <;> rfl

/-! the table laid out again -/
theorem Wid.free {m : Nat} (wd : Wid m) (owner : Array (Option Nat)) (g : Int) {j : Nat} (hj : j ≤ m) (none0 : oAt owner j = none) :
    ∃ n, SetTable.layClean.free m owner (SetTable.turns m) (SetTable.bits g % (m + 1)) (SetTable.bits g) = some (way m g n) ∧ oAt owner (way m g n) = none ∧ ∀ c, c < n → oAt owner (way m g c) ≠ none := by
  obtain ⟨r, le, e⟩ := wd.start g hj
  have at_ : way m g (off m (SetTable.bits g % (m + 1)) (SetTable.bits g) r) = j := by
    refine Eq.trans (congrArg SetTable.Probe.j (nth_off m r _ _)) ?_
    rw [itL_run]
    exact e
  obtain ⟨n, n1, n2, n3⟩ := st_least (p := fun c => oAt owner (way m g c) = none) _ (show oAt owner (way m g _) = none by rw [at_]; exact none0)
  refine ⟨n, free_spec m owner _ r _ _ n (by unfold SetTable.turns; omega) n1 (fun c hc => ?_) ?_, n2, n3⟩
  · cases z : oAt owner (way m g c) with
    | none => exact absurd z (n3 c hc)
    | some q => rfl
  · exact (congrArg Option.isNone n2)
theorem Wid.own {m : Nat} (wd : Wid m) {done : List Int} {owner : Array (Option Nat)} (W : Own m done owner) (few : done.length ≤ m) (g : Int) :
    ∃ j, SetTable.layClean.free m owner (SetTable.turns m) (SetTable.bits g % (m + 1)) (SetTable.bits g) = some j ∧ Own m (done ++ [g]) (owner.setIfInBounds j (some done.length)) := by
  obtain ⟨ps, lp, cov⟩ := W.ps
  obtain ⟨j0, lt0, out0⟩ := st_missing ps (m + 1) (by omega)
  have no0 : oAt owner j0 = none := Classical.byContradiction fun z => out0 (cov j0 (Nat.le_of_lt_succ lt0) z)
  obtain ⟨n, f, vac, bef⟩ := wd.free owner g (Nat.le_of_lt_succ lt0) no0
  have lm := way_low m g n
  refine ⟨_, f, ?_⟩
  generalize hj : way m g n = j at vac lm
  have slf := oAt_set_self (owner := owner) (some done.length) (j := j) (by rw [W.sz]; omega)
  have keep : ∀ i, oAt owner i ≠ none → oAt (owner.setIfInBounds j (some done.length)) i ≠ none := fun i hi => by
    by_cases c : i = j
    · rw [c, slf]
      exact Option.some_ne_none _
    · rw [oAt_set_ne _ c]
      exact hi
  constructor
  · rw [Array.size_setIfInBounds, W.sz]
  · intro i k hi e
    by_cases c : i = j
    · rw [c, slf] at e
      obtain rfl := Option.some.inj e
      refine ⟨g, n, ?_, hj.trans c.symm, fun c hc => keep _ (bef c hc)⟩
      rw [List.getElem?_append_right (Nat.le_refl _), Nat.sub_self] <;> rfl
    · rw [oAt_set_ne _ c] at e
      obtain ⟨g', n', x1, x2, x3⟩ := W.at_ i k hi e
      exact ⟨g', n', by rw [List.getElem?_append_left (List.getElem?_eq_some_iff.mp x1).1]; exact x1, x2, fun c hc => keep _ (x3 c hc)⟩
  · intro k hk
    rw [List.length_append, List.length_singleton] at hk
    rcases Nat.lt_or_eq_of_le (Nat.le_of_lt_succ hk) with c | c
    · obtain ⟨i, hi, e⟩ := W.all k c
      have ne : i ≠ j := fun z => by
        rw [z, vac] at e
        exact nomatch e
      exact ⟨i, hi, by rw [oAt_set_ne _ ne]; exact e⟩
    · exact ⟨j, lm, by rw [slf, c]⟩
  · refine ⟨j :: ps, by rw [List.length_cons, lp, List.length_append] <;> rfl, fun i hi e => ?_⟩
    by_cases c : i = j
    · rw [c]
      exact .head _
    · rw [oAt_set_ne _ c] at e
      exact .tail _ (cov i hi e)
theorem Wid.lays {m : Nat} (wd : Wid m) : ∀ (rest done : List Int) (owner : Array (Option Nat)), Own m done owner → done.length + rest.length ≤ m →
    ∃ o2, rest.foldl (stepF m) (some (owner, done.length)) = some (o2, (done ++ rest).length) ∧ Own m (done ++ rest) o2
  | [], done, owner, W, _ => by
    rw [List.append_nil]
    exact ⟨owner, rfl, W⟩
  | g :: rest, done, owner, W, le => by
    have lc : (g :: rest).length = rest.length + 1 := rfl
    have ls : (done ++ [g]).length = done.length + 1 := by rw [List.length_append] <;> rfl
    obtain ⟨j, f, W1⟩ := wd.own W (by omega) g
    obtain ⟨o2, h1, h2⟩ := wd.lays rest (done ++ [g]) _ W1 (by omega)
    rw [ls, List.append_assoc] at h1
    rw [List.append_assoc] at h2
    exact ⟨o2, by rw [List.foldl_cons, stepF_some f]; exact h1, h2⟩
theorem Wid.relaid {M : Nat} (wd : Wid M) (t : SetTable) {hs : Array Int} {wanted : Nat} (hw : SetTable.sizeAbove wanted - 1 = M) (le : hs.size ≤ M) :
    ∃ t2 order, t.relaid hs wanted = some (t2, order) ∧ order.toList.Perm (List.range hs.size) ∧ Lay t2 (order.toList.map fun i => hs.getD i 0) ∧ t2.mask = M ∧ t2.led = t.led ∧ t2.plain = t.plain := by
  obtain ⟨owner, f, W⟩ := wd.lays hs.toList [] _ (Own.init M) (by rw [Array.length_toList]; show 0 + hs.size ≤ M; omega)
  rw [List.nil_append] at f W
  have lay : SetTable.layClean M hs = some owner := by
    rw [layClean_eq]
    exact (congrArg (Option.map (·.1)) f)
  generalize hLv : liveOf M owner = Lv
  have mem : ∀ j k, (j, k) ∈ Lv ↔ j ≤ M ∧ oAt owner j = some k := fun j k => by
    rw [← hLv]
    exact mem_live W.sz
  have up : Ris (Lv.map (·.1)) ∧ ∀ x ∈ Lv.map (·.1), x ∈ List.range (M + 1) := by
    rw [← hLv]
    exact ris_live (fun j => owner.getD j none) (List.range (M + 1)) (by
      unfold Ris
      first | exact List.pairwise_lt_range | exact List.pairwise_lt_range _)
  have ks : ∀ k, k < hs.size → k ∈ Lv.map (·.2) := fun k hk => by
    obtain ⟨j, j1, j2⟩ := W.all k (by rw [Array.length_toList]; exact hk)
    exact List.mem_map.mpr ⟨(j, k), (mem j k).2 ⟨j1, j2⟩, rfl⟩
  have cnt : (Lv.map (·.2)).length = hs.size := by
    obtain ⟨ps, lp, cov⟩ := W.ps
    have fs : (Lv.map (·.1)).Nodup := List.Pairwise.imp (fun h => Nat.ne_of_lt h) up.1
    have c1 := nat_nodup_len (Lv.map (·.1)) ps fs fun x hx => by
      obtain ⟨⟨j, k⟩, jk, rfl⟩ := List.mem_map.mp hx
      obtain ⟨x1, x2⟩ := (mem j k).1 jk
      exact cov j x1 (by rw [x2]; exact Option.some_ne_none k)
    have c2 := nat_nodup_len (List.range hs.size) (Lv.map (·.2)) List.nodup_range fun k hk => ks k (List.mem_range.mp hk)
    have z : hs.toList.length = hs.size := rfl
    rw [List.length_map, lp] at c1
    rw [List.length_range, List.length_map] at c2
    rw [List.length_map]
    omega
  refine ⟨tabOf t M owner, (Lv.map (·.2)).toArray, ?_, perm_range hs.size _ cnt ks, ⟨wd, ?_, rfl, ?_, fun j hj => ?_, fun i g j h1 h2 => ?_⟩, rfl, rfl, rfl⟩
  · rw [relaid_eq, hw, lay, ← hLv] <;> rfl
  · show Ris ((liveOf M owner).map (·.1))
    rw [hLv]
    exact up.1
  · show ((liveOf M owner).map (·.1)).toArray.size = _
    rw [hLv, List.size_toArray, List.length_map, List.length_map, List.length_map]
  · have hj' : j ∈ (liveOf M owner).map (·.1) := hj
    rw [hLv] at hj'
    exact Nat.le_of_lt_succ (List.mem_range.mp (up.2 j hj'))
  · have h2' : ((liveOf M owner).map (·.1))[i]? = some j := h2
    have h1' : ((Lv.map (·.2)).map fun i => hs.getD i 0)[i]? = some g := h1
    rw [hLv, List.getElem?_map] at h2'
    rw [List.getElem?_map, List.getElem?_map] at h1'
    obtain ⟨⟨y, k⟩, q1, rfl⟩ := Option.map_eq_some_iff.mp h2'
    rw [q1] at h1'
    obtain rfl := Option.some.inj h1'
    obtain ⟨m1, m2⟩ := (mem y k).1 (List.mem_of_getElem? q1)
    obtain ⟨g0, n, d1, d2, d3⟩ := W.at_ y k m1 m2
    have eg : hs.getD k 0 = g0 := by
      rw [Array.getD_eq_getD_getElem?, ← Array.getElem?_toList, d1] <;> rfl
    show ∃ n, way M (hs.getD k 0) n = y ∧ ∀ c, c < n → way M (hs.getD k 0) c ∈ (liveOf M owner).map (·.1)
    rw [eg, hLv]
    refine ⟨n, d2, fun c hc => ?_⟩
    obtain ⟨k2, e2⟩ := Option.ne_none_iff_exists'.mp (d3 c hc)
    exact List.mem_map.mpr ⟨(way M g0 c, k2), (mem _ _).2 ⟨way_low M g0 c, e2⟩, rfl⟩
end
end L2

end
section
set_option maxRecDepth 100000
set_option maxHeartbeats 2000000
namespace L2
open PySem PySem.Spec PyProof.Rows
/-! ### a set of up to 4914 tuples of ints: searching, adding -/
section
variable {P : Program} {w : World} {A : Around} {E : Value → Shared → Prop} {s : Shared}
variable {a : Addr} {L : List (Addr × List Int)} {es : Array (Int × Value)} {ep : Nat} {t : SetTable}
/-- the hashes of the rows -/
abbrev hsh (P : Program) (w : World) (L : List (Addr × List Int)) : List Int := L.map fun p => thash P w p.2
/-- the object at a is a set whose entries are L -/
structure BigO (P : Program) (w : World) (h : Heap) (a : Addr) (L : List (Addr × List Int)) (es : Array (Int × Value)) (ep : Nat) (t : SetTable) : Prop where
  obj : ∃ o, h.get? a = some o ∧ o.ExactSet ∧ o.data = .set es ep t
  ent : es.toList = rowsOf P w L
  lay : Lay t (hsh P w L)
  dif : (L.map (·.2)).Nodup
  pln : t.plain = true
  seq : w.params.followText "set-order" = true ∨ t.led = true
  gap : L.length * 5 < t.mask * 3
theorem rowsOf_len {es : Array (Int × Value)} (h : es.toList = rowsOf P w L) : es.size = L.length := by
  have e := congrArg List.length h
  rw [Array.length_toList] at e
  exact e.trans (List.length_map ..)
namespace BigO
theorem size (R : BigO P w s.heap a L es ep t) : es.size = L.length := rowsOf_len R.ent
theorem many (R : BigO P w s.heap a L es ep t) : t.place.size = L.length := R.lay.many.trans (List.length_map ..)
theorem fits (R : BigO P w s.heap a L es ep t) : t.fits es.size = true := by
  have g := R.gap
  have c1 : t.place.size = es.size := R.many.trans R.size.symm
  have c2 : t.place.size + t.dummies.size ≤ t.mask := by
    rw [R.lay.bare, R.many]
    show L.length + 0 ≤ _
    omega
  unfold SetTable.fits SetTable.fill
  rw [Bool.and_eq_true, beq_iff_eq, decide_eq_true_eq]
  exact ⟨c1, c2⟩
theorem row (R : BigO P w s.heap a L es ep t) {i : Nat} {p : Addr × List Int} (h : L[i]? = some p) : es[i]? = some (thash P w p.2, Value.ref p.1) := by
  rw [← Array.getElem?_toList, R.ent]
  refine (List.getElem?_map ..).trans ?_
  rw [h] <;> rfl
theorem whole (R : BigO P w s.heap a L es ep t) : ¬ t.gaveWay = true := by
  unfold SetTable.gaveWay
  rw [R.lay.wid.bounds.2.2]
  decide
end BigO
/-- a search, from its c-th place on: for adding, or for asking -/
theorem big_from (R : BigO P w s.heap a L es ep t) (tup : ∀ p ∈ L, IsT P w s.heap p.2 p.1) {x : Addr} {k : List Int} (hx : IsT P w s.heap k x) (hu : A.units < cLine) (adding : Bool) {n : Nat} (fuel : n < 10 * SetTable.turns t.mask)
    (out : way t.mask (thash P w k) n ∉ t.place.toList) (bef : ∀ c, c < n → way t.mask (thash P w k) c ∈ t.place.toList) {Q : SetFound → Shared → Prop}
    (yes : ∀ r, (adding = true → r = none) → (adding = false → r.isSome = true) → k ∈ L.map (·.2) → Q (.there r) s) (no : k ∉ L.map (·.2) → Q (.free (way t.mask (thash P w k) n) false) s) :
    ∀ (f c : Nat) (stand : Option SetTable.Probe), stand.getD (t.probeStart (thash P w k)) = pAt t.mask (thash P w k) c → c ≤ n → n - c < f →
      (∀ (i : Nat) p, L[i]? = some p → p.2 = k → ∃ d, c ≤ d ∧ d < n ∧ t.place.toList[i]? = some (way t.mask (thash P w k) d)) →
      wpAny (model P w) A (setSearchFrom a (.ref x) (thash P w k) adding f stand) Q E s
  | 0, _, _, _, _, lt, _ => absurd lt (Nat.not_lt_zero _)
  | f + 1, c, stand, st, cn, lt, left => by
    obtain ⟨o, ho, hex, hd⟩ := R.obj
    rw [setSearchFrom_succ]
    refine wpAny_bind (wpAny_setState_of ho hd R.fits ?_)
    dsimp only
    refine wp_if_neg R.whole ?_
    try refine wpAny_bind (wpAny_pure ?_)
    have step : ∀ q, (nth t.mask (pAt t.mask (thash P w k) c) q).j = way t.mask (thash P w k) (c + q) := fun q => congrArg SetTable.Probe.j (pAt_on t.mask (thash P w k) c q)
    have rest : n - c + c = n := Nat.sub_add_cancel cn
    have hash : ∀ (i : Nat) p, L[i]? = some p → (es[i]?.map (·.1)).getD 0 = thash P w p.2 := fun i p hp => by
      rw [R.row hp] <;> rfl
    have last : (nth t.mask (pAt t.mask (thash P w k) c) (n - c)).j = way t.mask (thash P w k) n := by rw [step, Nat.add_comm c, rest]
    have spec := go_spec t R.lay.up R.lay.bare (fun i => (es[i]?.map (·.1)).getD 0) (thash P w k) (10 * SetTable.turns t.mask) (n - c) _ (pAt_dummy t.mask (thash P w k) c) (by omega)
      (fun q hq => by rw [step]; exact bef (c + q) (by omega)) (by rw [last]; exact out)
    rcases spec with ⟨q, i, hq, hi, hh, before, pr⟩ | ⟨before, pr⟩
    · rw [step] at hi pr
      rw [show stand.getD (t.probeStart (thash P w k)) = pAt t.mask (thash P w k) c from st]
      rw [show t.probe (fun i => (es[i]?.map (·.1)).getD 0) (thash P w k) (pAt t.mask (thash P w k) c) = _ from pr]
      dsimp only
      have il : i < L.length := by
        have z := (List.getElem?_eq_some_iff.mp hi).1
        rw [Array.length_toList, R.many] at z
        exact z
      obtain ⟨p, hp⟩ : ∃ p, L[i]? = some p := ⟨_, List.getElem?_eq_getElem il⟩
      have mem : p ∈ L := List.mem_of_getElem? hp
      have live : t.slot (way t.mask (thash P w k) (c + q)) = .live i := slot_live R.lay.up hi
      have cont : wpAny (model P w) A (searchRest a (.ref x) (thash P w k) adding f es t (way t.mask (thash P w k) (c + q)) i (nth t.mask (pAt t.mask (thash P w k) c) (q + 1))) Q E s := by
        unfold searchRest
        rw [R.row hp]
        dsimp only
        refine wpAny_bind (wpAny_holding (wpAny_eqBool_tuple hu (tup p mem) hx ?_))
        refine wpAny_bind (wpAny_setState_of ho hd R.fits ?_)
        dsimp only
        by_cases kk : p.2 = k
        · have km : k ∈ L.map (·.2) := List.mem_map.mpr ⟨p, mem, kk⟩
          cases adding with
          | true =>
            refine wp_if_pos (by simp [kk]) ?_
            exact wpAny_pure (yes none (fun _ => rfl) (fun z => nomatch z) km)
          | false =>
            refine wp_if_neg (by simp) ?_
            try refine wpAny_bind (wpAny_pure ?_)
            rw [sameMem]
            dsimp only
            simp only [if_true, live, R.row hp]
            refine wpAny_bind (wpAny_isSame_ref_self (wpAny_bind (wpAny_pure ?_)))
            simp only [if_true]
            refine wp_if_pos (by simp [kk]) ?_
            exact wpAny_pure (yes (some i) (fun z => nomatch z) (fun _ => rfl) km)
        · refine wp_if_neg (by simp [kk]) ?_
          try refine wpAny_bind (wpAny_pure ?_)
          rw [sameMem]
          dsimp only
          simp only [if_true, live, R.row hp]
          refine wpAny_bind (wpAny_isSame_ref_self (wpAny_bind (wpAny_pure ?_)))
          simp only [if_true]
          refine wp_if_neg (by simp [kk]) ?_
          refine big_from R tup hx hu adding fuel out bef yes no f (c + (q + 1)) _ (pAt_on ..) (by omega) (by omega) fun i0 p0 h0 k0 => ?_
          obtain ⟨d, d1, d2, d3⟩ := left i0 p0 h0 k0
          refine ⟨d, Nat.lt_of_not_le fun le => ?_, d2, d3⟩
          have h1 : (es[i0]?.map (·.1)).getD 0 = thash P w k := (hash i0 p0 h0).trans (congrArg (thash P w) k0)
          have le2 : d ≤ c + q := le
          rcases Nat.lt_or_eq_of_le le2 with z | z
          · refine before (d - c) i0 (by omega) ?_ h1
            rw [step, show c + (d - c) = d by omega]
            exact d3
          · rw [z] at d3
            have two := live.symm.trans (slot_live R.lay.up d3)
            injection two with two
            rw [← two, hp] at h0
            exact kk ((congrArg Prod.snd (Option.some.inj h0)).trans k0)
      by_cases led : t.led = true
      · refine wp_if_neg (by simp [led]) ?_
        try refine wpAny_bind (wpAny_pure ?_)
        exact cont
      · refine wp_if_pos (by simp [led]) ?_
        refine wpAny_bind (seen_tup hx (fun y hy => ?_) (wp_if_neg (by decide) ?_))
        · obtain ⟨e, he, rfl⟩ := List.mem_map.mp hy
          have he2 : e ∈ es ∧ e.1 = thash P w k := by simpa using he
          have he3 : e ∈ rowsOf P w L := by
            rw [← R.ent]
            simpa using he2.1
          obtain ⟨p2, m2, rfl⟩ := List.mem_map.mp he3
          exact ⟨p2.2, p2.1, rfl, tup p2 m2⟩
        · try refine wpAny_bind (wpAny_pure ?_)
          exact cont
    · rw [last] at pr
      rw [show stand.getD (t.probeStart (thash P w k)) = pAt t.mask (thash P w k) c from st]
      rw [show t.probe (fun i => (es[i]?.map (·.1)).getD 0) (thash P w k) (pAt t.mask (thash P w k) c) = _ from pr]
      dsimp only
      refine wpAny_pure (no fun hm => ?_)
      obtain ⟨p0, m0, k0⟩ := List.mem_map.mp hm
      obtain ⟨i0, l0, e0⟩ := List.getElem_of_mem m0
      have h0 : L[i0]? = some p0 := (List.getElem?_eq_getElem l0).trans (congrArg some e0)
      obtain ⟨d, d1, d2, d3⟩ := left i0 p0 h0 k0
      refine before (d - c) i0 (by omega) ?_ ((hash i0 p0 h0).trans (congrArg (thash P w) k0))
      rw [step, show c + (d - c) = d by omega]
      exact d3
/-- the whole search -/
theorem big_search (R : BigO P w s.heap a L es ep t) (tup : ∀ p ∈ L, IsT P w s.heap p.2 p.1) {x : Addr} {k : List Int} (hx : IsT P w s.heap k x) (hu : A.units < cLine) (adding : Bool) {Q : SetFound → Shared → Prop}
    (yes : ∀ r, (adding = true → r = none) → (adding = false → r.isSome = true) → k ∈ L.map (·.2) → Q (.there r) s)
    (no : ∀ n, k ∉ L.map (·.2) → way t.mask (thash P w k) n ∉ t.place.toList → (∀ c, c < n → way t.mask (thash P w k) c ∈ t.place.toList) → Q (.free (way t.mask (thash P w k) n) false) s) :
    wpAny (model P w) A (setSearch a (.ref x) (thash P w k) adding) Q E s := by
  have g := R.gap
  obtain ⟨n, fuel, out, bef⟩ := R.lay.hole (by rw [List.length_map]; omega) (thash P w k)
  have big : n < 100000 := by
    have b := R.lay.wid.bounds.2.1
    unfold SetTable.turns at fuel
    omega
  unfold setSearch
  refine big_from R tup hx hu adding fuel out bef yes (fun nm => no n nm out bef) 100000 0 none rfl (Nat.zero_le _) (by omega) fun i p hp hk => ?_
  have hi : (hsh P w L)[i]? = some (thash P w k) := by
    refine (List.getElem?_map ..).trans ?_
    rw [hp, ← hk] <;> rfl
  have il : i < t.place.toList.length := by
    rw [Array.length_toList, R.many]
    exact (List.getElem?_eq_some_iff.mp hp).1
  obtain ⟨c, c1, c2⟩ := R.lay.ahead out hi (List.getElem?_eq_getElem il)
  exact ⟨c, Nat.zero_le c, c1, by rw [c2]; exact List.getElem?_eq_getElem il⟩
theorem BigO.typ (R : BigO P w s.heap a L es ep t) : s.TypeIs (.ref a) "set" := let ⟨o, ho, hex, _⟩ := R.obj; ⟨o, ho, hex.1⟩
/-- k in the set -/
theorem big_in (R : BigO P w s.heap a L es ep t) (tup : ∀ p ∈ L, IsT P w s.heap p.2 p.1) {x : Addr} {k : List Int} (hx : IsT P w s.heap k x) (hu : A.units + 64 < cLine) {Q : Value → Shared → Prop}
    (h : ∀ tk, Q (.bool (decide (k ∈ L.map (·.2)))) { s with toks := tk }) : wpAny (model P w) A (compareOp .In (.ref x) (.ref a)) Q E s := by
  show wpAny _ _ (do return .bool (← contains (.ref a) (.ref x))) Q E s
  refine wpAny_bind ?_
  unfold contains
  try with_reducible refine wpAny_holding ?_
  refine wpAny_bind (wpAny_specialOf R.typ F.slot_set_contains.lookup ?_)
  show wpAny _ _ (if (some (Value.builtin "set.__contains__") == some Value.none) = true then _ else _) _ E s
  rw [if_neg (by rw [beq_builtin_none]; exact Bool.false_ne_true)]
  refine wpAny_bind (wpAny_callSpecialUnlessNone?_slot (name := Str.ofString "__contains__") R.typ F.slot_set_contains
    (wpAny_call_entry F.slot_set_contains R.typ entry_set_contains ?_ (F.args_set_contains_2 _ _)))
  unfold Builtin.«frozenset.__contains__» Builtin.Frozenset.oneOther
  simp only [List.isEmpty_nil, bind_assoc]
  unfold Builtin.Frozenset.addrOf Builtin.Frozenset.withSetAsKey setContains
  refine wpAny_bind (wpAny_pure ?_)
  try dsimp only
  refine wpAny_bind (wpAny_pure ?_)
  try dsimp only
  refine wpAny_bind (wpAny_tryCatch ?_)
  refine wpAny_holding ?_
  refine wpAny_bind (wpAny_pyHash_tuple ?_ hx ?_)
  · show A.units + 1 < cLine
    omega
  have R2 : BigO P w ({ s with toks := s.toks + (k.length + 1) } : Shared).heap a L es ep t := R
  obtain ⟨o, ho, hex, hd⟩ := R2.obj
  have fin : ∀ r : Option Nat, r.isSome = decide (k ∈ L.map (·.2)) → wpAny (model P w) A (pure (Value.bool r.isSome)) (fun v s' => Q v s') E { s with toks := s.toks + (k.length + 1) } := fun r hr => by
    rw [hr]
    exact wpAny_pure (h _)
  refine wpAny_bind (Q := _) (m := setFind a (.ref x) (thash P w k)) ?_
  unfold setFind
  rw [show (100000 : Nat) = 99999 + 1 from rfl]
  unfold setFindIn
  refine wpAny_bind (wpAny_setState_of ho hd R2.fits ?_)
  dsimp only
  refine wp_if_neg (by simp [byScan, Value.scannable]) ?_
  try refine wpAny_bind (wpAny_pure ?_)
  refine wpAny_bind (big_search R2 tup hx (by show A.units + 1 < cLine; omega) false (fun r _ hr hm => ?_) (fun n nm out bef => ?_))
  · refine wpAny_pure ?_
    refine wpAny_pure ?_
    show wpAny _ _ (ret (Value.bool r.isSome)) _ _ _
    rw [hr rfl, ← decide_eq_true hm]
    exact wpAny_pure ⟨_, rfl, wpAny_truthy_bool (wpAny_pure (h _))⟩
  · refine wpAny_pure ?_
    refine wpAny_pure ?_
    show wpAny _ _ (ret (Value.bool (none : Option Nat).isSome)) _ _ _
    rw [show (none : Option Nat).isSome = decide (k ∈ L.map (·.2)) from (decide_eq_false nm).symm]
    exact wpAny_pure ⟨_, rfl, wpAny_truthy_bool (wpAny_pure (h _))⟩

theorem grow_size {n m : Nat} (wd : Wid m) (lt : n * 5 < m * 3) (ge : (n + 1) * 5 ≥ m * 3) (few : n + 1 < 4915) : ∃ M, SetTable.sizeAbove (SetTable.grown (n + 1)) = M + 1 ∧ Wid M ∧ (n + 1) * 5 < M * 3 ∧ M ≤ 8191 := by
  rcases wd with e | e | e | e | e | e
  · obtain rfl : n = 4 := by omega
    exact ⟨31, by decide +kernel, .inr (.inl rfl), by omega, by omega⟩
  · obtain rfl : n = 18 := by omega
    exact ⟨127, by decide +kernel, .inr (.inr (.inl rfl)), by omega, by omega⟩
  · obtain rfl : n = 76 := by omega
    exact ⟨511, by decide +kernel, .inr (.inr (.inr (.inl rfl))), by omega, by omega⟩
  · obtain rfl : n = 306 := by omega
    exact ⟨2047, by decide +kernel, .inr (.inr (.inr (.inr (.inl rfl)))), by omega, by omega⟩
  · obtain rfl : n = 1228 := by omega
    exact ⟨8191, by decide +kernel, .inr (.inr (.inr (.inr (.inr rfl)))), by omega, by omega⟩
  · omega
/-- the set's table laid out anew, larger -/
theorem big_relay {o : Obj} (ho : s.heap.get? a = some o) (hex : o.ExactSet) (hd : o.data = .set es ep t) (ent : es.toList = rowsOf P w L) (lay : Lay t (hsh P w L)) (le : L.length ≤ t.mask)
    (dif : (L.map (·.2)).Nodup) (pln : t.plain = true) (seq : w.params.followText "set-order" = true ∨ t.led = true) {wanted M : Nat}
    (hw : SetTable.sizeAbove wanted = M + 1) (wd : Wid M) (room : L.length * 5 < M * 3) {Q : Unit → Shared → Prop}
    (q : ∀ g L2 es2 ep2 t2, Heap.SameBut a s.heap g → BigO P w g a L2 es2 ep2 t2 → L2.Perm L → Q () { s with heap := g }) : wpAny (model P w) A (setRelay a wanted) Q E s := by
  have sz : es.size = L.length := rowsOf_len ent
  have many : t.place.size = L.length := lay.many.trans (List.length_map ..)
  have fits : t.fits es.size = true := by
    unfold SetTable.fits SetTable.fill
    rw [Bool.and_eq_true, beq_iff_eq, decide_eq_true_eq, lay.bare, many, sz]
    exact ⟨rfl, by show L.length + 0 ≤ _; omega⟩
  have bM := wd.bounds
  obtain ⟨t2, order, e, pm, lay2, em, el, ep2⟩ := wd.relaid t (hs := es.map (·.1)) (wanted := wanted) (by omega) (by rw [Array.size_map, sz]; omega)
  rw [Array.size_map, sz] at pm
  obtain ⟨L2, r1, r2, r3⟩ := order_rows L es order ent pm
  have lay3 : Lay t2 (hsh P w L2) := by
    show Lay t2 (L2.map fun p => thash P w p.2)
    rw [r3]
    exact lay2
  have sz2 : (order.filterMap (es[·]?)).size = es.size := by rw [rowsOf_len r1, r2.length_eq, sz]
  rw [setRelay_eq]
  refine wpAny_bind (wpAny_setState_of ho hd fits ?_)
  dsimp only
  refine wp_if_neg (by rw [hw, sizeLine_eq]; omega) ?_
  try refine wpAny_bind (wpAny_pure ?_)
  rw [e]
  dsimp only
  refine wpAny_bind (wp_if_neg (by rw [sz2]; simp) ?_)
  try refine wpAny_bind (wpAny_pure ?_)
  refine wpAny_pure ?_
  dsimp only
  refine wpAny_storeSet_of ho hd ?_ (by rw [sz2, sz, sizeLine_eq]; omega)
  refine q _ L2 (order.filterMap (es[·]?)) (ep + 1) t2 (Heap.SameBut.update ..) ?_ r2
  exact ⟨⟨_, store_at ho hd, ⟨hex.1, hex.2.1, hex.2.2⟩, rfl⟩, r1, lay3, (r2.map (·.2)).nodup_iff.mpr dif, ep2.trans pln, by rw [el]; exact seq, by rw [r2.length_eq, em]; exact room⟩
/-- one more tuple -/
theorem big_add (R : BigO P w s.heap a L es ep t) (tup : ∀ p ∈ L, IsT P w s.heap p.2 p.1) {x : Addr} {k : List Int} (hx : IsT P w s.heap k x) (hu : A.units < cLine) (few : L.length + 1 < 4915) {Q : Bool → Shared → Prop}
    (q : ∀ b g L2 es2 ep2 t2, Heap.SameBut a s.heap g → BigO P w g a L2 es2 ep2 t2 → (k ∈ L.map (·.2) → L2 = L) → (k ∉ L.map (·.2) → L2.Perm ((x, k) :: L)) → Q b { s with heap := g }) :
    wpAny (model P w) A (setAddHashed a (.ref x) (thash P w k)) Q E s := by
  obtain ⟨o, ho, hex, hd⟩ := R.obj
  have sz := R.size
  unfold setAddHashed
  refine wpAny_holding ?_
  rw [show (100000 : Nat) = 99999 + 1 from rfl, setAddHashedIn_succ]
  refine wpAny_bind (wpAny_setState_of ho hd R.fits ?_)
  dsimp only
  refine wp_if_neg (by simp [byScan, Value.scannable]) ?_
  try refine wpAny_bind (wpAny_pure ?_)
  refine wpAny_bind (big_search R tup hx hu true (fun r hr _ hm => ?_) fun n nm out bef => ?_)
  · dsimp only
    exact wpAny_pure (q false s.heap L es ep t (Heap.SameBut.refl a s.heap) R (fun _ => rfl) fun z => absurd hm z)
  dsimp only
  refine wpAny_bind (wpAny_setState_of ho hd R.fits ?_)
  dsimp only
  obtain ⟨le, lay1, fill1⟩ := R.lay.put out bef
  have m1 : (t.put (way t.mask (thash P w k) n)).1.mask = t.mask := rfl
  have p1 : (t.put (way t.mask (thash P w k) n)).1.plain = true := R.pln
  have l1 : w.params.followText "set-order" = true ∨ (t.put (way t.mask (thash P w k) n)).1.led = true := R.seq
  have at1 : (t.put (way t.mask (thash P w k) n)).2 = SetTable.below t.place (way t.mask (thash P w k) n) := rfl
  generalize hp1 : t.put (way t.mask (thash P w k) n) = pt at lay1 fill1 m1 p1 l1 at1 ⊢
  obtain ⟨t1, i⟩ := pt
  dsimp only at lay1 fill1 m1 p1 l1 at1 ⊢
  rw [← at1] at lay1
  first
    | (refine wpAny_bind ?_; refine wp_if_pos p1 ?_; refine hashBy_tup hx ?_)
    | refine wp_if_pos p1 (wpAny_bind (hashBy_tup hx ?_))
  simp only [if_true]
  have pm := put_perm L i (x, k)
  have ent1 : (SetTable.insertAt es i (thash P w k, Value.ref x)).toList = rowsOf P w (L.take i ++ (x, k) :: L.drop i) := by
    rw [SetTable.toList_insertAt, rows_put, R.ent]
  have lay2 : Lay t1 (hsh P w (L.take i ++ (x, k) :: L.drop i)) := by
    show Lay t1 ((L.take i ++ (x, k) :: L.drop i).map fun p => thash P w p.2)
    rw [List.map_append, List.map_cons, List.map_take, List.map_drop]
    exact lay1
  generalize SetTable.insertAt es i (thash P w k, Value.ref x) = es1 at ent1 ⊢
  generalize L.take i ++ (x, k) :: L.drop i = L1 at pm ent1 lay2
  have len1 : L1.length = L.length + 1 := pm.length_eq
  have sz1 : es1.size = L.length + 1 := (rowsOf_len ent1).trans len1
  have dif1 : (L1.map (·.2)).Nodup := (pm.map (·.2)).nodup_iff.mpr (by rw [List.map_cons]; exact List.nodup_cons.mpr ⟨nm, R.dif⟩)
  refine wpAny_bind (wpAny_storeSet_of ho hd ?_ (by rw [sz1, sizeLine_eq]; omega))
  have ho1 := store_at (es' := es1) (t' := t1) ho hd
  have sb : Heap.SameBut a s.heap (s.heap.update a (Obj.putSet es1 t1)) := Heap.SameBut.update ..
  generalize s.heap.update a (Obj.putSet es1 t1) = g1 at ho1 sb ⊢
  have gap := R.gap
  rw [List.length_map] at fill1
  by_cases full : t1.tooFull = true
  · have ge : (L.length + 1) * 5 ≥ t.mask * 3 := by
      have z := full
      unfold SetTable.tooFull at z
      rw [decide_eq_true_eq, fill1, m1] at z
      exact z
    obtain ⟨M, e1, e2, e3, e4⟩ := grow_size R.lay.wid gap ge few
    first
      | (refine wpAny_bind ?_; refine wp_if_pos (by simp [full]) ?_)
      | (refine wp_if_pos (by simp [full]) ?_; refine wpAny_bind ?_)
    rw [sz]
    refine big_relay (s := { s with heap := g1 }) ho1 ⟨hex.1, hex.2.1, hex.2.2⟩ rfl ent1 lay2 (by rw [len1, m1]; have := R.lay.wid.bounds; omega) dif1 p1 l1 e1 e2 (by rw [len1]; exact e3) fun g2 L2 es2 ep2 t2 sb2 R2 pm2 => ?_
    exact wpAny_pure (q true g2 L2 es2 ep2 t2 (sb.trans sb2) R2 (fun z => absurd z nm) fun _ => pm2.trans pm)
  · first
      | refine wp_if_neg (by simp [full]) ?_
      | (refine wpAny_bind ?_; refine wp_if_neg (by simp [full]) ?_; refine wpAny_pure ?_)
    refine wpAny_pure (q true g1 L1 es1 (ep + 1) t1 sb ⟨⟨_, ho1, ⟨hex.1, hex.2.1, hex.2.2⟩, rfl⟩, ent1, lay2, dif1, p1, l1, ?_⟩ (fun z => absurd z nm) fun _ => pm)
    have z := full
    unfold SetTable.tooFull at z
    rw [decide_eq_true_eq, fill1, m1] at z
    rw [len1, m1]
    omega
end
end L2

end
section
set_option maxRecDepth 100000
set_option maxHeartbeats 2000000
namespace L2
open PySem PySem.Spec PyProof.Rows
section
variable {P : Program} {w : World} {A : Around} {E : Value → Shared → Prop} {s : Shared}
variable {a : Addr} {L : List (Addr × List Int)} {es : Array (Int × Value)} {ep : Nat} {t : SetTable}
/-- the call that adds -/
theorem big_add_call (R : BigO P w s.heap a L es ep t) (tup : ∀ p ∈ L, IsT P w s.heap p.2 p.1) {x : Addr} {k : List Int} (hx : IsT P w s.heap k x) (hu : A.units + 64 < cLine) (few : L.length + 1 < 4915) {Q : Value → Shared → Prop}
    (h : ∀ g tk L2 es2 ep2 t2, Heap.SameBut a s.heap g → BigO P w g a L2 es2 ep2 t2 → (k ∈ L.map (·.2) → L2 = L) → (k ∉ L.map (·.2) → L2.Perm ((x, k) :: L)) → Q .none { s with heap := g, toks := tk }) :
    wpAny (model P w) A (call (.builtin "set.add") [.ref a, .ref x]) Q E s := by
  refine wpAny_call_entry F.slot_set_add R.typ F.entry_set_add ?_ (F.args_set_add_2 _ _)
  unfold Builtin.«set.add» Builtin.Frozenset.oneOther
  simp only [List.isEmpty_nil, bind_assoc]
  unfold Builtin.Frozenset.addrOf setAdd
  refine wpAny_bind (wpAny_pure ?_)
  try dsimp only
  refine wpAny_bind (wpAny_pure ?_)
  try dsimp only
  refine wpAny_bind (wpAny_holding (wpAny_bind (wpAny_pyHash_tuple (by show A.units + 1 < cLine; omega) hx ?_)))
  have R2 : BigO P w ({ s with toks := s.toks + (k.length + 1) } : Shared).heap a L es ep t := R
  refine big_add (s := { s with toks := s.toks + (k.length + 1) }) R2 tup hx (by show A.units + 1 < cLine; omega) few fun b g L2 es2 ep2 t2 sb R3 c1 c2 => ?_
  show wpAny _ _ (ret Value.none) _ _ _
  exact wpAny_pure ⟨_, rfl, h g _ L2 es2 ep2 t2 sb R3 c1 c2⟩
/-- the set() that was just made -/
theorem bigO_new {h : Heap} {a : Addr} (ho : h.get? a = some { cls := .type "set", dict := none, data := .set #[] 0 (.fresh 0 0 (!w.params.followText "set-order")) }) : BigO P w h a [] #[] 0 (.fresh 0 0 (!w.params.followText "set-order")) := by
  refine ⟨⟨_, ho, ⟨rfl, rfl, rfl⟩, rfl⟩, rfl, ⟨.inl rfl, .nil, rfl, rfl, (fun j hj => nomatch hj), (fun i g j h => nomatch h)⟩, .nil, rfl, ?_, by show 0 * 5 < 7 * 3; decide⟩
  show _ ∨ (!w.params.followText "set-order") = true
  cases w.params.followText "set-order"
  · exact .inr rfl
  · exact .inl rfl
end
section
/-- as an object of the heap -/
def BigSet (P : Program) (w : World) (h : Heap) (a : Addr) (L : List (Addr × List Int)) : Prop := ∃ es ep t, BigO P w h a L es ep t
def BigHO (P : Program) (w : World) (a : Addr) (L : List (Addr × List Int)) : HO := .ext fun h => BigSet P w h a L
theorem bigHO_new {P : Program} {w : World} {H : Hp} {h : Heap} {a : Addr} {L : List (Addr × List Int)} (R : BigSet P w h a L) : ObjOk P w H h a (BigHO P w a L) := by
  have ⟨es, ep, t, B⟩ := R
  have ⟨o, ho, _⟩ := B.obj
  refine ⟨R, ⟨o, ho⟩, fun h1 h2 p k => ?_⟩
  have ⟨es', ep', t', B'⟩ := (p : BigSet P w h1 a L)
  have ⟨o', ho', r'⟩ := B'.obj
  exact ⟨es', ep', t', ⟨⟨o', k o' ho', r'⟩, B'.ent, B'.lay, B'.dif, B'.pln, B'.seq, B'.gap⟩⟩
variable {X : Cx}
/-- a's set has the tuples L, and they are still there to be read -/
def HasB (K : PySem.W.Frag) (P : Program) (w : World) (H : Hp) (a : Addr) (L : List (Addr × List Int)) : Prop := H a = some (BigHO P w a L) ∧ ∀ p ∈ L, SqT K H p.1 (p.2.map V.int)
theorem HasB.get {pins : List (Addr × Obj)} {σ : St} {H : Hp} {s : Shared} {a : Addr} {L : List (Addr × List Int)} (I : Inv X pins σ H s) (h : HasB X.K X.prog X.w H a L) :
    (∃ es ep t, BigO X.prog X.w s.heap a L es ep t) ∧ ∀ p ∈ L, IsT X.prog X.w s.heap p.2 p.1 := ⟨(I.hok a _ h.1).1, fun p hp => I.isT (h.2 p hp)⟩
def rB0 (P : Program) (w : World) : List V → Hp → VK → Prop := fun vs H Q => vs = [] ∧ ∀ p, H p = none → Q (.ref p) (upd H p (BigHO P w p []))
theorem cr_b0 : CallR X (.type "set") (rB0 X.prog X.w) := by
  intro pins s σ H vs us Q I r h
  obtain ⟨rfl, q⟩ := h
  cases r
  refine setR_new fun _ => ?_
  have R := bigO_new (P := X.prog) (w := X.w) (h := s.heap.push { cls := .type "set", dict := none, data := .set #[] 0 (.fresh 0 0 (!X.w.params.followText "set-order")) }) (a := s.heap.objs.size) (Heap.get?_push_size _ rfl)
  exact ⟨.ref _, _, I.laid (t' := s.toks) (fun b u e => Heap.get?_push_of_some _ e) (Nat.le_refl _) (bigHO_new ⟨_, _, _, R⟩), rfl, q _ (I.hok.fresh (Nat.le_refl _))⟩
def rBIn (K : PySem.W.Frag) (P : Program) (w : World) : V → V → Hp → VK → Prop := fun x y H Q => ∃ (b a : Addr) (k : List Int) (L : List (Addr × List Int)), x = V.ref b ∧ y = V.ref a ∧ SqT K H b (k.map V.int) ∧ HasB K P w H a L ∧ Q (.bl (decide (k ∈ L.map (·.2)))) H
theorem or_bIn (hu : X.A.units + 64 < cLine) : OpR X (compareOp .In) (rBIn X.K X.prog X.w) := by
  intro pins s σ H x y v u Q I rx ry h
  obtain ⟨b, a, k, L, rfl, rfl, hb, ha, q⟩ := h
  cases rx
  cases ry
  obtain ⟨⟨es, ep, t, R⟩, tup⟩ := ha.get I
  exact big_in R tup (I.isT hb) hu fun tk => ⟨.bl _, H, I.tok _, rfl, q⟩
theorem bIn_ {K : PySem.W.Frag} (P : Program) (w : World) (hu : X.A.units + 64 < cLine) (hP : X.prog = P := by rfl) (hw : X.w = w := by rfl) (hK : X.K = K := by rfl) : OpR X (compareOp .In) (rBIn K P w) := by subst hK hP hw; exact or_bIn hu
def rBAdd (K : PySem.W.Frag) (P : Program) (w : World) : V → List V → Hp → VK → Prop := fun x vs H Q => ∃ (a b : Addr) (k : List Int) (L : List (Addr × List Int)), x = V.ref a ∧ vs = [V.ref b] ∧ SqT K H b (k.map V.int) ∧ HasB K P w H a L ∧ L.length + 1 < 4915 ∧
  (k ∈ L.map (·.2) → Q .non (upd H a (BigHO P w a L))) ∧ (k ∉ L.map (·.2) → ∀ L2, L2.Perm ((b, k) :: L) → Q .non (upd H a (BigHO P w a L2)))
theorem mt_bAdd (hu : X.A.units + 64 < cLine) : MtR X "set.add" (rBAdd X.K X.prog X.w) := by
  intro pins s σ H x vs v us Q I rx rxs h
  obtain ⟨a, b, k, L, rfl, rfl, hb, ha, few, q1, q2⟩ := h
  cases rx
  rw [Vals.ref1 rxs]
  obtain ⟨⟨es, ep, t, R⟩, tup⟩ := ha.get I
  refine big_add_call R tup (I.isT hb) hu few fun g tk L2 es2 ep2 t2 sb R2 c1 c2 => ?_
  obtain ⟨o2, ho2, _⟩ := R2.obj
  refine ⟨.non, _, I.write (e := a) (t' := tk) (by rw [ha.1]; trivial) (.inl rfl) (fun c u hc hu => (sb.2 c hc).trans hu) ⟨o2, ho2⟩ (bigHO_new ⟨_, _, _, R2⟩), rfl, ?_⟩
  by_cases m : k ∈ L.map (·.2)
  · rw [c1 m]
    exact q1 m
  · exact q2 m L2 (c2 m)
def tBAdd (K : PySem.W.Frag) (P : Program) (w : World) (to : TE) (t : TA) : TE := fun σ H Q => to σ H fun x H1 => (∃ a L, x = V.ref a ∧ H1 a = some (BigHO P w a L)) ∧ t σ H1 fun xs H2 => rBAdd K P w x xs H2 Q
variable {o e : Expr} {es : List Expr} {to : TE} {t : TA} {apos cpos : Pos}
theorem pe_bAdd (hu : X.A.units + 64 < cLine) (ho : PE X o to) (ha : PA X (e :: es) t)
    (late : attributeBase o "add" X.env (eval o X.env) = eval o X.env := by rfl)
    (less30 : ((backTo cpos (starEach (e :: es) X.env)).all (fun x => !x.1) && (backToKw cpos (keywordEach [] X.env)).all (fun x => x.1.isSome)
        && decide ((e :: es).length + ([] : List Keyword).length + (if ([] : List Keyword).isEmpty then 0 else 1) < 30)) = true := by rfl)
    (oneRow : (apos.endLine == cpos.line) = true := by rfl) (first1 : starEach (e :: es) X.env = (false, eval e X.env) :: starEach es X.env := by rfl)
    (noStar : (backTo cpos (starEach es X.env)).any (·.1) = false := by rfl) : PE X (.Call (.Attribute o "add" apos) (e :: es) [] cpos) (tBAdd X.K X.prog X.w to t) := by
  refine ⟨fun pins s σ H Q I h => ?_⟩
  refine wpAny_Call_method_late late less30 oneRow rfl (thn (ho.run pins s σ H _ I h) fun v s1 ⟨x, H1, I1, r1, ⟨a, L, ex, hka⟩, q1⟩ => ?_)
  subst ex
  obtain ⟨es0, ep0, t0, B⟩ := (show BigSet X.prog X.w s1.heap a L from (I1.hok a _ hka).1)
  obtain ⟨o0, ho0, hex0, _⟩ := B.obj
  cases r1
  refine ⟨"set", "set.add", F.plainAttrs_set, F.slot_set_add, F.type_set_add, ⟨o0, ho0, hex0.1⟩, fun b eb => ?_, ?_⟩
  · obtain rfl : a = b := by injection eb
    exact ⟨o0, ho0, by first | exact hex0.2.1 | exact hex0.2.2⟩
  have hA := ha.run cpos pins s1 σ H1 _ I1 q1
  rw [first1] at hA ⊢
  refine Calls.callWith_builtin (by show (false || (backTo cpos (starEach es X.env)).any (·.1)) = false; rw [noStar] <;> rfl) (Calls.evalArgs_plain ?_)
  exact thn hA fun us s2 ⟨vs, H2, I2, r2, q2⟩ => mt_bAdd hu pins s2 σ H2 (.ref a) vs (.ref a) us Q I2 rfl r2 q2
end
end L2

end
section
set_option maxRecDepth 100000
set_option maxHeartbeats 2000000
namespace L2
open PySem PySem.Spec PyProof.Rows
/-! ### enumerate(t), t a tuple -/
theorem eT_new {v : Value} {o : Obj} {G : Heap → Prop} (B : Begins v o G) :
    Meets (Builtin.«enumerate.__new__» ⟨[.type "enumerate", v], []⟩) (fun _ R s => G s.heap ∧
      R (.ok (.ret (.ref (s.heap.push o).objs.size))) { s with heap := (s.heap.push o).push { cls := .type "enumerate", data := .fields #[.none, .bool false, .ref s.heap.objs.size, rawInt 0, .none, .none] } }) :=
  .of_wp fun prog w A R s h => by
    obtain ⟨hp, g, d, tk, os⟩ := s
    obtain ⟨h1, h⟩ := h
    have hsub := sub_enumerate
    have q1 : ∀ {A' : Around} {E : Value → Shared → Prop} {Q : Value → Shared → Prop}, Q (.ref hp.objs.size) ⟨hp.push o, g, d, tk, os⟩ → wpAny (model prog w) A' (pyIter v) Q E ⟨hp, g, d, tk, os⟩ :=
      fun q => B.iter prog w _ _ ⟨hp, g, d, tk, os⟩ _ h1 q
    wp_walk using q1
    refine wpAny_stack_any fun st => wpAny_pure ?_
    split
    · rename_i c _ _ _ _ _
      cases (c == Value.type "enumerate")
      · wp_walk using q1
        exact ⟨_, rfl, h⟩
      · wp_walk using q1
        exact ⟨_, rfl, h⟩
    · wp_walk using q1
      exact ⟨_, rfl, h⟩
section
variable {prog : Program} {w : World} {A : Around} {E : Value → Shared → Prop} {s : Shared}
theorem eT_call {v : Value} {o : Obj} {G : Heap → Prop} {Q : Value → Shared → Prop} (B : Begins v o G) (h1 : G s.heap)
    (h : ∀ h', IsEnum h' (s.heap.objs.size + 1) s.heap.objs.size 0 .none → h'.get? s.heap.objs.size = some o → (∀ b o, s.heap.get? b = some o → h'.get? b = some o) → Q (.ref (s.heap.objs.size + 1)) { s with heap := h' }) :
    wpAny (model prog w) A (call (.type "enumerate") [v]) Q E s := by
  refine callType_new F.called_enumerate (by decide) (F.typeCall_enumerate_1 _) (F.newCall_enumerate_1 _) (fun obj => F.args_object_init_2 obj _) F.entry_enumerate_new (eT_new B) ⟨h1, ?_⟩
  have sz : (s.heap.push o).objs.size = s.heap.objs.size + 1 := Heap.size_push ..
  show _ ∧ _
  rw [sz]
  have new : IsEnum ((s.heap.push o).push { cls := .type "enumerate", data := .fields #[.none, .bool false, .ref s.heap.objs.size, rawInt 0, .none, .none] }) (s.heap.objs.size + 1) s.heap.objs.size 0 .none := by
    have z := Heap.get?_push_size (s.heap.push o) (o := { cls := .type "enumerate", data := .fields #[.none, .bool false, .ref s.heap.objs.size, rawInt 0, .none, .none] }) rfl
    rw [sz] at z
    exact z
  exact ⟨⟨_, new, rfl⟩, h _ new (Heap.get?_push_of_some _ (Heap.get?_push_size _ B.free)) fun b o x => Heap.get?_push_of_some _ (Heap.get?_push_of_some _ x)⟩
end
/-- the turns of enumerate(t), t the tuple at a -/
def IteT (K : PySem.W.Frag) (a : Addr) (n : Nat) : It :=
  ⟨fun i H => i < n ∧ ∃ (xs : List V) (x : V), SqT K H a xs ∧ xs[i]? = some x, fun i H v H' => ∃ T x, v = .ref T ∧ H T = none ∧ H' = upd H T (.tup [.int (i : Nat), x]) ∧ ∀ xs, SqT K H a xs → xs[i]? = some x, fun i H => n ≤ i ∧ ∃ xs : List V, SqT K H a xs ∧ xs.length = n⟩
theorem turn_enumT {P : Program} {w : World} {K : PySem.W.Frag} {elts : List Expr} {kk : Nat} {tpos : Pos} (a e it : Addr) (n : Nat) :
    Turn P w K (.Tuple elts kk tpos) (IteT K a n) [e, it] e (fun i h => i ≤ n ∧ (∃ old, IsEnum h e it ((i : Nat) : Int) old) ∧ h.IsTupleIter it a i ∧ e ≠ it ∧ a ≠ it) where
  mem := by simp
  obj := fun i h st b hb => by
    obtain ⟨_, ⟨old, he⟩, ⟨o, ho, hc, hd⟩, _⟩ := st
    rcases (show b = e ∨ b = it by simpa using hb) with z | z
    · rw [z]; exact ⟨_, he, fun v q => nomatch q⟩
    · rw [z]; exact ⟨o, ho, fun v q => by rw [hd] at q; cases q⟩
  keep := fun i h h' st k => by
    obtain ⟨le, ⟨old, he⟩, ⟨o, ho, r⟩, n1, n2⟩ := st
    exact ⟨le, ⟨old, k e (by simp) _ he⟩, ⟨o, k it (by simp) o ho, r⟩, n1, n2⟩
  item := by
    intro X hP hw hK hc i pins s σ H E I hf st hg
    subst hP hw hK
    obtain ⟨le, ⟨old, he⟩, hit, hne, nai⟩ := st
    obtain ⟨ltn, xs, x, hq, hx⟩ := hg
    obtain ⟨its, rv, p, hz⟩ := I.tuple hq
    obtain ⟨u, hu, ru⟩ := rv.get hx
    have hel : e < s.heap.objs.size := Heap.lt_size he
    have hil : it < s.heap.objs.size := by obtain ⟨_, q, _⟩ := hit; exact Heap.lt_size q
    have nea : e ≠ a := fun z => by
      obtain ⟨o, ho, hcl, _⟩ := p
      have he2 := he
      rw [z] at he2
      have q := ho.symm.trans he2
      cases q
      exact absurd (Value.type.inj hcl) (by decide)
    have iu : i < its.toArray.size := by
      have z := (List.getElem?_eq_some_iff.mp hu).1
      simpa using z
    refine wpAny_pyNext_enum_itemD (Draws.tuple (A := X.A.in1) (I.ok.hd hc) it a nai its.toArray) he ⟨hit, p⟩ iu hne (by simp [hne, nea]) fun v h' tk hv ho st' hT hsz hk => ?_
    have ev : v = u := by
      have hv' : its.toArray[i]? = some v := hv
      have hu' : its.toArray[i]? = some u := by simpa using hu
      rw [hu'] at hv'
      exact (Option.some.inj hv').symm
    subst ev
    refine ⟨_, rfl, wpAny_letOwnedTupleGo_enum (s := { s with heap := h', toks := tk + 1 }) ho fun h'' he' sb => ?_⟩
    have hT2 : h''.get? s.heap.objs.size = some { cls := .type "tuple", data := .seq #[.int i tk, v] } := (sb.2 _ (Nat.ne_of_gt hel)).trans hT
    have new : ObjOk X.prog X.w (upd H s.heap.objs.size (.tup [.int (i : Nat), x])) h'' s.heap.objs.size (.tup [.int (i : Nat), x]) :=
      ⟨by show 2 ≤ sizeLine; decide, [.int i tk, v], .cons ⟨_, rfl⟩ (.cons ru .nil), ⟨_, hT2, rfl, _, rfl⟩⟩
    have I1 : Inv X pins σ (upd H s.heap.objs.size (.tup [.int (i : Nat), x])) { s with heap := h'', toks := tk + 1 } :=
      I.turnedNew (ch := [e, it]) (fun b ob hb q => (sb.2 b (fun z => hb (by simp [z]))).trans (hk b ob (fun z => hb (by simp [z])) (fun z => hb (by simp [z])) q)) hf (Nat.le_refl _) new
    refine ⟨.ref s.heap.objs.size, _, I1, rfl, ⟨_, x, rfl, I.hok.fresh (Nat.le_refl _), rfl, fun ys hy => by rw [I.tuple_inj hy hq]; exact hx⟩, ⟨ltn, ⟨v, ?_⟩, ?_, hne, nai⟩, fun b hb => ?_⟩
    · have e1 : ((i + 1 : Nat) : Int) = (i : Int) + 1 := by omega
      rw [e1]; exact he'
    · obtain ⟨o, ho2, r⟩ := st'.1
      exact ⟨o, (sb.2 it (Ne.symm hne)).trans ho2, r⟩
    · have lt : b < s.heap.objs.size := by
        rcases (show b = e ∨ b = it by simpa using hb) with z | z
        · rw [z]; exact hel
        · rw [z]; exact hil
      rw [upd_ne (Nat.ne_of_lt lt)]
      exact (hf b hb).1
  done := by
    intro X hP hw hK hc i pins s σ H E I hf st hg
    subst hP hw hK
    obtain ⟨le, ⟨old, he⟩, hit, hne, nai⟩ := st
    obtain ⟨gen, xs, hq, hx⟩ := hg
    obtain ⟨its, rv, p, hz⟩ := I.tuple hq
    obtain ⟨f0, f1, f2, f3, f4, f5⟩ := hf it (by simp)
    have ei : i = its.toArray.size := by
      rw [List.size_toArray, ← rv.length]
      omega
    rw [ei] at hit
    exact wpAny_pyNext_enum_endD (Draws.tuple (A := X.A.in1) (I.ok.hd hc) it a nai its.toArray) he ⟨hit, p⟩ fun h' eb => ⟨rfl, I.turned (t' := s.toks) (fun b o hb q => eb b o hb q) f0 f1 f3 f4 f5⟩
  self := fun A i s Q E st h => let ⟨_, ⟨_, he⟩, _⟩ := st; wpAny_pyIter_enum he h
/-- enumerate(x), x a list or a tuple -/
def iEnumA (K : PySem.W.Frag) (ta : TA) : TI := fun σ H R => ta σ H fun vs H1 => ∃ a xs, vs = [.ref a] ∧ ((SqL K H1 a xs ∧ R (Ite K a) H1) ∨ (SqT K H1 a xs ∧ R (IteT K a xs.length) H1))
theorem pi_enumA {X : Cx} {e : Expr} {ta : TA} {p pos tpos : Pos} {elts : List Expr} {kk : Nat} (hg : Gl X "enumerate") (hm : X.mg "enumerate" = none) (ha : PA X [e] ta) (hs : starEach [e] X.env = [(false, eval e X.env)] := by rfl) :
    PI X (.Tuple elts kk tpos) (.Call (.Name "enumerate" p) [e] [] pos) (iEnumA X.K ta) := by
  refine ⟨fun pins s σ H R I h => ?_⟩
  refine Call_ (ld_blt I hg hm boot_enumerate (PyProof.Rows.callWith_type1 (thn (ha.run pos pins s σ H _ I h) fun us s1 ⟨vs, H1, I1, r1, q1⟩ => ?_) hs rfl))
  obtain ⟨a, xs, ex, q⟩ := q1
  subst ex
  cases r1 with
  | cons r rr =>
    cases rr
    cases r
    have fp : ∀ b ∈ [s1.heap.objs.size + 1, s1.heap.objs.size], s1.heap.objs.size ≤ b := fun b hb => by
      rcases (show b = s1.heap.objs.size + 1 ∨ b = s1.heap.objs.size by simpa using hb) with z | z
      · rw [z]; exact Nat.le_succ _
      · rw [z]; exact Nat.le_refl _
    rcases q with ⟨hq, q⟩ | ⟨hq, q⟩
    · obtain ⟨its, rv, p', hz⟩ := I1.list hq
      refine eT_call (begins_list a its.toArray) p'.isList fun h' he hit hk => wpAny_pyIter_enum he ?_
      exact ⟨_, _, _, _, H1, rfl, I1.kept (t' := s1.toks) hk, turn_enum a (s1.heap.objs.size + 1) s1.heap.objs.size, ⟨⟨.none, he⟩, ⟨_, hit, rfl, rfl⟩, Nat.succ_ne_self _⟩, fun b hb => I1.fpOk (fp b hb) (I1.hok.fresh (fp b hb)), q⟩
    · obtain ⟨its, rv, p', hz⟩ := I1.tuple hq
      have lt : a < s1.heap.objs.size := let ⟨_, ho, _⟩ := p'; Heap.lt_size ho
      refine eT_call (begins_tuple a its.toArray) p' fun h' he hit hk => wpAny_pyIter_enum he ?_
      exact ⟨_, _, _, _, H1, rfl, I1.kept (t' := s1.toks) hk, turn_enumT a (s1.heap.objs.size + 1) s1.heap.objs.size xs.length, ⟨Nat.zero_le _, ⟨.none, he⟩, ⟨_, hit, rfl, rfl⟩, Nat.succ_ne_self _, Nat.ne_of_lt lt⟩, fun b hb => I1.fpOk (fp b hb) (I1.hok.fresh (fp b hb)), q⟩
theorem walk_enumT {K : PySem.W.Frag} {a : Addr} {xs : List V} : Walk (IteT K a xs.length) xs.length (fun H => SqT K H a xs) (YPair (fun i => some (.int (i : Nat))) (fun i => xs[i]?)) := by
  refine ⟨fun i _ hi q => ⟨hi, xs, xs[i], q, by simp [hi]⟩, fun _ q => ⟨Nat.le_refl _, xs, q, rfl⟩, fun i H v H' _ q y => ?_⟩
  obtain ⟨T, x, h1, h2, h3, h4⟩ := y
  exact ⟨T, .int (i : Nat), x, h1, h2, h3, rfl, h4 xs q⟩
end L2

end
section
set_option maxRecDepth 100000
namespace L2
open PySem PySem.Spec PyProof.Rows
/-! ### a list or a tuple -/
def SqA (K : PySem.W.Frag) (H : Hp) (a : Addr) (xs : List V) : Prop := SqL K H a xs ∨ SqT K H a xs
section
variable {X : Cx} {K : PySem.W.Frag}
/-- all of H0 stands in H -/
def Same0 (H0 H : Hp) : Prop := ∀ b o, H0 b = some o → H b = some o
theorem Same0.sqL {H H' : Hp} {a : Addr} {xs : List V} (e : Same0 H H') (h : SqL K H a xs) : SqL K H' a xs := by
  rcases h with (h | ⟨o, h⟩) | h
  · exact .inl (.inl (e _ _ h))
  · exact .inl (.inr ⟨o, e _ _ h⟩)
  · exact .inr h
theorem Same0.sqT {H H' : Hp} {a : Addr} {xs : List V} (e : Same0 H H') (h : SqT K H a xs) : SqT K H' a xs := by
  rcases h with (h | ⟨o, h⟩) | h
  · exact .inl (.inl (e _ _ h))
  · exact .inl (.inr ⟨o, e _ _ h⟩)
  · exact .inr h
theorem SqA.same {H H' : Hp} {a : Addr} {xs : List V} (h : SqA K H a xs) (e : Same0 H H') : SqA K H' a xs := h.imp (Same0.sqL e) (Same0.sqT e)
/-- also where an instance changes -/
theorem SqA.sb {H H' : Hp} {a x C dx : Addr} {fs : List (Str × V)} {xs : List V} (h : SqA K H a xs) (hx : H x = some (.ins C dx fs)) (s : ∀ b o, b ≠ x → H b = some o → H' b = some o) : SqA K H' a xs := by
  rcases h with ((h | ⟨o, h⟩) | h) | ((h | ⟨o, h⟩) | h)
  · exact .inl (.inl (.inl (s _ _ (ne_of h hx (by intro z; cases z)) h)))
  · exact .inl (.inl (.inr ⟨o, s _ _ (ne_of h hx (by intro z; cases z)) h⟩))
  · exact .inl (.inr h)
  · exact .inr (.inl (.inl (s _ _ (ne_of h hx (by intro z; cases z)) h)))
  · exact .inr (.inl (.inr ⟨o, s _ _ (ne_of h hx (by intro z; cases z)) h⟩))
  · exact .inr (.inr h)
theorem piA_ (K : PySem.W.Frag) {e : Expr} {ta : TA} {p pos tpos : Pos} {elts : List Expr} {kk : Nat} (hg : Gl X "enumerate") (hm : X.mg "enumerate" = none) (ha : PA X [e] ta) (hs : starEach [e] X.env = [(false, eval e X.env)] := by rfl) (hK : X.K = K := by rfl) :
    PI X (.Tuple elts kk tpos) (.Call (.Name "enumerate" p) [e] [] pos) (iEnumA K ta) := by subst hK; exact pi_enumA hg hm ha hs
theorem sortPA_ (K : PySem.W.Frag) (hK : X.K = K := by rfl) : CallR X (.builtin "sorted") (rSortPA K) := by subst hK; exact cr_sortPA
/-- for i, x in enumerate(a list or a tuple) -/
theorem for_enumA {a : Addr} {xs : List V} {g : TG} {tb : TS} {D : Ends} {σ : L2.St} {H H0 : Hp} (sa : SqA K H0 a xs) (s0 : Same0 H0 H) (Pv : Nat → L2.St → Hp → Prop) (h0 : Pv 0 σ H) (keep : ∀ i σ H, i ≤ xs.length → Pv i σ H → Same0 H0 H)
    (hs : ∀ i x σ H H', i < xs.length → Pv i σ H → YPair (fun i => some (.int (i : Nat))) (fun i => xs[i]?) i H x H' → g x σ H' fun σ2 H2 => tb { D with nx := Pv (i + 1), ct := Pv (i + 1), bk := D.nx } σ2 H2) (hd : ∀ σ H, Pv xs.length σ H → D.nx σ H) :
    (SqL K H a xs ∧ ∃ W : Nat → Nat → L2.St → Hp → Prop, (∃ m, W 0 m σ H) ∧ ∀ i m σ H, W i m σ H →
      ((Ite K a).stop i H ∧ D.nx σ H) ∨ ((Ite K a).go i H ∧ ∃ N : L2.St → Hp → Prop, (∀ σ' H', N σ' H' → ∃ m', m' < m ∧ W (i + 1) m' σ' H') ∧ ∀ x H', (Ite K a).yld i H x H' → g x σ H' fun σ2 H2 => tb { D with nx := N, ct := N, bk := D.nx } σ2 H2)) ∨
    (SqT K H a xs ∧ ∃ W : Nat → Nat → L2.St → Hp → Prop, (∃ m, W 0 m σ H) ∧ ∀ i m σ H, W i m σ H →
      ((IteT K a xs.length).stop i H ∧ D.nx σ H) ∨ ((IteT K a xs.length).go i H ∧ ∃ N : L2.St → Hp → Prop, (∀ σ' H', N σ' H' → ∃ m', m' < m ∧ W (i + 1) m' σ' H') ∧ ∀ x H', (IteT K a xs.length).yld i H x H' → g x σ H' fun σ2 H2 => tb { D with nx := N, ct := N, bk := D.nx } σ2 H2)) := by
  rcases sa with sl | st
  · exact .inl ⟨Same0.sqL s0 sl, for_it walk_enum Pv h0 (fun i σ H hi p => Same0.sqL (keep i σ H hi p) sl) hs hd⟩
  · exact .inr ⟨Same0.sqT s0 st, for_it walk_enumT Pv h0 (fun i σ H hi p => Same0.sqT (keep i σ H hi p) st) hs hd⟩
end
end L2

end
section
set_option maxRecDepth 100000
namespace Hue
open PySem PySem.Spec PyProof.Rows L2
/-! ### the text by places -/
def top (i : Nat) : Stmt := PySem.Challenge.pw_huefall_k00_house_faults.main.body.getD i (.Pass ⟨0, 0, 0, 0⟩)
/-- what the top has left: the class, the built-ins' names -/
structure Txt (K : PySem.W.Frag) (mg : Str → Option Value) (C : Addr) : Prop where
  cl : Cls K C
  nCount : NoAttr K C "count"
  nHues : NoAttr K C "hues"
  nBen : NoAttr K C "_beneath"
  nWires : NoAttr K C "wires"
  nAbove : NoAttr K C "_above"
  nDirect : NoAttr K C "_direct"
  nOrder : NoAttr K C "_order"
  mgC : mg "House" = some (.ref C)
  con : ∃ mc, ClX.CRead K C mc ∧ (∃ u, ClX.CVal K C mc "MOST_LAMPS" (.int 16) u) ∧ ∃ u, ClX.CVal K C mc "MOST_HUES" (.int 10) u
  len : mg "len" = none
  range : mg "range" = none
  isinstance : mg "isinstance" = none
  int : mg "int" = none
  bool : mg "bool" = none
  tuple : mg "tuple" = none
  list : mg "list" = none
  set : mg "set" = none
  enumerate : mg "enumerate" = none
  sorted : mg "sorted" = none
  min : mg "min" = none
  all : mg "all" = none
  abs : mg "abs" = none
  reversed : mg "reversed" = none
  max : mg "max" = none
  str : mg "str" = none
  repr : mg "repr" = none
  ValueError : mg "ValueError" = none
section
variable {P : Program} {w : World} {K : PySem.W.Frag} {mg : Str → Option Value} {base : Heap} {C : Addr}
/-! ### whole numbers -/
/-- the kinds of values that are asked -/
inductive Kd (H : Hp) : V → Prop
  | int (i : Int) : Kd H (.int i)
  | bl (b : Bool) : Kd H (.bl b)
  | non : Kd H .non
  | str (s : Str) : Kd H (.str s)
  | tup {t : Addr} {xs : List V} (h : H t = some (.tup xs)) : Kd H (.ref t)
  | lst {t : Addr} {xs : List V} (h : H t = some (.lst xs)) : Kd H (.ref t)
theorem Kd.same {H H' : Hp} {v : V} (k : Kd H v) (s : Same H H') : Kd H' v := by
  cases k with
  | int i => exact .int i
  | bl b => exact .bl b
  | non => exact .non
  | str s => exact .str s
  | tup h => exact .tup (s _ _ h)
  | lst h => exact .lst (s _ _ h)
def isI : V → Bool
  | .int _ => true
  | _ => false
def inI (v : V) (lo hi : Int) : Bool := match v with
  | .int i => decide (lo ≤ i) && decide (i ≤ hi)
  | _ => false
abbrev s_is_whole : Stmt := top 8
theorem sc_is_whole : FnScope ["value"] ["value"] (defScope s_is_whole) := ⟨rfl, rfl, rfl, by decide +kernel, rfl, by decide +kernel, by decide +kernel⟩
-- slots of is_whole: 0 value
def spWholeV : Sp := fun vs H Q _ => ∃ v, vs = [v] ∧ Kd H v ∧ Q (.bl (isI v)) H
theorem ok_is_whole (T : Txt K mg C) {f : Addr} {fd : FuncData} (F : Fun K "is_whole" "is_whole" s_is_whole f fd) : FnOk P w K mg base CX0 1 f fd ["value"] spWholeV := by
  refine F.ok sc_is_whole (fun vs H Q E h => ?_) (fun cdv A outer s H vs Q E hr h => ?_)
  · obtain ⟨v, rfl, _⟩ := h; rfl
  · obtain ⟨v, rfl, k, q⟩ := h
    refine ⟨_, (pss_one (ps_ret (pe_and (pe_callB (isi_ K) (by rfl) T.isinstance b_isinstance (pa_cons (pv 0) (pa_cons (pe_bltn (v := .ty "int") (by rfl) T.int b_int rfl) pa_nil))) (pe_one (pe_not (pe_callB (isi_ K) (by rfl) T.isinstance b_isinstance (pa_cons (pv 0) (pa_cons (pe_bltn (v := .ty "bool") (by rfl) T.bool b_bool rfl) pa_nil)))))))), ?_⟩
    cases k with
    | int i =>
      refine ⟨_, rfl, _, _, _, _, true, rfl, .ty _, .base (.int i), kit_ty (by decide +kernel), true, rfl, iteT ?_⟩
      exact ⟨_, rfl, _, _, _, _, false, rfl, .ty _, .base (.int i), kit_ty (by decide +kernel), false, rfl, q⟩
    | bl b =>
      refine ⟨_, rfl, _, _, _, _, true, rfl, .ty _, .base (.bl b), kit_ty (by decide +kernel), true, rfl, iteT ?_⟩
      exact ⟨_, rfl, _, _, _, _, true, rfl, .ty _, .base (.bl b), kit_ty (by decide +kernel), true, rfl, q⟩
    | non => exact ⟨_, rfl, _, _, _, _, false, rfl, .ty _, .base .non, kit_ty (by decide +kernel), false, rfl, iteF q⟩
    | str s => exact ⟨_, rfl, _, _, _, _, false, rfl, .ty _, .base (.str s), kit_ty (by decide +kernel), false, rfl, iteF q⟩
    | tup h => exact ⟨_, rfl, _, _, _, _, false, rfl, .ty _, .base (.tup h), kit_ty (by decide +kernel), false, rfl, iteF q⟩
    | lst h => exact ⟨_, rfl, _, _, _, _, false, rfl, .ty _, .base (.lst h), kit_ty (by decide +kernel), false, rfl, iteF q⟩
abbrev s_is_whole_in : Stmt := top 9
theorem sc_is_whole_in : FnScope ["value", "low", "high"] ["value", "low", "high"] (defScope s_is_whole_in) := ⟨rfl, rfl, rfl, by decide +kernel, rfl, by decide +kernel, by decide +kernel⟩
-- slots of is_whole_in: 0 value, 1 low, 2 high
def spWholeInV : Sp := fun vs H Q _ => ∃ v lo hi, vs = [v, .int lo, .int hi] ∧ Kd H v ∧ Q (.bl (inI v lo hi)) H
def spWholeIn : Sp := fun vs H Q _ => ∃ v lo hi, vs = [.int v, .int lo, .int hi] ∧ Q (.bl (decide (lo ≤ v) && decide (v ≤ hi))) H
theorem whole_in_int (vs : List V) (H : Hp) (Q : VK) (E : XK) (h : spWholeIn vs H Q E) : spWholeInV vs H Q E := by
  obtain ⟨v, lo, hi, e, q⟩ := h
  exact ⟨.int v, lo, hi, e, .int v, q⟩
theorem ok_is_whole_in (T : Txt K mg C) {f : Addr} {fd : FuncData} (F : Fun K "is_whole_in" "is_whole_in" s_is_whole_in f fd) (c_is_whole : Cal P w K mg base "is_whole" 1 spWholeV) : FnOk P w K mg base CX0 2 f fd ["value", "low", "high"] spWholeInV := by
  refine F.ok sc_is_whole_in (fun vs H Q E h => ?_) (fun cdv A outer s H vs Q E hr h => ?_)
  · obtain ⟨v, lo, hi, rfl, _⟩ := h; rfl
  · obtain ⟨v, lo, hi, rfl, k, q⟩ := h
    refine ⟨_, (pss_one (ps_ret (pe_and (pe_cal c_is_whole (hr.mono (by decide)) (pa_cons (pv 0) pa_nil)) (pe_one (pe_chain op_le op_le (pv 1) (pv 0) (pv 2)))))), ?_⟩
    refine ⟨_, rfl, v, rfl, k, ?_⟩
    cases v with
    | int i =>
      refine ⟨true, rfl, iteT ?_⟩
      refine ⟨_, rfl, _, rfl, _, _, rfl, rfl, _, rfl, ?_⟩
      refine ite2 (fun h1 => ?_) (fun h1 => ?_)
      · refine ⟨_, rfl, _, _, rfl, rfl, ?_⟩
        have e : inI (.int i) lo hi = decide (i ≤ hi) := by
          show (decide (lo ≤ i) && decide (i ≤ hi)) = _
          rw [h1, Bool.true_and]
        rw [e] at q
        exact q
      · have e : inI (.int i) lo hi = false := by
          show (decide (lo ≤ i) && decide (i ≤ hi)) = _
          rw [Bool.eq_false_iff.mpr h1, Bool.false_and]
        rw [e] at q
        exact q
    | _ => exact ⟨false, rfl, iteF q⟩
/-! ### the checks of a house's parts -/
abbrev s_check_count : Stmt := top 14
theorem sc_check_count : FnScope ["count"] ["count"] (defScope s_check_count) := ⟨rfl, rfl, rfl, by decide +kernel, rfl, by decide +kernel, by decide +kernel⟩
-- slots of check_count: 0 count
def spCheckCount : Sp := fun vs H Q _ => ∃ c : Int, vs = [.int c] ∧ 1 ≤ c ∧ c ≤ 16 ∧ Q .non H
theorem ok_check_count (T : Txt K mg C) {f : Addr} {fd : FuncData} (F : Fun K "check_count" "check_count" s_check_count f fd) (c_is_whole_in : Cal P w K mg base "is_whole_in" 2 spWholeIn) : FnOk P w K mg base CX0 3 f fd ["count"] spCheckCount := by
  refine F.ok sc_check_count (fun vs H Q E h => ?_) (fun cdv A outer s H vs Q E hr h => ?_)
  · obtain ⟨c, rfl, _⟩ := h; rfl
  · obtain ⟨c, rfl, h1, h2, q⟩ := h
    obtain ⟨mc, rd, ⟨u, cv⟩, _⟩ := T.con
    refine ⟨_, (pss_one (ps_if (pt_not (pt_val (pe_cal c_is_whole_in (hr.mono (by decide)) (pa_cons (pv 0) (pa_cons pe_int (pa_cons (cval_ K (pe_glob (v := .ref C) (by rfl) T.mgC rfl)) pa_nil))))))
      pss_never pss_nil)), ?_⟩
    refine ⟨_, rfl, C, mc, _, _, rfl, rd, cv, c, 1, 16, rfl, _, rfl, ifF ?_ q⟩
    rw [decide_eq_true h1, decide_eq_true h2] <;> rfl
abbrev s_check_hues : Stmt := top 15
theorem sc_check_hues : FnScope ["hues"] ["hues"] (defScope s_check_hues) := ⟨rfl, rfl, rfl, by decide +kernel, rfl, by decide +kernel, by decide +kernel⟩
-- slots of check_hues: 0 hues
def spCheckHues : Sp := fun vs H Q _ => ∃ c : Int, vs = [.int c] ∧ 2 ≤ c ∧ c ≤ 10 ∧ Q .non H
theorem ok_check_hues (T : Txt K mg C) {f : Addr} {fd : FuncData} (F : Fun K "check_hues" "check_hues" s_check_hues f fd) (c_is_whole_in : Cal P w K mg base "is_whole_in" 2 spWholeIn) : FnOk P w K mg base CX0 3 f fd ["hues"] spCheckHues := by
  refine F.ok sc_check_hues (fun vs H Q E h => ?_) (fun cdv A outer s H vs Q E hr h => ?_)
  · obtain ⟨c, rfl, _⟩ := h; rfl
  · obtain ⟨c, rfl, h1, h2, q⟩ := h
    obtain ⟨mc, rd, _, ⟨u, cv⟩⟩ := T.con
    refine ⟨_, (pss_one (ps_if (pt_not (pt_val (pe_cal c_is_whole_in (hr.mono (by decide)) (pa_cons (pv 0) (pa_cons pe_int (pa_cons (cval_ K (pe_glob (v := .ref C) (by rfl) T.mgC rfl)) pa_nil))))))
      pss_never pss_nil)), ?_⟩
    refine ⟨_, rfl, C, mc, _, _, rfl, rd, cv, c, 2, 10, rfl, _, rfl, ifF ?_ q⟩
    rw [decide_eq_true h1, decide_eq_true h2] <;> rfl
abbrev s_is_wire : Stmt := top 16
theorem sc_is_wire : FnScope ["count", "value", "upper", "lower"] ["count", "value"] (defScope s_is_wire) := ⟨rfl, rfl, rfl, by decide +kernel, rfl, by decide +kernel, by decide +kernel⟩
-- slots of is_wire: 0 count, 1 value, 2 upper, 3 lower
def spIsWire : Sp := fun vs H Q _ => ∃ (c u l : Int) (t : Addr), vs = [.int c, .ref t] ∧ H t = some (.tup [.int u, .int l]) ∧ 0 ≤ u ∧ u < c ∧ 0 ≤ l ∧ l < c ∧ u ≠ l ∧ Q (.bl true) H
theorem ok_is_wire (T : Txt K mg C) {f : Addr} {fd : FuncData} (F : Fun K "is_wire" "is_wire" s_is_wire f fd) (c_is_whole_in : Cal P w K mg base "is_whole_in" 2 spWholeIn) : FnOk P w K mg base CX0 3 f fd ["count", "value"] spIsWire := by
  refine F.ok sc_is_wire (fun vs H Q E h => ?_) (fun cdv A outer s H vs Q E hr h => ?_)
  · obtain ⟨c, u, l, t, rfl, _⟩ := h; rfl
  · obtain ⟨c, u, l, t, rfl, ht, u0, u1, l0, l1, ne, q⟩ := h
    refine ⟨_, (pss_cons (ps_if (PW.pt (pw_or (pt_not (pt_val (pe_callB (isi_ K) (by rfl) T.isinstance b_isinstance (pa_cons (pv 1) (pa_cons (pe_bltn (v := .ty "tuple") (by rfl) T.tuple b_tuple rfl) pa_nil))))) (pw_or1 (pt_cmpR op_ne (pe_callB (lenS_ K) (by rfl) T.len b_len (pa_cons (pv 1) pa_nil)) pe_int (nomark _)))))
      (pss_one (ps_ret pe_bl)) pss_nil)
      (pss_cons (ps_asg (pv 1) (pg_tup (by rfl) (pgs_cons (pg_name (i := 2) sc_is_wire.nd rfl (by first | exact Or.inl rfl | exact Or.inr rfl)) (pgs_cons (pg_name (i := 3) sc_is_wire.nd rfl (by first | exact Or.inl rfl | exact Or.inr rfl)) pgs_nil))))
      (pss_one (ps_ret (pe_and (pe_cal c_is_whole_in (hr.mono (by decide)) (pa_cons (pv 2) (pa_cons pe_int (pa_cons (pe_op op_sub (pv 0) pe_int) pa_nil)))) (pe_and (pe_cal c_is_whole_in (hr.mono (by decide)) (pa_cons (pv 3) (pa_cons pe_int (pa_cons (pe_op op_sub (pv 0) pe_int) pa_nil)))) (pe_one (pe_cmpR op_ne (pv 2) (pv 3) (nomark _))))))))), ?_⟩
    refine ⟨_, rfl, _, _, _, _, true, rfl, .ty _, .base (.tup ht), kit_ty (by decide +kernel), true, rfl, iteF ?_⟩
    refine ⟨_, rfl, t, _, rfl, .inr (SqT.of ht), rfl, _, rfl, iteNS rfl ?_⟩
    refine ⟨_, rfl, t, _, rfl, SqT.of ht, rfl, _, _, rfl, _, _, rfl, rfl, ?_⟩
    refine ⟨_, rfl, _, rfl, _, _, rfl, rfl, u, 0, c - 1, rfl, _, rfl, ifT (by rw [decide_eq_true u0, decide_eq_true (by omega : u ≤ c - 1)] <;> rfl) ?_⟩
    refine ⟨_, rfl, _, rfl, _, _, rfl, rfl, l, 0, c - 1, rfl, _, rfl, ifT (by rw [decide_eq_true l0, decide_eq_true (by omega : l ≤ c - 1)] <;> rfl) ?_⟩
    refine ⟨_, rfl, _, rfl, rfl, ?_⟩
    have e : decide (V.int u = V.int l) = false := decide_eq_false fun z => ne (by injection z)
    rw [e]
    exact q
/-! ### the lamps beneath -/
abbrev s_with_wire : Stmt := top 18
theorem sc_with_wire : FnScope ["beneath", "upper", "lower", "gained", "lamp", "lamps"] ["beneath", "upper", "lower"] (defScope s_with_wire) := ⟨rfl, rfl, rfl, by decide +kernel, rfl, by decide +kernel, by decide +kernel⟩
-- slots of with_wire: 0 beneath, 1 upper, 2 lower, 3 gained, 4 lamp, 5 lamps
def spWithWire : Sp := fun vs H Q _ => ∃ (b : Addr) (n u l : Nat) (R : Rel), vs = [.ref b, .int u, .int l] ∧ n ≤ 16 ∧ u < n ∧ l < n ∧ Rows H b (relRows n R) ∧
  ∀ (H' : Hp) (p : Addr), Same H H' → Rows H' p (relRows n (addW R u l)) → Q (.ref p) H'
theorem ok_with_wire (T : Txt K mg C) {f : Addr} {fd : FuncData} (F : Fun K "with_wire" "with_wire" s_with_wire f fd) : FnOk P w K mg base CX0 1 f fd ["beneath", "upper", "lower"] spWithWire := by
  refine F.ok sc_with_wire (fun vs H Q E h => ?_) (fun cdv A outer s H vs Q E hr h => ?_)
  · obtain ⟨b, n, u, l, R, rfl, _⟩ := h; rfl
  · obtain ⟨b, n, u, l, R, rfl, hn, hu, hl, rw0, q⟩ := h
    obtain ⟨xs, al, hb, hxs, hal, hL⟩ := rw0.at (relRows_at (R := R) hl)
    refine ⟨_, (pss_cons (ps_set (i := 3) sc_with_wire.nd rfl (by first | exact Or.inl rfl | exact Or.inr rfl) (pe_lst (pa_cons (pv 2) (star_ K (pe_ix (ixL_ K) (pv 0) (pv 2) (fun _ _ => rfl)) pa_nil))))
      (pss_one (ps_ret (pe_lc (own := [("lamp", 4), ("lamps", 5)]) (g := gTup K 2 (gCons (gName 4) (gCons (gName 5) gNil))) (tt := tYes) rfl sc_with_wire.nd (pi_enum (by rfl) T.enumerate (pa_cons (pv 0) pa_nil)) (blkOk_by (by kernel_rfl)) (fun _ _ _ _ _ => (pg_tup (by rfl) (pgs_cons (pg_name (i := 4) sc_with_wire.nd rfl (by first | exact Or.inl rfl | exact Or.inr rfl)) (pgs_cons (pg_name (i := 5) sc_with_wire.nd rfl (by first | exact Or.inl rfl | exact Or.inr rfl)) pgs_nil)))) (fun _ _ _ _ _ => pts_nil) (fun _ _ _ _ _ => (pe_ifExp (PW.pt (pw_or (pt_cmpR op_eq (pv 4) (pv 1) (nomark _)) (pw_or1 (pt_cmpR (inS_ K) (pv 1) (pv 5) (by rfl))))) (pe_callB (sortedSet_ w rfl) (by rfl) T.sorted b_sorted (pa_cons (pe_callTy (setL_ K w rfl) (by rfl) T.set b_set (pa_cons (pe_op op_cat (pv 5) (pv 3)) pa_nil)) pa_nil)) (pv 5))))))), ?_⟩
    -- gained = [lower, *beneath[lower]]
    refine ⟨_, rfl, _, rfl, _, rfl, b, xs, _, _, rfl, rfl, SqL.of hb, atI_nat hal, al, _, rfl, .inr (SqL.of hL), ?_, fun g hg => ?_⟩
    · have := Bel_len n R l
      rw [List.length_cons, List.length_append, nL_len, List.length_nil, sizeLine_eq]
      omega
    have eg : (V.int (l : Int) :: (nL (Bel n R l) ++ [])) = nL (l :: Bel n R l) := by rw [List.append_nil]; rfl
    rw [eg]
    have s1 : Same H (upd H g (.lst (nL (l :: Bel n R l)))) := same_new hg
    have hg1 : (upd H g (.lst (nL (l :: Bel n R l)))) g = some (.lst (nL (l :: Bel n R l))) := upd_same
    generalize upd H g (.lst (nL (l :: Bel n R l))) = H1 at s1 hg1 ⊢
    have rw1 := rw0.same s1
    obtain ⟨as0, hb1, las0, hrow⟩ := id rw1
    rw [relRows_len] at las0
    refine ⟨_, rfl, b, as0.map V.ref, rfl, SqL.of hb1, fun D hD => lc_it walk_enum (fun i H2 => ∃ as : List Addr, H2 D = some (.lst (as.map V.ref)) ∧ as.length = i ∧ Same H1 H2 ∧ ∀ (j : Nat) a, as[j]? = some a → a ≠ D ∧ H2 a = some (.lst (nL (Bel n (addW R u l) j))))
      ⟨[], upd_same, rfl, same_new hD, fun j a e => by simp at e⟩ (fun i H2 _ ⟨_, _, _, s2, _⟩ => SqL.of (s2 _ _ hb1)) ?_ ?_⟩
    · rintro i x H2 H3 hi ⟨as, h1, h2, s2, h3⟩ ⟨t, x1, y, rfl, ht, rfl, e1, e2⟩
      cases e1
      rw [List.length_map, las0] at hi
      obtain ⟨a, ha, rfl⟩ : ∃ a, as0[i]? = some a ∧ y = V.ref a := by
        have e3 : (as0.map V.ref)[i]? = some y := e2
        rw [List.getElem?_map] at e3
        obtain ⟨a, h, e⟩ := Option.map_eq_some_iff.mp e3
        exact ⟨a, h, e.symm⟩
      have hrow_i := hrow i a _ ha (relRows_at hi)
      have hz : as.length < sizeLine := by rw [h2, sizeLine_eq]; omega
      have nDt : D ≠ t := ne_of_none h1 ht
      have s3 : Same H1 (upd H2 t (.tup [.int (i : Int), .ref a])) := same_then s2 ht
      have h1' : (upd H2 t (.tup [.int (i : Int), .ref a])) D = some (.lst (as.map V.ref)) := by rw [upd_ne nDt]; exact h1
      have h3' : ∀ (j : Nat) c, as[j]? = some c → c ≠ D ∧ (upd H2 t (.tup [.int (i : Int), .ref a])) c = some (.lst (nL (Bel n (addW R u l) j))) := fun j c e => ⟨(h3 j c e).1, by rw [upd_ne (ne_of_none (h3 j c e).2 ht)]; exact (h3 j c e).2⟩
      have htt : (upd H2 t (.tup [.int (i : Int), .ref a])) t = some (.tup [.int (i : Int), .ref a]) := upd_same
      generalize upd H2 t (.tup [.int (i : Int), .ref a]) = H3 at s3 h1' h3' htt ⊢
      refine ⟨t, _, rfl, SqT.of htt, rfl, _, _, rfl, _, _, rfl, rfl, rfl, yesT ?_⟩
      -- what a turn ends with
      have fin : ∀ (H4 : Hp) (c : Addr), Same H3 H4 → c ≠ D → H4 c = some (.lst (nL (Bel n (addW R u l) i))) → ∃ acc, H4 D = some (.lst acc) ∧ acc.length < sizeLine ∧
          ∃ as : List Addr, (upd H4 D (.lst (acc ++ [V.ref c]))) D = some (.lst (as.map V.ref)) ∧ as.length = i + 1 ∧ Same H1 (upd H4 D (.lst (acc ++ [V.ref c]))) ∧ ∀ (j : Nat) a, as[j]? = some a → a ≠ D ∧ (upd H4 D (.lst (acc ++ [V.ref c]))) a = some (.lst (nL (Bel n (addW R u l) j))) := by
        intro H4 c s4 nc hc
        refine ⟨_, s4 _ _ h1', by rw [List.length_map]; exact hz, as ++ [c], by rw [upd_same, List.map_append]; rfl, by rw [List.length_append, h2]; rfl, same_upd (s3.trans s4) hD, fun j c2 e => ?_⟩
        rcases Nat.lt_or_ge j as.length with lt | ge
        · rw [List.getElem?_append_left lt] at e
          obtain ⟨n1, n2⟩ := h3' j c2 e
          exact ⟨n1, by rw [upd_ne n1]; exact s4 _ _ n2⟩
        · rw [List.getElem?_append_right ge] at e
          have j0 : j - as.length = 0 := by
            rcases Nat.eq_zero_or_pos (j - as.length) with z | z
            · exact z
            · rw [List.getElem?_eq_none (by rw [List.length_singleton]; exact z)] at e; cases e
          rw [j0] at e
          cases e
          have ji : j = i := by omega
          rw [ji]
          exact ⟨nc, by rw [upd_ne nc]; exact hc⟩
      -- the new row
      have grow : (i = u ∨ R i u = true) → tCB (rSortedSet w) (tCons (tCB (rHuSetL K w) (tCons (tOp rCat (tVar 5) (tVar 3)) tNil)) tNil)
          [some (.ref b), some (.int u), some (.int l), some (.ref g), some (.int (i : Int)), some (.ref a)] H3 fun y H4 => ∃ acc, H4 D = some (.lst acc) ∧ acc.length < sizeLine ∧
          ∃ as : List Addr, (upd H4 D (.lst (acc ++ [y]))) D = some (.lst (as.map V.ref)) ∧ as.length = i + 1 ∧ Same H1 (upd H4 D (.lst (acc ++ [y]))) ∧ ∀ (j : Nat) a, as[j]? = some a → a ≠ D ∧ (upd H4 D (.lst (acc ++ [y]))) a = some (.lst (nL (Bel n (addW R u l) j))) := by
        intro hcond
        have b1 := Bel_len n R i
        have b2 := Bel_len n R l
        refine ⟨_, rfl, _, rfl, a, g, _, _, rfl, rfl, s3 _ _ hrow_i, s3 _ _ hg1, ?_, fun c hc => ?_⟩
        · rw [nL_len, nL_len, List.length_cons, sizeLine_eq]; omega
        refine ⟨c, nI (Bel n R i ++ l :: Bel n R l), rfl, SqL.of (by rw [upd_same, ← nL_app]; rfl), by rw [nI_len, List.length_append, List.length_cons]; omega, fun d k hd hk => ?_⟩
        refine ⟨d, _, k, rfl, upd_same, ?_, fun ns p asc mem _ hp => ?_⟩
        · rw [nI_len, List.length_append, List.length_cons] at hk; omega
        have ens : ns = nI (Bel n (addW R u l) i) := by
          refine asc_ext asc (Bel_asc ..) fun z => ?_
          rw [mem, decide_eq_true_eq, mem_nI, mem_nI]
          constructor
          · rintro ⟨m, hm, rfl⟩
            refine ⟨m, mem_Bel.mpr ?_, rfl⟩
            unfold addW
            rcases List.mem_append.mp hm with hm | hm
            · obtain ⟨m1, m2⟩ := mem_Bel.mp hm
              exact ⟨m1, by rw [m2, Bool.true_or]⟩
            · have c1 : (i == u || R i u) = true := by
                rcases hcond with e | e
                · rw [e]; simp
                · rw [e, Bool.or_true]
              rcases List.mem_cons.mp hm with e | hm
              · rw [e, c1]; exact ⟨hl, by simp⟩
              · obtain ⟨m1, m2⟩ := mem_Bel.mp hm
                exact ⟨m1, by rw [c1, m2]; simp⟩
          · rintro ⟨m, hm, rfl⟩
            refine ⟨m, ?_, rfl⟩
            obtain ⟨m1, m2⟩ := mem_Bel.mp hm
            unfold addW at m2
            rw [Bool.or_eq_true, Bool.and_eq_true, Bool.or_eq_true, Bool.or_eq_true, beq_iff_eq, beq_iff_eq] at m2
            rcases m2 with e | ⟨_, e | e⟩
            · exact List.mem_append_left _ (mem_Bel.mpr ⟨m1, e⟩)
            · exact List.mem_append_right _ (by rw [e]; exact List.mem_cons_self)
            · exact List.mem_append_right _ (List.mem_cons_of_mem _ (mem_Bel.mpr ⟨m1, e⟩))
        have s4 := ((same_new (o := .lst (nL (Bel n R i) ++ nL (l :: Bel n R l))) hc).trans (same_new (o := SetO w d (fun j => decide (j ∈ nI (Bel n R i ++ l :: Bel n R l))) k) hd)).trans (same_new (o := .lst (ns.map V.int)) hp)
        refine fin _ p s4 ?_ (by rw [upd_same, ens]; rfl)
        intro e
        have z := (((same_new (o := .lst (nL (Bel n R i) ++ nL (l :: Bel n R l))) hc).trans (same_new (o := SetO w d (fun j => decide (j ∈ nI (Bel n R i ++ l :: Bel n R l))) k) hd)) _ _ h1')
        rw [← e, hp] at z
        cases z
      refine ⟨_, rfl, _, rfl, rfl, _, rfl, ?_⟩
      refine ite2 (fun he => ?_) (fun hne => ?_)
      · have e0 : i = u := by
          have z := of_decide_eq_true he
          injection z with z
          omega
        exact iteT (grow (.inl e0))
      · refine ⟨_, rfl, _, rfl, a, _, rfl, .inl (SqL.of (s3 _ _ hrow_i)), rfl, flat_nL _, _, rfl, ?_⟩
        have nu : ¬ i = u := fun z => hne (by rw [z]; exact decide_eq_true rfl)
        show if (inV (V.int (u : Int)) (nL (Bel n R i))) = true then _ else _
        rw [in_nL]
        refine ite2 (fun he => ?_) (fun hne2 => ?_)
        · exact grow (.inr (mem_Bel.mp (of_decide_eq_true he)).2)
        · refine ⟨_, rfl, fin H3 a (Same.refl _) (fun z => ?_) ?_⟩
          · have q1 := hrow_i
            rw [z, hD] at q1
            cases q1
          · rw [s3 _ _ hrow_i]
            have nR : R i u = false := by
              cases e : R i u with
              | false => rfl
              | true => exact absurd (decide_eq_true (mem_Bel.mpr ⟨hu, e⟩)) hne2
            rw [Bel_congr (S := addW R u l) (i := i) fun j _ => ?_]
            unfold addW
            rw [nR, Bool.or_false, beq_eq_false_iff_ne.mpr nu, Bool.false_and, Bool.or_false]
    · rintro H2 ⟨as, h1, h2, s2, h3⟩
      rw [List.length_map, las0] at h2
      refine q H2 D (s1.trans s2) ⟨as, h1, by rw [h2, relRows_len], fun i a r ha hr => ?_⟩
      have hi : i < n := by rw [← h2]; exact (List.getElem?_eq_some_iff.mp ha).1
      rw [relRows_at hi] at hr
      cases hr
      exact (h3 i a ha).2
abbrev s_lamps_beneath : Stmt := top 17
theorem sc_lamps_beneath : FnScope ["count", "wires", "beneath", "_", "earlier", "index", "wire", "upper", "lower"] ["count", "wires"] (defScope s_lamps_beneath) := ⟨rfl, rfl, rfl, by decide +kernel, rfl, by decide +kernel, by decide +kernel⟩
-- slots of lamps_beneath: 0 count, 1 wires, 2 beneath, 3 _, 4 earlier, 5 index, 6 wire, 7 upper, 8 lower
/-- at a: a list of the tuples ts, which are the pairs ps: wires down a rank -/
def Wires (K : PySem.W.Frag) (H : Hp) (a : Addr) (n : Nat) (ps : List (Nat × Nat)) : Prop :=
  (∃ ts : List Addr, SqA K H a (ts.map V.ref) ∧ Pairs H ts ps) ∧ ps.Nodup ∧ ps.length < 4900 ∧ (∀ p ∈ ps, p.1 < n ∧ p.2 < n) ∧ ∃ ρ : Nat → Nat, ∀ p ∈ ps, ρ p.1 < ρ p.2
def spLampsBeneath (K : PySem.W.Frag) : Sp := fun vs H Q _ => ∃ (a : Addr) (n : Nat) (ps : List (Nat × Nat)), vs = [.int n, .ref a] ∧ n ≤ 16 ∧ Wires K H a n ps ∧
  ∀ (H' : Hp) (p : Addr), Same H H' → Rows H' p (relRows n (relOf ps)) → Q (.ref p) H'
theorem ok_lamps_beneath (T : Txt K mg C) {f : Addr} {fd : FuncData} (F : Fun K "lamps_beneath" "lamps_beneath" s_lamps_beneath f fd) (c_is_wire : Cal P w K mg base "is_wire" 3 spIsWire) (c_with_wire : Cal P w K mg base "with_wire" 1 spWithWire) : FnOk P w K mg base CX0 4 f fd ["count", "wires"] (spLampsBeneath K) := by
  refine F.ok sc_lamps_beneath (fun vs H Q E h => ?_) (fun cdv A outer s H vs Q E hr h => ?_)
  · obtain ⟨a, n, ps, rfl, _⟩ := h; rfl
  · obtain ⟨a, n, ps, rfl, hn, ⟨⟨ts, ha, hps⟩, nd, few, lt, ρ, rank⟩, q⟩ := h
    refine ⟨_, (pss_cons (ps_setLc (i := 2) (own := [("_", 3)]) (g := gName 3) (tt := tYes) rfl sc_lamps_beneath.nd rfl rfl (sw_true rfl rfl rfl (by kernel_rfl)) (pi_range1 (by rfl) T.range (pa_cons (pv 0) pa_nil)) (blkOk_by (by kernel_rfl)) (fun _ _ _ _ _ => (pg_name (i := 3) sc_lamps_beneath.nd rfl (by first | exact Or.inl rfl | exact Or.inr rfl))) (fun _ _ _ _ _ => pts_nil) (fun _ _ _ _ _ => (pe_lst pa_nil)))
      (pss_cons (ps_set (i := 4) sc_lamps_beneath.nd rfl (by first | exact Or.inl rfl | exact Or.inr rfl) (pe_callTy0 cr_b0 (by rfl) T.set b_set))
      (pss_cons (ps_for PassesOwn.never rfl (piA_ K (by rfl) T.enumerate (pa_cons (pv 1) pa_nil)) (pg_tup (by rfl) (pgs_cons (pg_name (i := 5) sc_lamps_beneath.nd rfl (by first | exact Or.inl rfl | exact Or.inr rfl)) (pgs_cons (pg_name (i := 6) sc_lamps_beneath.nd rfl (by first | exact Or.inl rfl | exact Or.inr rfl)) pgs_nil)))
      (pss_cons (ps_if (pt_not (pt_val (pe_cal c_is_wire (hr.mono (by decide)) (pa_cons (pv 0) (pa_cons (pv 6) pa_nil)))))
      pss_never pss_nil)
      (pss_cons (ps_if (pt_cmpR (bIn_ P w hr.units) (pv 6) (pv 4) (by rfl))
      pss_never pss_nil)
      (pss_cons (ps_asg (pv 6) (pg_tup (by rfl) (pgs_cons (pg_name (i := 7) sc_lamps_beneath.nd rfl (by first | exact Or.inl rfl | exact Or.inr rfl)) (pgs_cons (pg_name (i := 8) sc_lamps_beneath.nd rfl (by first | exact Or.inl rfl | exact Or.inr rfl)) pgs_nil))))
      (pss_cons (ps_if (pt_cmpR (inS_ K) (pv 7) (pe_ix (ixL_ K) (pv 2) (pv 8) (fun _ _ => rfl)) (by rfl))
      pss_never pss_nil)
      (pss_cons (ps_expr (pe_bAdd hr.units (pv 4) (pa_cons (pv 6) pa_nil)))
      (pss_one (ps_set (i := 2) sc_lamps_beneath.nd rfl (by first | exact Or.inl rfl | exact Or.inr rfl) (pe_cal c_with_wire (hr.mono (by decide)) (pa_cons (pv 2) (pa_cons (pv 7) (pa_cons (pv 8) pa_nil))))))))))))
      (pss_one (ps_ret (pv 2)))))), ?_⟩
    -- beneath = [[] for _ in range(count)]
    refine ⟨_, rfl, _, rfl, by omega, by omega, fun D hD => ?_⟩
    rw [Int.toNat_natCast]
    refine lc_range (fun i H2 => ∃ as : List Addr, H2 D = some (.lst (as.map V.ref)) ∧ as.length = i ∧ Same H H2 ∧ ∀ (j : Nat) a, as[j]? = some a → a ≠ D ∧ H2 a = some (.lst []))
      ⟨[], upd_same, rfl, same_new hD, fun j a e => by simp at e⟩ ?_ ?_
    · rintro i H2 hi ⟨as, h1, h2, s2, h3⟩
      refine ⟨rfl, yesT ⟨by decide, fun p hp => ?_⟩⟩
      have nDp : D ≠ p := ne_of_none h1 hp
      refine ⟨_, by rw [upd_ne nDp]; exact h1, by rw [List.length_map, h2, sizeLine_eq]; omega, as ++ [p], by rw [upd_same, List.map_append]; rfl, by rw [List.length_append, h2]; rfl, same_upd (same_then s2 hp) hD, fun j c e => ?_⟩
      rcases Nat.lt_or_ge j as.length with l | g
      · rw [List.getElem?_append_left l] at e
        obtain ⟨n1, n2⟩ := h3 j c e
        exact ⟨n1, by rw [upd_ne n1, upd_ne (ne_of_none n2 hp)]; exact n2⟩
      · rw [List.getElem?_append_right g] at e
        have j0 : j - as.length = 0 := by
          rcases Nat.eq_zero_or_pos (j - as.length) with z | z
          · exact z
          · rw [List.getElem?_eq_none (by rw [List.length_singleton]; exact z)] at e; cases e
        rw [j0] at e
        cases e
        exact ⟨nDp.symm, by rw [upd_ne nDp.symm, upd_same]⟩
    rintro H1 ⟨as, h1, h2, s1, h3⟩
    have rows1 : Rows H1 D (relRows n fun _ _ => false) := ⟨as, h1, by rw [h2, relRows_len], fun i a r hi hr => by
      have il : i < n := by rw [← h2]; exact (List.getElem?_eq_some_iff.mp hi).1
      rw [relRows_at il] at hr
      cases hr
      have e0 : Bel n (fun _ _ => false) i = [] := by unfold Bel; simp
      rw [e0]
      exact (h3 i a hi).2⟩
    -- earlier = set()
    refine ⟨rfl, fun e he => ?_⟩
    have s2 : Same H (upd H1 e (BigHO P w e [])) := same_then s1 he
    have h0e : H e = Option.none := s1.free he
    refine ⟨_, rfl, a, ts.map V.ref, rfl, ?_⟩
    refine for_enumA ha s2 (fun i σ H2 => ∃ (b : Addr) (L : List (Addr × List Int)) (v5 v6 v7 v8 : Option V), σ = [some (.int n), some (.ref a), some (.ref b), Option.none, some (.ref e), v5, v6, v7, v8] ∧ Same H H2 ∧
        Rows H2 b (relRows n (relOf (ps.take i))) ∧ HasB K P w H2 e L ∧ L.length = i ∧ ∀ k, k ∈ L.map (·.2) → ∃ p ∈ ps.take i, k = [(p.1 : Int), (p.2 : Int)])
      ⟨D, [], _, _, _, _, rfl, s2, rows1.same (same_new he), ⟨upd_same, fun p hp => by cases hp⟩, rfl, fun k hk => by cases hk⟩ (fun i σ H2 _ ⟨_, _, _, _, _, _, _, s, _⟩ => s) ?_ ?_
    · rintro i x σ H2 H3 hi ⟨b, L, v5, v6, v7, v8, rfl, s3, rows, hasT, lenL, memL⟩ ⟨tp, x1, y, rfl, htp, rfl, e1, e2⟩
      cases e1
      rw [List.length_map] at hi
      have e3 : (ts.map V.ref)[i]? = some y := e2
      rw [List.getElem?_map] at e3
      obtain ⟨t, ht, rfl⟩ := Option.map_eq_some_iff.mp e3
      have hip : i < ps.length := by rw [← hps.1]; exact hi
      obtain ⟨p, hp⟩ : ∃ p, ps[i]? = some p := ⟨_, List.getElem?_eq_getElem hip⟩
      have pmem : p ∈ ps := List.mem_of_getElem? hp
      obtain ⟨plt1, plt2⟩ := lt p pmem
      have prank := rank p pmem
      have tup0 : H t = some (.tup [.int (p.1 : Int), .int (p.2 : Int)]) := hps.2 i t p ht hp
      have s4 : Same H2 (upd H2 tp (.tup [.int (i : Int), .ref t])) := same_new htp
      have rows4 := rows.same s4
      have hasT4 : HasB K P w (upd H2 tp (.tup [.int (i : Int), .ref t])) e L := ⟨s4 _ _ hasT.1, fun q hq => Same.tup s4 (hasT.2 q hq)⟩
      have s5 := s3.trans s4
      have htt : (upd H2 tp (.tup [.int (i : Int), .ref t])) tp = some (.tup [.int (i : Int), .ref t]) := upd_same
      generalize upd H2 tp (.tup [.int (i : Int), .ref t]) = H4 at s4 rows4 hasT4 s5 htt ⊢
      have tup4 := s5 _ _ tup0
      have new : [(p.1 : Int), (p.2 : Int)] ∉ L.map (·.2) := by
        intro z
        obtain ⟨p2, m2, e⟩ := memL _ z
        injection e with z1 z2
        injection z2 with z2 _
        have ep : p2 = p := by
          obtain ⟨a1, a2⟩ := p
          obtain ⟨b1, b2⟩ := p2
          simp only at z1 z2
          rw [Prod.mk.injEq]
          omega
        rw [ep] at m2
        obtain ⟨j, hj, ej⟩ := List.getElem_of_mem m2
        rw [List.length_take] at hj
        rw [List.getElem_take] at ej
        have ei : ps[i] = p := by
          have z := List.getElem?_eq_getElem hip
          rw [hp] at z
          exact (Option.some.inj z).symm
        exact absurd (ej.trans ei.symm) (List.pairwise_iff_getElem.mp nd j i (by omega) hip (by omega))
      refine ⟨tp, _, rfl, SqT.of htt, rfl, _, _, rfl, _, _, rfl, rfl, ?_⟩
      refine ⟨_, rfl, _, rfl, n, p.1, p.2, t, rfl, tup4, by omega, by omega, by omega, by omega, fun z => ?_, true, rfl, iteF ?_⟩
      · have : p.1 = p.2 := by omega
        rw [this] at prank
        exact Nat.lt_irrefl _ prank
      refine ⟨_, rfl, _, rfl, t, e, [(p.1 : Int), (p.2 : Int)], L, rfl, rfl, SqT.of tup4, hasT4, _, rfl, ifF (decide_eq_false new) ?_⟩
      refine ⟨_, rfl, t, _, rfl, SqT.of tup4, rfl, _, _, rfl, _, _, rfl, rfl, ?_⟩
      obtain ⟨xs, al, hb, _, hal, hL⟩ := rows4.at (relRows_at (R := relOf (ps.take i)) plt2)
      refine ⟨_, rfl, _, rfl, _, rfl, b, xs, _, _, rfl, rfl, SqL.of hb, atI_nat hal, al, _, rfl, .inl (SqL.of hL), rfl, flat_nL _, _, rfl, ?_⟩
      refine ifF ?_ ?_
      · show inV (V.int (p.1 : Int)) (nL (Bel n (relOf (ps.take i)) p.2)) = false
        rw [in_nL, decide_eq_false_iff_not]
        intro z
        have r1 := relOf_rank (ρ := ρ) (ps := ps.take i) (fun q hq => rank q (List.mem_of_mem_take hq)) _ _ (mem_Bel.mp z).2
        omega
      refine ⟨_, rfl, ⟨e, L, rfl, hasT4.1⟩, _, rfl, e, t, [(p.1 : Int), (p.2 : Int)], L, rfl, rfl, SqT.of tup4, hasT4, by omega, fun z => absurd z new, fun _ L2 pm => ?_⟩
      have rows5 : Rows (upd H4 e (BigHO P w e L2)) b (relRows n (relOf (ps.take i))) := rows4.ext hasT4.1
      refine ⟨_, rfl, _, rfl, _, rfl, b, n, p.1, p.2, relOf (ps.take i), rfl, hn, plt1, plt2, rows5, fun H6 c s6 rows6 => ?_⟩
      have s7 : Same H H6 := (same_upd s5 h0e).trans s6
      refine ⟨c, L2, _, _, _, _, rfl, s7, by rw [relOf_more hp]; exact rows6, ⟨s6 _ _ upd_same, fun r hr => ?_⟩, ?_, fun k hk => ?_⟩
      · rcases List.mem_cons.mp (pm.mem_iff.mp hr) with z | z
        · rw [z]; exact SqT.of (s7 _ _ tup0)
        · refine Same.tup s6 ?_
          have w0 := hasT4.2 r z
          rcases w0 with (w0 | ⟨o, w0⟩) | w0
          · refine .inl (.inl ?_)
            rw [upd_ne (ne_of w0 hasT4.1 (by intro z; cases z))]; exact w0
          · refine .inl (.inr ⟨o, ?_⟩)
            rw [upd_ne (ne_of w0 hasT4.1 (by intro z; cases z))]; exact w0
          · exact .inr w0
      · rw [pm.length_eq, List.length_cons, lenL]
      · have pm2 := (pm.map (·.2)).mem_iff.mp hk
        rw [List.map_cons] at pm2
        rcases List.mem_cons.mp pm2 with z | z
        · refine ⟨p, ?_, z⟩
          rw [List.take_add_one, hp]
          exact List.mem_append_right _ List.mem_cons_self
        · obtain ⟨p2, m2, e⟩ := memL k z
          refine ⟨p2, ?_, e⟩
          rw [List.take_add_one]
          exact List.mem_append_left _ m2
    · rintro σ H2 ⟨b, L, v5, v6, v7, v8, rfl, s3, rows, _⟩
      rw [List.length_map, hps.1, List.take_length] at rows
      exact ⟨_, rfl, q H2 b s3 rows⟩
end
end Hue

end
section
set_option maxRecDepth 100000
namespace Hue
open PySem PySem.Spec PyProof.Rows L2
section
variable {P : Program} {w : World} {K : PySem.W.Frag} {mg : Str → Option Value} {base : Heap} {C : Addr}
/-! ### the order list -/
abbrev s_is_next : Stmt := top 20
theorem sc_is_next : FnScope ["above", "order", "lamp", "upper"] ["above", "order", "lamp"] (defScope s_is_next) := ⟨rfl, rfl, rfl, by decide +kernel, rfl, by decide +kernel, by decide +kernel⟩
-- slots of is_next: 0 above, 1 order, 2 lamp, 3 upper
def spIsNext : Sp := fun vs H Q _ => ∃ (ab o : Addr) (n k : Nat) (R : Rel) (ord : List Nat), vs = [.ref ab, .ref o, .int k] ∧ n ≤ 16 ∧ k < n ∧ Rows H ab (relRows n (flip R)) ∧ H o = some (.lst (nL ord)) ∧
  ∀ H', Same H H' → Q (.bl (nxt n R ord k)) H'
theorem ok_is_next (T : Txt K mg C) {f : Addr} {fd : FuncData} (F : Fun K "is_next" "is_next" s_is_next f fd) : FnOk P w K mg base CX0 1 f fd ["above", "order", "lamp"] spIsNext := by
  refine F.ok sc_is_next (fun vs H Q E h => ?_) (fun cdv A outer s H vs Q E hr h => ?_)
  · obtain ⟨ab, o, n, k, R, ord, rfl, _⟩ := h; rfl
  · obtain ⟨ab, o, n, k, R, ord, rfl, hn, hk, rows, ho, q⟩ := h
    refine ⟨_, (pss_one (ps_ret (pe_and (pe_cmpR (ninS_ K) (pv 2) (pv 1) (by rfl)) (pe_one (pe_callB (all_ K rfl) (by rfl) T.all b_all (pa_cons (pe_lc (own := [("upper", 3)]) (g := gName 3) (tt := tYes) rfl sc_is_next.nd (pil_ K (pe_ix (ixL_ K) (pv 0) (pv 2) (fun _ _ => rfl))) (blkOk_by (by kernel_rfl)) (fun _ _ _ _ _ => (pg_name (i := 3) sc_is_next.nd rfl (by first | exact Or.inl rfl | exact Or.inr rfl))) (fun _ _ _ _ _ => pts_nil) (fun _ _ _ _ _ => (pe_cmpR (inS_ K) (pv 3) (pv 1) (by rfl)))) pa_nil)))))), ?_⟩
    refine ⟨_, rfl, _, rfl, o, _, rfl, .inl (SqL.of ho), rfl, flat_nL _, _, rfl, ?_⟩
    show if (!inV (V.int (k : Int)) (nL ord)) = true then _ else _
    rw [in_nL]
    refine ite2 (fun h1 => ?_) (fun h1 => ?_)
    · obtain ⟨xs, al, hb, _, hal, hL⟩ := rows.at (relRows_at (R := flip R) hk)
      refine ⟨_, rfl, _, rfl, ab, xs, _, _, rfl, rfl, SqL.of hb, atI_nat hal, al, rfl, ⟨_, SqL.of hL⟩, fun D hD => ?_⟩
      refine lc_list (xs := nL (Bel n (flip R) k)) (fun i H2 => H2 D = some (.lst ((((Bel n (flip R) k).take i).map fun j => decide (j ∈ ord)).map V.bl)) ∧ Same H H2)
        ⟨upd_same, same_new hD⟩ (fun i H2 _ ⟨_, s⟩ => SqL.of (s _ _ hL)) ?_ ?_
      · rintro i x H2 hx ⟨h2, s2⟩
        obtain ⟨j, hj, rfl⟩ : ∃ j, (Bel n (flip R) k)[i]? = some j ∧ x = V.int (j : Int) := by
          unfold nL nI at hx
          rw [List.map_map, List.getElem?_map] at hx
          obtain ⟨j, hj, e⟩ := Option.map_eq_some_iff.mp hx
          exact ⟨j, hj, e.symm⟩
        refine ⟨rfl, yesT ⟨_, rfl, _, rfl, o, _, rfl, .inl (SqL.of (s2 _ _ ho)), rfl, flat_nL _, _, h2, ?_, ?_, same_upd s2 hD⟩⟩
        · rw [List.length_map, List.length_map, List.length_take, sizeLine_eq]
          have := Bel_len n (flip R) k
          omega
        · rw [upd_same, List.take_add_one, hj, List.map_append, List.map_append]
          show some (HO.lst (_ ++ [V.bl (inV (V.int (j : Int)) (nL ord))])) = _
          rw [in_nL]
          rfl
      · rintro H2 ⟨h2, s2⟩
        rw [nL_len, List.take_length] at h2
        refine ⟨D, _, rfl, SqL.of h2, ?_⟩
        have e : nxt n R ord k = ((Bel n (flip R) k).map fun j => decide (j ∈ ord)).all id := by
          unfold nxt
          rw [h1, Bool.true_and, List.all_map]
          rfl
        rw [← e]
        exact q H2 s2
    · have e : nxt n R ord k = false := by
        unfold nxt
        rw [Bool.eq_false_iff.mpr h1, Bool.false_and]
      rw [← e]
      exact q H (Same.refl H)
abbrev s_order_list : Stmt := top 19
theorem sc_order_list : FnScope ["above", "order", "lamp"] ["above"] (defScope s_order_list) := ⟨rfl, rfl, rfl, by decide +kernel, rfl, by decide +kernel, by decide +kernel⟩
-- slots of order_list: 0 above, 1 order, 2 lamp
def spOrderList : Sp := fun vs H Q _ => ∃ (ab : Addr) (n : Nat) (R : Rel), vs = [.ref ab] ∧ n ≤ 16 ∧ Ranked R ∧ Rows H ab (relRows n (flip R)) ∧
  ∀ (H' : Hp) (p : Addr), Same H H' → H p = Option.none → H' p = some (.lst (nL (ordN n R n))) → Q (.ref p) H'
theorem ok_order_list (T : Txt K mg C) {f : Addr} {fd : FuncData} (F : Fun K "order_list" "order_list" s_order_list f fd) (c_is_next : Cal P w K mg base "is_next" 1 spIsNext) : FnOk P w K mg base CX0 2 f fd ["above"] spOrderList := by
  refine F.ok sc_order_list (fun vs H Q E h => ?_) (fun cdv A outer s H vs Q E hr h => ?_)
  · obtain ⟨ab, n, R, rfl, _⟩ := h; rfl
  · obtain ⟨ab, n, R, rfl, hn, hR, rows, q⟩ := h
    refine ⟨_, (pss_cons (ps_set (i := 1) sc_order_list.nd rfl (by first | exact Or.inl rfl | exact Or.inr rfl) (pe_lst pa_nil))
      (pss_cons (ps_while PassesOwn.never (pt_cmpR op_lt (pe_callB (lenS_ K) (by rfl) T.len b_len (pa_cons (pv 1) pa_nil)) (pe_callB (lenS_ K) (by rfl) T.len b_len (pa_cons (pv 0) pa_nil)) (nomark _))
      (pss_one (ps_expr (pe_bm PySem.F.plainAttrs_list PySem.F.slot_list_append PySem.F.type_list_append mt_append (pv 1) (pa_cons (pe_callB (min_ K rfl) (by rfl) T.min b_min (pa_cons (pe_lc (own := [("lamp", 2)]) (g := gName 2) rfl sc_order_list.nd (pi_range1 (by rfl) T.range (pa_cons (pe_callB (lenS_ K) (by rfl) T.len b_len (pa_cons (pv 0) pa_nil)) pa_nil)) (blkOk_by (by kernel_rfl)) (fun _ _ _ _ _ => (pg_name (i := 2) sc_order_list.nd rfl (by first | exact Or.inl rfl | exact Or.inr rfl))) (fun _ _ _ _ _ => (pts_one (pt_val (pe_cal c_is_next (hr.mono (by decide)) (pa_cons (pv 0) (pa_cons (pv 1) (pa_cons (pv 2) pa_nil))))))) (fun _ _ _ _ _ => (pv 2))) pa_nil)) pa_nil)))))
      (pss_one (ps_ret (pv 1))))), ?_⟩
    refine ⟨by decide, fun o ho => ?_⟩
    refine ⟨fun m σ H2 => ∃ k, m = n - k ∧ k ≤ n ∧ ∃ v, σ = [some (.ref ab), some (.ref o), v] ∧ Same H H2 ∧ H2 o = some (.lst (nL (ordN n R k))),
      ⟨n - 0, 0, rfl, Nat.zero_le _, _, rfl, same_new ho, upd_same⟩, ?_⟩
    rintro m σ H2 ⟨k, rfl, hk, v, rfl, s2, h2⟩
    have rows2 := rows.same s2
    obtain ⟨as, hab, las, _⟩ := id rows2
    rw [relRows_len] at las
    obtain ⟨len, ok⟩ := ordN_ok hR k hk
    refine ⟨_, rfl, o, _, rfl, .inl (SqL.of h2), _, rfl, ab, _, rfl, .inl (SqL.of hab), _, _, rfl, rfl, _, rfl, ?_⟩
    rw [nL_len, len, List.length_map, las]
    refine ite2 (fun hlt => ?_) (fun hge => ?_)
    · have klt : k < n := by have := of_decide_eq_true hlt; omega
      refine ⟨fun σ' H' => ∃ v, σ' = [some (.ref ab), some (.ref o), v] ∧ Same H H' ∧ H' o = some (.lst (nL (ordN n R (k + 1)))), fun σ' H' ⟨v, e1, e2, e3⟩ => ⟨n - (k + 1), by omega, k + 1, rfl, klt, v, e1, e2, e3⟩, ?_⟩
      obtain ⟨c, rest, ec⟩ := cands_ne (n := n) hR (ord := ordN n R k) (by omega)
      refine ⟨_, rfl, .inl ⟨rfl, _, SqL.of h2⟩, _, rfl, ab, _, rfl, .inl (SqL.of hab), _, rfl, ?_, ?_, fun D hD => ?_⟩
      · rw [List.length_map, las]; omega
      · rw [List.length_map, las]; omega
      rw [List.length_map, las, Int.toNat_natCast]
      refine lc_range (fun i H3 => H3 D = some (.lst (nL ((List.range i).filter (nxt n R (ordN n R k))))) ∧ Same H2 H3) ⟨upd_same, same_new hD⟩ ?_ ?_
      · rintro i H3 hi ⟨h3, s3⟩
        have e0 : (0 : Int) + (i : Int) = (i : Int) := by omega
        rw [e0]
        refine ⟨rfl, _, rfl, _, rfl, _, rfl, ab, o, n, i, R, ordN n R k, rfl, hn, hi, rows2.same s3, s3 _ _ h2, fun H4 s4 => ⟨_, rfl, ?_⟩⟩
        have h4 := s4 _ _ h3
        have grown : (List.range (i + 1)).filter (nxt n R (ordN n R k)) = (List.range i).filter (nxt n R (ordN n R k)) ++ (if nxt n R (ordN n R k) i = true then [i] else []) := by
          rw [List.range_succ, List.filter_append, List.filter_cons]
          rfl
        refine ite2 (fun hx => ?_) (fun hx => ?_)
        · refine ⟨_, rfl, _, h4, ?_, ?_, same_upd (s3.trans s4) hD⟩
          · rw [nL_len, sizeLine_eq]
            have := List.length_filter_le (nxt n R (ordN n R k)) (List.range i)
            rw [List.length_range] at this
            omega
          · rw [upd_same, grown, if_pos hx, nL_app]; rfl
        · refine ⟨?_, s3.trans s4⟩
          rw [h4, grown, if_neg hx, List.append_nil]
      · rintro H3 ⟨h3, s3⟩
        refine ⟨D, nI (cands n R (ordN n R k)), rfl, SqL.of h3, ?_, fun mm hm hle => ?_⟩
        · rw [nI_len, ec]; exact Nat.succ_pos _
        have em := cands_min ec hm hle
        rw [em]
        refine ⟨o, _, _, rfl, rfl, s3 _ _ h2, ?_, _, rfl, same_upd (s2.trans s3) ho, ?_⟩
        · rw [nL_len, len, sizeLine_eq]; omega
        · rw [upd_same, ordN_succ ec, nL_app]; rfl
    · have kn : k = n := by
        have z : ¬ ((k : Int) < (n : Int)) := fun z => hge (decide_eq_true z)
        omega
      rw [kn] at h2
      exact ⟨_, rfl, q H2 o s2 ho h2⟩
/-! ### the house -/
/-- the lamps directly beneath i, in the order of the wires qs -/
def dirL (qs : List (Nat × Nat)) (i : Nat) : List Nat := (qs.filter fun p => p.1 == i).map (·.2)
theorem mem_dirL {qs : List (Nat × Nat)} {i j : Nat} : j ∈ dirL qs i ↔ (i, j) ∈ qs := by
  unfold dirL
  rw [List.mem_map]
  constructor
  · rintro ⟨⟨a, b⟩, hm, rfl⟩
    obtain ⟨h1, h2⟩ := List.mem_filter.mp hm
    have e : a = i := by simpa using h2
    rw [← e]; exact h1
  · exact fun h => ⟨(i, j), List.mem_filter.mpr ⟨h, by simp⟩, rfl⟩
theorem dirL_few (qs : List (Nat × Nat)) (i : Nat) : (dirL qs i).length ≤ qs.length := by
  unfold dirL
  rw [List.length_map]
  exact List.length_filter_le ..
theorem dirL_more {qs : List (Nat × Nat)} {i j : Nat} {p : Nat × Nat} (h : qs[j]? = some p) : dirL (qs.take (j + 1)) i = dirL (qs.take j) i ++ (if p.1 = i then [p.2] else []) := by
  unfold dirL
  rw [List.take_add_one, h, List.filter_append, List.map_append]
  congr 1
  by_cases e : p.1 = i
  · simp [e]
  · simp [e]
/-- a list of the same tuples in another order -/
theorem pairs_perm {H : Hp} {ts : List Addr} {ps : List (Nat × Nat)} {ys : List V} (hp : Pairs H ts ps) (perm : ys.Perm (ts.map V.ref)) : ∃ (us : List Addr) (qs : List (Nat × Nat)), ys = us.map V.ref ∧ Pairs H us qs ∧ qs.Perm ps := by
  let pv : V → Nat × Nat := fun v => match v with
    | .ref t => match H t with
      | some (.tup [.int i, .int j]) => (i.toNat, j.toNat)
      | _ => (0, 0)
    | _ => (0, 0)
  let av : V → Addr := fun v => match v with
    | .ref t => t
    | _ => 0
  have pvt : ∀ (i : Nat) t p, ts[i]? = some t → ps[i]? = some p → pv (.ref t) = p := fun i t p a b => by
    show (match H t with
      | some (.tup [.int i, .int j]) => (i.toNat, j.toNat)
      | _ => (0, 0)) = p
    rw [hp.2 i t p a b]
    rfl
  have eps : (ts.map V.ref).map pv = ps := by
    refine List.ext_getElem? fun i => ?_
    rw [List.getElem?_map, List.getElem?_map]
    cases e : ts[i]? with
    | none =>
      rw [List.getElem?_eq_none_iff] at e
      rw [show ps[i]? = none from List.getElem?_eq_none_iff.mpr (by rw [← hp.1]; exact e)]
      rfl
    | some t =>
      have il : i < ps.length := by rw [← hp.1]; exact (List.getElem?_eq_some_iff.mp e).1
      rw [List.getElem?_eq_getElem il]
      exact congrArg some (pvt i t _ e (List.getElem?_eq_getElem il))
  have isr : ∀ y ∈ ys, ∃ (i : Nat) (t : Addr), y = V.ref t ∧ ts[i]? = some t := fun y hy => by
    obtain ⟨t, ht, rfl⟩ := List.mem_map.mp (perm.mem_iff.mp hy)
    obtain ⟨i, hi, e⟩ := List.getElem_of_mem ht
    exact ⟨i, t, rfl, by rw [List.getElem?_eq_getElem hi, e]⟩
  refine ⟨ys.map av, ys.map pv, ?_, ⟨by rw [List.length_map, List.length_map], fun i t p a b => ?_⟩, ?_⟩
  · rw [List.map_map]
    refine (List.map_id _).symm.trans (List.map_congr_left fun y hy => ?_)
    obtain ⟨_, t, rfl, _⟩ := isr y hy
    rfl
  · rw [List.getElem?_map] at a b
    obtain ⟨y, hy, rfl⟩ := Option.map_eq_some_iff.mp a
    rw [hy] at b
    cases b
    obtain ⟨j, t, rfl, hj⟩ := isr y (List.mem_of_getElem? hy)
    have jl : j < ps.length := by rw [← hp.1]; exact (List.getElem?_eq_some_iff.mp hj).1
    have e := pvt j t _ hj (List.getElem?_eq_getElem jl)
    rw [e]
    exact hp.2 j t _ hj (List.getElem?_eq_getElem jl)
  · have z := perm.map pv
    rw [eps] at z
    exact z
theorem Coll.rowsF {H1 H2 : Hp} {D : Addr} {n : Nat} {f : Nat → List Nat} (c : Coll H1 D (fun j => nL (f j)) n H2) : Rows H2 D ((List.range n).map f) := by
  obtain ⟨as, h1, h2, _, h3⟩ := c
  refine ⟨as, h1, by rw [h2, List.length_map, List.length_range], fun i a r ha hr => ?_⟩
  have hi : i < n := by rw [← h2]; exact (List.getElem?_eq_some_iff.mp ha).1
  rw [List.getElem?_map, List.getElem?_range hi] at hr
  cases hr
  exact (h3 i a ha).2
/-- pairs in order -/
def leP (p q : Nat × Nat) : Prop := ¬ (q.1 < p.1 ∨ (q.1 = p.1 ∧ q.2 < p.2))
def PermS (qs ps : List (Nat × Nat)) : Prop := qs.Perm ps ∧ qs.Pairwise leP
def kOf (H : Hp) : V → Int × Int := fun v => match v with
  | .ref t => match H t with
    | some (.tup [.int i, .int j]) => (i, j)
    | _ => (0, 0)
  | _ => (0, 0)
theorem kOf_ref {H : Hp} {t : Addr} {i j : Int} (h : H t = some (.tup [.int i, .int j])) : kOf H (.ref t) = (i, j) := by
  show (match H t with
    | some (.tup [.int i, .int j]) => (i, j)
    | _ => (0, 0)) = (i, j)
  rw [h]
/-- the names of the methods -/
def mNames : List Str := ["order", "beneath", "above", "direct", "depth", "tops", "bottoms", "is_beneath", "is_comparable", "closed", "reduced"]
theorem mN {m f : Str} (hm : m ∈ mNames) (hf : f ∉ mNames) : ¬ m = f := fun e => hf (e ▸ hm)
/-- the rest of what a house keeps -/
def HouseX (C : Addr) (H : Hp) (x : Addr) (n : Nat) (ps : List (Nat × Nat)) : Prop := ∃ (dx : Addr) (fs : List (Str × V)) (ab di l : Addr) (us : List Addr) (qs : List (Nat × Nat)), H x = some (.ins C dx fs) ∧ fs.lookup ("_above" : Str) = some (.ref ab) ∧ Rows H ab (relRows n (flip (relOf ps))) ∧
  fs.lookup ("_direct" : Str) = some (.ref di) ∧ Rows H di ((List.range n).map (dirL qs)) ∧ fs.lookup ("wires" : Str) = some (.ref l) ∧ H l = some (.tup (us.map V.ref)) ∧ Pairs H us qs ∧ PermS qs ps ∧ ∀ m ∈ mNames, fs.lookup m = Option.none
theorem HouseX.same {H H' : Hp} {x : Addr} {n : Nat} {ps : List (Nat × Nat)} (a : HouseX C H x n ps) (s : Same H H') : HouseX C H' x n ps := by
  obtain ⟨dx, fs, ab, di, l, us, qs, h1, h2, h3, h4, h5, h6, h7, h8, h9, h10⟩ := a
  exact ⟨dx, fs, ab, di, l, us, qs, s _ _ h1, h2, h3.same s, h4, h5.same s, h6, s _ _ h7, h8.same s, h9, h10⟩
abbrev s_House___init__ : Stmt := inClass (top 11) 2
theorem sc_House___init__ : FnScope ["self", "count", "hues", "wires", "lamps", "upper", "lamp", "lower"] ["self", "count", "hues", "wires"] (defScope s_House___init__) := ⟨rfl, rfl, rfl, by decide +kernel, rfl, by decide +kernel, by decide +kernel⟩
-- slots of House.__init__: 0 self, 1 count, 2 hues, 3 wires, 4 lamps, 5 upper, 6 lamp, 7 lower
def HouseAt (C : Addr) (H : Hp) (x : Addr) (n h : Nat) (R : Rel) : Prop := ∃ (dx : Addr) (fs : List (Str × V)) (be o : Addr), H x = some (.ins C dx fs) ∧ fs.lookup ("count" : Str) = some (.int n) ∧ fs.lookup ("hues" : Str) = some (.int h) ∧
  fs.lookup ("_beneath" : Str) = some (.ref be) ∧ Rows H be (relRows n R) ∧ fs.lookup ("_order" : Str) = some (.ref o) ∧ H o = some (.lst (nL (ordN n R n))) ∧ fs.lookup ("order" : Str) = Option.none ∧ fs.lookup ("beneath" : Str) = Option.none
def spInit (K : PySem.W.Frag) (C : Addr) : Sp := fun vs H Q _ => ∃ (x dx a : Addr) (n h : Nat) (ps : List (Nat × Nat)), vs = [.ref x, .int n, .int h, .ref a] ∧ H x = some (.ins C dx []) ∧ 1 ≤ n ∧ n ≤ 16 ∧ 2 ≤ h ∧ h ≤ 10 ∧ Wires K H a n ps ∧
  ∀ H', SB x H H' → HouseAt C H' x n h (relOf ps) → HouseX C H' x n ps → Q .non H'
theorem ok_init (T : Txt K mg C) {f : Addr} {fd : FuncData} (F : FunV K "__init__" "House.__init__" s_House___init__ f fd) (c_check_count : Cal P w K mg base "check_count" 3 spCheckCount) (c_check_hues : Cal P w K mg base "check_hues" 3 spCheckHues)
    (c_lamps_beneath : Cal P w K mg base "lamps_beneath" 4 (spLampsBeneath K)) (c_order_list : Cal P w K mg base "order_list" 2 spOrderList) : FnOk P w K mg base CX0 5 f fd ["self", "count", "hues", "wires"] (spInit K C) := by
  refine F.ok sc_House___init__ (fun vs H Q E h => ?_) (fun cdv A outer s H vs Q E hr h => ?_)
  · obtain ⟨x, dx, a, n, h, ps, rfl, _⟩ := h; rfl
  · obtain ⟨x, dx, a, n, h, ps, rfl, hx, n1, n16, h2, h10, W, q⟩ := h
    refine ⟨_, (pss_cons (ps_expr (pe_cal c_check_count (hr.mono (by decide)) (pa_cons (pv 1) pa_nil)))
      (pss_cons (ps_expr (pe_cal c_check_hues (hr.mono (by decide)) (pa_cons (pv 2) pa_nil)))
      (pss_cons (ps_fld (pv 0) (pv 1) rfl)
      (pss_cons (ps_fld (pv 0) (pv 2) rfl)
      (pss_cons (ps_fld (pv 0) (pe_cal c_lamps_beneath (hr.mono (by decide)) (pa_cons (pv 1) (pa_cons (pv 3) pa_nil))) rfl)
      (pss_cons (ps_fld (pv 0) (pe_callTy (tupOf_ K) (by rfl) T.tuple b_tuple (pa_cons (pe_callB (sortPS_ K) (by rfl) T.sorted b_sorted (pa_cons (pv 3) pa_nil)) pa_nil)) rfl)
      (pss_cons (ps_set (i := 4) sc_House___init__.nd rfl (by first | exact Or.inl rfl | exact Or.inr rfl) (pe_callTy hu_cr_range1 (by rfl) T.range b_range (pa_cons (pv 1) pa_nil)))
      (pss_cons (ps_fld (pv 0) (pe_lc (own := [("lamp", 6)]) (g := gName 6) (tt := tYes) rfl sc_House___init__.nd (hu_pi_rng (pv 4)) (blkOk_by (by kernel_rfl)) (fun _ _ _ _ _ => (pg_name (i := 6) sc_House___init__.nd rfl (by first | exact Or.inl rfl | exact Or.inr rfl))) (fun _ _ _ _ _ => pts_nil) (fun _ _ _ _ _ => (pe_lc (own := [("upper", 5)]) (g := gName 5) rfl sc_House___init__.nd (hu_pi_rng (pv 4)) (blkOk_by (by kernel_rfl)) (fun _ _ _ _ _ => (pg_name (i := 5) sc_House___init__.nd rfl (by first | exact Or.inl rfl | exact Or.inr rfl))) (fun _ _ _ _ _ => (pts_one (pt_cmpR (inS_ K) (pv 6) (pe_ix (ixL_ K) (fld_ K (pv 0)) (pv 5) (fun _ _ => rfl)) (by rfl)))) (fun _ _ _ _ _ => (pv 5))))) rfl)
      (pss_cons (ps_fld (pv 0) (pe_lc (own := [("lamp", 6)]) (g := gName 6) (tt := tYes) rfl sc_House___init__.nd (hu_pi_rng (pv 4)) (blkOk_by (by kernel_rfl)) (fun _ _ _ _ _ => (pg_name (i := 6) sc_House___init__.nd rfl (by first | exact Or.inl rfl | exact Or.inr rfl))) (fun _ _ _ _ _ => pts_nil) (fun _ _ _ _ _ => (pe_lc (own := [("upper", 5), ("lower", 7)]) (g := gTup K 2 (gCons (gName 5) (gCons (gName 7) gNil))) rfl sc_House___init__.nd (pit_ K (fld_ K (pv 0))) (blkOk_by (by kernel_rfl)) (fun _ _ _ _ _ => (pg_tup (by rfl) (pgs_cons (pg_name (i := 5) sc_House___init__.nd rfl (by first | exact Or.inl rfl | exact Or.inr rfl)) (pgs_cons (pg_name (i := 7) sc_House___init__.nd rfl (by first | exact Or.inl rfl | exact Or.inr rfl)) pgs_nil)))) (fun _ _ _ _ _ => (pts_one (pt_cmpR op_eq (pv 5) (pv 6) (nomark _)))) (fun _ _ _ _ _ => (pv 7))))) rfl)
      (pss_one (ps_fld (pv 0) (pe_cal c_order_list (hr.mono (by decide)) (pa_cons (fld_ K (pv 0)) pa_nil)) rfl))))))))))), ?_⟩
    refine ⟨_, rfl, n, rfl, by omega, by omega, _, rfl, h, rfl, by omega, by omega, ?_⟩
    -- self.count, self.hues
    refine ⟨_, rfl, _, rfl, x, C, dx, _, rfl, hx, T.cl, T.nCount, by decide, ?_⟩
    refine ⟨_, rfl, _, rfl, x, C, dx, _, rfl, upd_same, T.cl, T.nHues, Nat.lt_of_le_of_lt (put_few (Nat.le_refl 0)) (by decide), ?_⟩
    rw [upd_upd]
    have sb1 : SB x H (upd H x (.ins C dx (putF "hues" (.int h) (putF "count" (.int n) [])))) := (SB.refl x H).upd
    have hx1 : (upd H x (.ins C dx (putF "hues" (.int h) (putF "count" (.int n) [])))) x = some (.ins C dx (putF "hues" (.int h) (putF "count" (.int n) []))) := upd_same
    have lk1 : (putF "hues" (.int h) (putF "count" (.int n) []) : List (Str × V)).length ≤ 2 := put_few (put_few (Nat.le_refl 0))
    generalize upd H x (.ins C dx (putF "hues" (.int h) (putF "count" (.int n) []))) = H1 at sb1 hx1 ⊢
    obtain ⟨⟨ts, ha, hps⟩, nd, few, lt, ρ, rank⟩ := id W
    have W1 : Wires K H1 a n ps := ⟨⟨ts, ha.sb hx sb1, hps.1, fun i t p e1 e2 => sb1 _ _ (ne_of (hps.2 i t p e1 e2) hx (by intro z; cases z)) (hps.2 i t p e1 e2)⟩, nd, few, lt, ρ, rank⟩
    -- self._beneath
    refine ⟨_, rfl, _, rfl, a, n, ps, rfl, n16, W1, fun H2 be s2 rows2 => ?_⟩
    refine ⟨_, rfl, x, C, dx, _, rfl, s2 _ _ hx1, T.cl, T.nBen, by omega, ?_⟩
    have sb3 : SB x H (upd H2 x (.ins C dx (putF "_beneath" (.ref be) (putF "hues" (.int h) (putF "count" (.int n) []))))) := (sb1.trans (SB.of s2)).upd
    have rows3 : Rows (upd H2 x (.ins C dx (putF "_beneath" (.ref be) (putF "hues" (.int h) (putF "count" (.int n) []))))) be (relRows n (relOf ps)) := SB.rows ((SB.refl x H2).upd) (s2 _ _ hx1) rows2
    have hx3 : (upd H2 x (.ins C dx (putF "_beneath" (.ref be) (putF "hues" (.int h) (putF "count" (.int n) []))))) x = some (.ins C dx (putF "_beneath" (.ref be) (putF "hues" (.int h) (putF "count" (.int n) [])))) := upd_same
    have lk3 : (putF "_beneath" (.ref be) (putF "hues" (.int h) (putF "count" (.int n) [])) : List (Str × V)).length ≤ 3 := put_few lk1
    generalize upd H2 x (.ins C dx (putF "_beneath" (.ref be) (putF "hues" (.int h) (putF "count" (.int n) [])))) = H3 at sb3 rows3 hx3 ⊢
    -- self.wires
    have ha3 := ha.sb hx sb3
    refine ⟨_, rfl, a, ts.map V.ref, kOf H3, rfl, ha3, fun y hy => ?_, fun ys c perm so nc => ?_⟩
    · obtain ⟨t, ht, rfl⟩ := List.mem_map.mp hy
      obtain ⟨j, hj, e⟩ := List.getElem_of_mem ht
      have jl : j < ps.length := by rw [← hps.1]; exact hj
      have e2 := hps.2 j t ps[j] (by rw [List.getElem?_eq_getElem hj, e]) (List.getElem?_eq_getElem jl)
      have e3 := sb3 _ _ (ne_of e2 hx (by intro z; cases z)) e2
      exact ⟨t, rfl, by rw [kOf_ref e3]; exact e3⟩
    refine ⟨c, ys, rfl, .inl ⟨SqL.of upd_same, fun l nl => ?_⟩⟩
    have s4 : Same H3 (upd (upd H3 c (.lst ys)) l (.tup ys)) := (same_new nc).trans (same_new nl)
    have hl4 : (upd (upd H3 c (.lst ys)) l (.tup ys)) l = some (.tup ys) := upd_same
    generalize upd (upd H3 c (.lst ys)) l (.tup ys) = H4 at s4 hl4 ⊢
    refine ⟨_, rfl, x, C, dx, _, rfl, s4 _ _ hx3, T.cl, T.nWires, by omega, ?_⟩
    have nlx : l ≠ x := ne_of hl4 (s4 _ _ hx3) (by intro z; cases z)
    generalize hf5 : putF "wires" (.ref l) (putF "_beneath" (.ref be) (putF "hues" (.int h) (putF "count" (.int n) []))) = fs5
    have lk5 : fs5.length ≤ 4 := by rw [← hf5]; exact put_few lk3
    have ben5 : fs5.lookup ("_beneath" : Str) = some (.ref be) := by rw [← hf5, lk_ne _ _ (by decide +kernel), lk_same]
    have wir5 : fs5.lookup ("wires" : Str) = some (.ref l) := by rw [← hf5, lk_same]
    have cnt5 : fs5.lookup ("count" : Str) = some (.int n) := by rw [← hf5, lk_ne _ _ (by decide +kernel), lk_ne _ _ (by decide +kernel), lk_ne _ _ (by decide +kernel), lk_same]
    have hue5 : fs5.lookup ("hues" : Str) = some (.int h) := by rw [← hf5, lk_ne _ _ (by decide +kernel), lk_ne _ _ (by decide +kernel), lk_same]
    have ord5 : fs5.lookup ("order" : Str) = Option.none := by rw [← hf5, lk_ne _ _ (by decide +kernel), lk_ne _ _ (by decide +kernel), lk_ne _ _ (by decide +kernel), lk_ne _ _ (by decide +kernel)] <;> rfl
    have bnt5 : fs5.lookup ("beneath" : Str) = Option.none := by rw [← hf5, lk_ne _ _ (by decide +kernel), lk_ne _ _ (by decide +kernel), lk_ne _ _ (by decide +kernel), lk_ne _ _ (by decide +kernel)] <;> rfl
    have mth5 : ∀ m ∈ mNames, fs5.lookup m = Option.none := fun m hm => by rw [← hf5, lk_ne _ _ (mN hm (by decide +kernel)), lk_ne _ _ (mN hm (by decide +kernel)), lk_ne _ _ (mN hm (by decide +kernel)), lk_ne _ _ (mN hm (by decide +kernel))] <;> rfl
    have sb5 : SB x H (upd H4 x (.ins C dx fs5)) := (sb3.trans (SB.of s4)).upd
    have rows5 : Rows (upd H4 x (.ins C dx fs5)) be (relRows n (relOf ps)) := SB.rows ((SB.refl x H4).upd) (s4 _ _ hx3) (rows3.same s4)
    have hl5 : (upd H4 x (.ins C dx fs5)) l = some (.tup ys) := by rw [upd_ne nlx]; exact hl4
    have hx5 : (upd H4 x (.ins C dx fs5)) x = some (.ins C dx fs5) := upd_same
    generalize upd H4 x (.ins C dx fs5) = H5 at sb5 rows5 hl5 hx5 ⊢
    have hps5 : Pairs H5 ts ps := ⟨hps.1, fun i t p e1 e2 => sb5 _ _ (ne_of (hps.2 i t p e1 e2) hx (by intro z; cases z)) (hps.2 i t p e1 e2)⟩
    obtain ⟨us, qs, eys, hus5, pqs⟩ := pairs_perm hps5 perm
    have kq : ∀ (i : Nat) t r, us[i]? = some t → qs[i]? = some r → kOf H3 (.ref t) = ((r.1 : Int), (r.2 : Int)) := by
      intro i t r e1 e2
      have m : V.ref t ∈ ts.map V.ref := perm.mem_iff.mp (by rw [eys]; exact List.mem_map.mpr ⟨t, List.mem_of_getElem? e1, rfl⟩)
      obtain ⟨t', ht', et⟩ := List.mem_map.mp m
      cases et
      obtain ⟨j, hj, e⟩ := List.getElem_of_mem ht'
      have jl : j < ps.length := by rw [← hps.1]; exact hj
      have h0 := hps.2 j t ps[j] (by rw [List.getElem?_eq_getElem hj, e]) (List.getElem?_eq_getElem jl)
      have ntx := ne_of h0 hx (by intro z; cases z)
      have h5 := hus5.2 i t r e1 e2
      rw [sb5 _ _ ntx h0] at h5
      injection h5 with h5
      injection h5 with h5
      injection h5 with a1 a2
      injection a1 with a1
      injection a2 with a2 _
      injection a2 with a2
      rw [kOf_ref (sb3 _ _ ntx h0), a1, a2]
    have pqs : PermS qs ps := ⟨pqs, by
      rw [List.pairwise_iff_getElem]
      intro i j hi hj ij
      have li : i < us.length := by rw [hus5.1]; exact hi
      have lj : j < us.length := by rw [hus5.1]; exact hj
      rw [eys, List.pairwise_map, List.pairwise_iff_getElem] at so
      have z := so i j li lj ij
      rw [kq i _ _ (List.getElem?_eq_getElem li) (List.getElem?_eq_getElem hi), kq j _ _ (List.getElem?_eq_getElem lj) (List.getElem?_eq_getElem hj)] at z
      show ¬ (qs[j].1 < qs[i].1 ∨ (qs[j].1 = qs[i].1 ∧ qs[j].2 < qs[i].2))
      intro y
      refine z ?_
      show ((qs[j].1 : Int) < (qs[i].1 : Int) ∨ ((qs[j].1 : Int) = (qs[i].1 : Int) ∧ (qs[j].2 : Int) < (qs[i].2 : Int)))
      omega⟩
    have ys5 : ∀ y ∈ ys, ∃ (t : Addr) (i j : Nat), y = V.ref t ∧ H5 t = some (.tup [.int (i : Int), .int (j : Int)]) := by
      intro y hy
      obtain ⟨t, ht, rfl⟩ := List.mem_map.mp (perm.mem_iff.mp hy)
      obtain ⟨j, hj, e⟩ := List.getElem_of_mem ht
      have jl : j < ps.length := by rw [← hps.1]; exact hj
      have e2 := hps.2 j t ps[j] (by rw [List.getElem?_eq_getElem hj, e]) (List.getElem?_eq_getElem jl)
      exact ⟨t, _, _, rfl, sb5 _ _ (ne_of e2 hx (by intro z; cases z)) e2⟩
    have ysl : ys.length < 4900 := by rw [perm.length_eq, List.length_map, hps.1]; exact few
    -- lamps = range(count)
    refine ⟨_, rfl, _, rfl, fun r nr => ?_⟩
    have s6 : Same H5 (upd H5 r (.rng 0 (n : Int))) := same_new nr
    have hr6 : (upd H5 r (.rng 0 (n : Int))) r = some (.rng 0 (n : Int)) := upd_same
    generalize upd H5 r (.rng 0 (n : Int)) = H6 at s6 hr6 ⊢
    have nrx : r ≠ x := ne_of hr6 (s6 _ _ hx5) (by intro z; cases z)
    have rows6 := rows5.same s6
    -- self._above
    refine ⟨_, rfl, r, 0, n, rfl, hr6, ⟨by omega, by omega, by omega, by omega⟩, fun D hD => ?_⟩
    rw [show ((n : Int) - 0).toNat = n by omega]
    refine lc_range (fun i H7 => Coll H6 D (fun j => nL (Bel n (flip (relOf ps)) j)) i H7) (Coll.start hD) ?_ ?_
    · intro i H7 hi c7
      have e0 : (0 : Int) + (i : Int) = (i : Int) := by omega
      rw [e0]
      obtain ⟨_, hD7, _, s7, _⟩ := id c7
      refine ⟨rfl, yesT ⟨_, rfl, r, 0, n, rfl, s7 _ _ hr6, ⟨by omega, by omega, by omega, by omega⟩, fun D2 hD2 => ?_⟩⟩
      rw [show ((n : Int) - 0).toNat = n by omega]
      refine lc_range (fun j H8 => H8 D2 = some (.lst (nL ((List.range j).filter (flip (relOf ps) i)))) ∧ Same H7 H8) ⟨upd_same, same_new hD2⟩ ?_ ?_
      · rintro j H8 hj ⟨h8, s8⟩
        have e0 : (0 : Int) + (j : Int) = (j : Int) := by omega
        rw [e0]
        have s68 : Same H6 H8 := s7.trans s8
        obtain ⟨xs, al, hb, _, hal, hL⟩ := (rows6.same s68).at (relRows_at (R := relOf ps) hj)
        refine ⟨rfl, _, rfl, _, rfl, x, C, dx, _, _, rfl, s68 _ _ (s6 _ _ hx5), T.cl, T.nBen, ben5, _, rfl, be, xs, _, _, rfl, rfl, SqL.of hb, atI_nat hal, al, _, rfl, .inl (SqL.of hL), rfl, flat_nL _, _, rfl, ?_⟩
        have grown : (List.range (j + 1)).filter (flip (relOf ps) i) = (List.range j).filter (flip (relOf ps) i) ++ (if flip (relOf ps) i j = true then [j] else []) := by
          rw [List.range_succ, List.filter_append, List.filter_cons]
          rfl
        have same_test : inV (V.int (i : Int)) (nL (Bel n (relOf ps) j)) = flip (relOf ps) i j := by
          rw [in_nL, Bool.eq_iff_iff, decide_eq_true_eq, mem_Bel]
          exact ⟨fun z => z.2, fun z => ⟨hi, z⟩⟩
        show if inV (V.int (i : Int)) (nL (Bel n (relOf ps) j)) = true then _ else _
        rw [same_test]
        refine ite2 (fun hx' => ?_) (fun hx' => ?_)
        · refine ⟨_, rfl, _, h8, ?_, ?_, same_upd s8 hD2⟩
          · rw [nL_len, sizeLine_eq]
            have := List.length_filter_le (flip (relOf ps) i) (List.range j)
            rw [List.length_range] at this
            omega
          · rw [upd_same, grown, if_pos hx', nL_app]; rfl
        · refine ⟨?_, s8⟩
          rw [h8, grown, if_neg hx', List.append_nil]
      · rintro H8 ⟨h8, s8⟩
        exact c7.more hD s8 (fun z => by rw [z, hD7] at hD2; cases hD2) h8 (by omega)
    intro H7 c7
    have rowsA := c7.rows
    obtain ⟨_, hD7, _, s7, _⟩ := id c7
    refine ⟨_, rfl, x, C, dx, _, rfl, s7 _ _ (s6 _ _ hx5), T.cl, T.nAbove, by omega, ?_⟩
    generalize hf8 : putF "_above" (.ref D) fs5 = fs8
    have lk8 : fs8.length ≤ 5 := by rw [← hf8]; exact put_few lk5
    have ben8 : fs8.lookup ("_beneath" : Str) = some (.ref be) := by rw [← hf8, lk_ne _ _ (by decide +kernel)]; exact ben5
    have wir8 : fs8.lookup ("wires" : Str) = some (.ref l) := by rw [← hf8, lk_ne _ _ (by decide +kernel)]; exact wir5
    have cnt8 : fs8.lookup ("count" : Str) = some (.int n) := by rw [← hf8, lk_ne _ _ (by decide +kernel)]; exact cnt5
    have hue8 : fs8.lookup ("hues" : Str) = some (.int h) := by rw [← hf8, lk_ne _ _ (by decide +kernel)]; exact hue5
    have ord8 : fs8.lookup ("order" : Str) = Option.none := by rw [← hf8, lk_ne _ _ (by decide +kernel)]; exact ord5
    have bnt8 : fs8.lookup ("beneath" : Str) = Option.none := by rw [← hf8, lk_ne _ _ (by decide +kernel)]; exact bnt5
    have abv8 : fs8.lookup ("_above" : Str) = some (.ref D) := by rw [← hf8, lk_same]
    have mth8 : ∀ m ∈ mNames, fs8.lookup m = Option.none := fun m hm => by rw [← hf8, lk_ne _ _ (mN hm (by decide +kernel))]; exact mth5 m hm
    have s67 := s6.trans s7
    have sb8 : SB x H (upd H7 x (.ins C dx fs8)) := (sb5.trans (SB.of s67)).upd
    have rows8 : Rows (upd H7 x (.ins C dx fs8)) be (relRows n (relOf ps)) := SB.rows ((SB.refl x H7).upd) (s67 _ _ hx5) (rows6.same s7)
    have rowsA8 : Rows (upd H7 x (.ins C dx fs8)) D (relRows n (flip (relOf ps))) := SB.rows ((SB.refl x H7).upd) (s67 _ _ hx5) rowsA
    have hl8 : (upd H7 x (.ins C dx fs8)) l = some (.tup ys) := by rw [upd_ne nlx]; exact s67 _ _ hl5
    have hr8 : (upd H7 x (.ins C dx fs8)) r = some (.rng 0 (n : Int)) := by rw [upd_ne nrx]; exact s7 _ _ hr6
    have hx8 : (upd H7 x (.ins C dx fs8)) x = some (.ins C dx fs8) := upd_same
    have ys8 : ∀ y ∈ ys, ∃ (t : Addr) (i j : Nat), y = V.ref t ∧ (upd H7 x (.ins C dx fs8)) t = some (.tup [.int (i : Int), .int (j : Int)]) := by
      intro y hy
      obtain ⟨t, i, j, e1, e2⟩ := ys5 y hy
      exact ⟨t, i, j, e1, by rw [upd_ne (ne_of e2 hx5 (by intro z; cases z))]; exact s67 _ _ e2⟩
    have hus8 : Pairs (upd H7 x (.ins C dx fs8)) us qs := ⟨hus5.1, fun i t p e1 e2 => by rw [upd_ne (ne_of (hus5.2 i t p e1 e2) hx5 (by intro z; cases z))]; exact s67 _ _ (hus5.2 i t p e1 e2)⟩
    generalize upd H7 x (.ins C dx fs8) = H8 at sb8 rows8 rowsA8 hl8 hr8 hx8 ys8 hus8 ⊢
    -- self._direct
    refine ⟨_, rfl, r, 0, n, rfl, hr8, ⟨by omega, by omega, by omega, by omega⟩, fun D3 hD3 => ?_⟩
    rw [show ((n : Int) - 0).toNat = n by omega]
    have lq : qs.length < 4900 := by rw [pqs.1.length_eq]; exact few
    refine lc_range (fun i H9 => Coll H8 D3 (fun i => nL (dirL qs i)) i H9) (Coll.start hD3) ?_ ?_
    · intro i H9 hi c9
      have e0 : (0 : Int) + (i : Int) = (i : Int) := by omega
      rw [e0]
      obtain ⟨_, hD9, _, s9, _⟩ := id c9
      refine ⟨rfl, yesT ⟨_, rfl, x, C, dx, _, _, rfl, s9 _ _ hx8, T.cl, T.nWires, wir8, l, rfl, ⟨_, SqT.of (s9 _ _ hl8)⟩, fun D4 hD4 => ?_⟩⟩
      refine lc_it (walk_tup (xs := ys)) (fun j H10 => H10 D4 = some (.lst (nL (dirL (qs.take j) i))) ∧ Same H9 H10) ⟨upd_same, same_new hD4⟩ (fun j H10 _ ⟨_, s10⟩ => SqT.of (s10 _ _ (s9 _ _ hl8))) ?_ ?_
      · rintro j y H10 H11 hj ⟨h10, s10⟩ ⟨rfl, hy⟩
        rw [eys, List.getElem?_map] at hy
        obtain ⟨t, ht, rfl⟩ := Option.map_eq_some_iff.mp hy
        have jl : j < qs.length := by rw [← hus8.1]; exact (List.getElem?_eq_some_iff.mp ht).1
        obtain ⟨p, hp⟩ : ∃ p, qs[j]? = some p := ⟨_, List.getElem?_eq_getElem jl⟩
        have htp := hus8.2 j t p ht hp
        have fewj : (dirL (qs.take j) i).length < 4900 := Nat.lt_of_le_of_lt (dirL_few _ _) (by rw [List.length_take]; omega)
        refine ⟨t, _, rfl, SqT.of (s10 _ _ (s9 _ _ htp)), rfl, _, _, rfl, _, _, rfl, rfl, rfl, ?_⟩
        refine ⟨_, rfl, _, rfl, rfl, _, rfl, ?_⟩
        refine ite2 (fun he => ?_) (fun hne => ?_)
        · have e : p.1 = i := by
            have z := of_decide_eq_true he
            injection z with z
            omega
          refine ⟨_, rfl, _, h10, by rw [nL_len, sizeLine_eq]; omega, ?_, same_upd s10 hD4⟩
          rw [upd_same, dirL_more hp, if_pos e, nL_app]; rfl
        · have ne : ¬ p.1 = i := fun z => hne (decide_eq_true (by rw [z]))
          refine ⟨?_, s10⟩
          rw [h10, dirL_more hp, if_neg ne, List.append_nil]
      · rintro H10 ⟨h10, s10⟩
        have e : ys.length = qs.length := by rw [eys, List.length_map, hus8.1]
        rw [e, List.take_length] at h10
        exact c9.more hD3 s10 (fun z => by rw [z, hD9] at hD4; cases hD4) h10 (by omega)
    rintro H9 c9
    have rowsD := c9.rowsF
    have s9 := c9.same
    refine ⟨_, rfl, x, C, dx, _, rfl, s9 _ _ hx8, T.cl, T.nDirect, by omega, ?_⟩
    generalize hf10 : putF "_direct" (.ref D3) fs8 = fs10
    have lk10 : fs10.length ≤ 6 := by rw [← hf10]; exact put_few lk8
    have ben10 : fs10.lookup ("_beneath" : Str) = some (.ref be) := by rw [← hf10, lk_ne _ _ (by decide +kernel)]; exact ben8
    have cnt10 : fs10.lookup ("count" : Str) = some (.int n) := by rw [← hf10, lk_ne _ _ (by decide +kernel)]; exact cnt8
    have hue10 : fs10.lookup ("hues" : Str) = some (.int h) := by rw [← hf10, lk_ne _ _ (by decide +kernel)]; exact hue8
    have ord10 : fs10.lookup ("order" : Str) = Option.none := by rw [← hf10, lk_ne _ _ (by decide +kernel)]; exact ord8
    have bnt10 : fs10.lookup ("beneath" : Str) = Option.none := by rw [← hf10, lk_ne _ _ (by decide +kernel)]; exact bnt8
    have abv10 : fs10.lookup ("_above" : Str) = some (.ref D) := by rw [← hf10, lk_ne _ _ (by decide +kernel)]; exact abv8
    have dir10 : fs10.lookup ("_direct" : Str) = some (.ref D3) := by rw [← hf10, lk_same]
    have wir10 : fs10.lookup ("wires" : Str) = some (.ref l) := by rw [← hf10, lk_ne _ _ (by decide +kernel)]; exact wir8
    have mth10 : ∀ m ∈ mNames, fs10.lookup m = Option.none := fun m hm => by rw [← hf10, lk_ne _ _ (mN hm (by decide +kernel))]; exact mth8 m hm
    have rowsD10 : Rows (upd H9 x (.ins C dx fs10)) D3 ((List.range n).map (dirL qs)) := SB.rows ((SB.refl x H9).upd) (s9 _ _ hx8) rowsD
    have hl10 : (upd H9 x (.ins C dx fs10)) l = some (.tup ys) := by rw [upd_ne nlx]; exact s9 _ _ hl8
    have hus10 : Pairs (upd H9 x (.ins C dx fs10)) us qs := ⟨hus8.1, fun i t p e1 e2 => by rw [upd_ne (ne_of (hus8.2 i t p e1 e2) hx8 (by intro z; cases z))]; exact s9 _ _ (hus8.2 i t p e1 e2)⟩
    have sb10 : SB x H (upd H9 x (.ins C dx fs10)) := (sb8.trans (SB.of s9)).upd
    have rows10 : Rows (upd H9 x (.ins C dx fs10)) be (relRows n (relOf ps)) := SB.rows ((SB.refl x H9).upd) (s9 _ _ hx8) (rows8.same s9)
    have rowsA10 : Rows (upd H9 x (.ins C dx fs10)) D (relRows n (flip (relOf ps))) := SB.rows ((SB.refl x H9).upd) (s9 _ _ hx8) (rowsA8.same s9)
    have hx10 : (upd H9 x (.ins C dx fs10)) x = some (.ins C dx fs10) := upd_same
    generalize upd H9 x (.ins C dx fs10) = H10 at sb10 rows10 rowsA10 hx10 rowsD10 hl10 hus10 ⊢
    -- self._order
    refine ⟨_, rfl, x, C, dx, _, _, rfl, hx10, T.cl, T.nAbove, abv10, D, n, relOf ps, rfl, n16, relOf_ranked rank, rowsA10, fun H11 o s11 no ho => ?_⟩
    refine ⟨_, rfl, x, C, dx, _, rfl, s11 _ _ hx10, T.cl, T.nOrder, by omega, ?_⟩
    have nox : o ≠ x := ne_of ho (s11 _ _ hx10) (by intro z; cases z)
    refine q _ (sb10.trans (SB.of s11)).upd ⟨dx, _, be, o, upd_same, ?_, ?_, ?_, SB.rows ((SB.refl x H11).upd) (s11 _ _ hx10) (rows10.same s11), ?_, by rw [upd_ne nox]; exact ho, ?_, ?_⟩ ⟨dx, _, D, D3, l, us, qs, upd_same, ?_, SB.rows ((SB.refl x H11).upd) (s11 _ _ hx10) (rowsA10.same s11), ?_, SB.rows ((SB.refl x H11).upd) (s11 _ _ hx10) (rowsD10.same s11), ?_, by rw [upd_ne nlx, ← eys]; exact s11 _ _ hl10, ⟨hus10.1, fun i t p e1 e2 => by rw [upd_ne (ne_of (hus10.2 i t p e1 e2) hx10 (by intro z; cases z))]; exact s11 _ _ (hus10.2 i t p e1 e2)⟩, pqs, fun m hm => ?_⟩
    · rw [lk_ne _ _ (by decide +kernel)]; exact cnt10
    · rw [lk_ne _ _ (by decide +kernel)]; exact hue10
    · rw [lk_ne _ _ (by decide +kernel)]; exact ben10
    · rw [lk_same]
    · rw [lk_ne _ _ (by decide +kernel)]; exact ord10
    · rw [lk_ne _ _ (by decide +kernel)]; exact bnt10
    · rw [lk_ne _ _ (by decide +kernel)]; exact abv10
    · rw [lk_ne _ _ (by decide +kernel)]; exact dir10
    · rw [lk_ne _ _ (by decide +kernel)]; exact wir10
    · rw [lk_ne _ _ (mN hm (by decide +kernel))]; exact mth10 m hm
end
end Hue

end
section
set_option maxRecDepth 100000
set_option maxHeartbeats 4000000
namespace L2
open PySem PySem.Spec PyProof.Rows
/-! ### a tuple once, or many times -/
theorem tuple_mul1 (l : Addr) (items : Array Value) (n : Nat) (dd : Option Addr) (sl : Array (Option Value)) (u : Tok) :
    Meets (Builtin.«tuple.__mul__» ⟨[.ref l, .int 1 u], []⟩) (fun _ R s => s.heap.get? l = some { cls := .type "tuple", dict := dd, data := .seq items n, slots := sl } ∧ R (.ok (.ret (Value.ref l))) s) :=
  .of_wp fun prog w A R s h => by
    obtain ⟨hp, g, d, tk, os⟩ := s
    obtain ⟨hl, h⟩ := h
    have f1 := AutoSeq1.idx_int
    have c1 : (items.isEmpty || (1 : Int) == 1) = true := by rw [show ((1 : Int) == 1) = true from rfl, Bool.or_true]
    wp_walk using wpAny_loadPart' hl
    repeat (first
      | (refine wpAny_ite_true (decide_eq_true c1) ?_; wp_walk using wpAny_loadPart' hl)
      | (refine wpAny_ite_true c1 ?_; wp_walk using wpAny_loadPart' hl))
    all_goals exact ⟨_, rfl, h⟩
def rRepTA (K : PySem.W.Frag) : R2 := fun x y H Q => ∃ l k xs, x = .ref l ∧ y = .int k ∧ SqT K H l xs ∧ xs ≠ [] ∧ 1 ≤ k ∧ k ≤ 1000 ∧ xs.length ≤ 1000 ∧ (k = 1 → Q (.ref l) H) ∧ (2 ≤ k → ∀ p, H p = none → Q (.ref p) (upd H p (.tup (List.replicate k.toNat xs).flatten)))
section
variable {X : Cx}
theorem op_repTA (K : PySem.W.Frag) (hK : X.K = K := by rfl) : OpR X (binaryOp .Mult) (rRepTA K) := by
  subst hK
  intro pins s σ H x y v u Q I rx ry h
  obtain ⟨l, k, xs, rfl, rfl, hT, hne, h1, h2, hz, q1, q2⟩ := h
  rcases Int.lt_or_le 1 k with h3 | h3
  · exact op_repT pins s σ H _ _ v u Q I rx ry ⟨l, k, xs, rfl, rfl, hT, hne, by omega, h2, hz, q2 (by omega)⟩
  obtain rfl : k = 1 := by omega
  cases rx
  obtain ⟨t, rfl⟩ := ry
  obtain ⟨its, r, ⟨⟨cls, dd, data, sl⟩, ho, hc, n, hd⟩, hs⟩ := I.tuple hT
  simp only at hc hd
  subst hc hd
  refine wpAny_binaryOp_repeat_ref (T := "tuple") (U := "int") (by decide) ⟨_, ho, rfl⟩ (fun s' => typeIs_int s' 1 t) noFill_tuple_mul F.fills_int_mul F.slot_int_rmul repeat_tuple F.slot_int_index.lookup
    (call_meets F.slot_int_rmul (typeIs_int s 1 t) F.entry_int_rmul (F.args_int_rmul_2 _ _) (int_rmul_tuple 1 t l its.toArray n dd sl)
      ⟨ho, rfl, ⟨_, ho, rfl⟩, call_meets F.slot_tuple_mul ⟨_, ho, rfl⟩ F.entry_tuple_mul (F.args_tuple_mul_2 _ _) (tuple_mul1 l its.toArray n dd sl t) ⟨ho, ?_⟩⟩)
  exact ⟨.ref l, H, I, rfl, q1 rfl⟩
end
end L2

end
section
set_option maxRecDepth 100000
set_option maxHeartbeats 4000000
namespace Hue
open PySem PySem.Spec PyProof.Rows L2
section
variable {P : Program} {w : World} {K : PySem.W.Frag} {mg : Str → Option Value} {base : Heap} {C CL CS CN : Addr}
/-! ### plain data that may stand for a state or a number -/
inductive All2 (R : V → PyData → Prop) : List V → List PyData → Prop
  | nil : All2 R [] []
  | cons {x : V} {d : PyData} {xs : List V} {ds : List PyData} : R x d → All2 R xs ds → All2 R (x :: xs) (d :: ds)
namespace All2
variable {R R' : V → PyData → Prop}
theorem len : ∀ {xs : List V} {ds : List PyData}, All2 R xs ds → xs.length = ds.length
  | _, _, .nil => rfl
  | _, _, .cons _ r => by rw [List.length_cons, List.length_cons, len r]
theorem get : ∀ {xs : List V} {ds : List PyData} {i : Nat} {x : V}, All2 R xs ds → xs[i]? = some x → ∃ d, ds[i]? = some d ∧ R x d
  | _, _, i, x, .nil, h => by simp at h
  | _, _, 0, x, .cons r _, h => by cases h; exact ⟨_, rfl, r⟩
  | _, _, i + 1, x, .cons (xs := xs) (ds := ds) _ r, h => get (xs := xs) (ds := ds) (i := i) (x := x) r h
theorem imp (f : ∀ x d, R x d → R' x d) : ∀ {xs : List V} {ds : List PyData}, All2 R xs ds → All2 R' xs ds
  | _, _, .nil => .nil
  | _, _, .cons a r => .cons (f _ _ a) (imp f r)
theorem app : ∀ {xs ys : List V} {ds es : List PyData}, All2 R xs ds → All2 R ys es → All2 R (xs ++ ys) (ds ++ es)
  | _, _, _, _, .nil, b => b
  | _, _, _, _, .cons a r, b => .cons a (app r b)
end All2
inductive Lf : V → PyData → Prop
  | int (i : Int) (h : i.natAbs < 10 ^ 38) : Lf (.int i) (.int i)
  | bl (b : Bool) : Lf (.bl b) (.bool b)
  | non : Lf .non .none
  | str (x : Str) (h : PyData.leavesShort 40 (.str x) = true) (hs : x.cps.size ≤ 100) : Lf (.str x) (.str x)
inductive Lf1 (H : Hp) : V → PyData → Prop
  | lf {v : V} {d : PyData} : Lf v d → Lf1 H v d
  | tup {t : Addr} {xs : List V} {ds : List PyData} : H t = some (.tup xs) → All2 Lf xs ds → xs.length ≤ 3 → Lf1 H (.ref t) (.tuple ds)
  | lst {t : Addr} {xs : List V} {ds : List PyData} : H t = some (.lst xs) → All2 Lf xs ds → xs.length ≤ 3 → Lf1 H (.ref t) (.list ds)
inductive Lf2 (H : Hp) : V → PyData → Prop
  | lf {v : V} {d : PyData} : Lf v d → Lf2 H v d
  | tup {t : Addr} {xs : List V} {ds : List PyData} : H t = some (.tup xs) → All2 (Lf1 H) xs ds → xs.length ≤ 3 → Lf2 H (.ref t) (.tuple ds)
  | lst {t : Addr} {xs : List V} {ds : List PyData} : H t = some (.lst xs) → All2 Lf xs ds → xs.length ≤ 3 → Lf2 H (.ref t) (.list ds)
theorem Lf1.same {H H' : Hp} {v : V} {d : PyData} (o : Lf1 H v d) (s : Same H H') : Lf1 H' v d := by
  cases o with
  | lf l => exact .lf l
  | tup h a b => exact .tup (s _ _ h) a b
  | lst h a b => exact .lst (s _ _ h) a b
theorem Lf2.same {H H' : Hp} {v : V} {d : PyData} (o : Lf2 H v d) (s : Same H H') : Lf2 H' v d := by
  cases o with
  | lf l => exact .lf l
  | tup h a b => exact .tup (s _ _ h) (a.imp fun _ _ z => z.same s) b
  | lst h a b => exact .lst (s _ _ h) a b
theorem Lf.kd {H : Hp} {v : V} {d : PyData} (o : Lf v d) : Kd H v := by
  cases o with
  | int i h => exact .int i
  | bl b => exact .bl b
  | non => exact .non
  | str x _ _ => exact .str x
theorem Lf1.kd {H : Hp} {v : V} {d : PyData} (o : Lf1 H v d) : Kd H v := by
  cases o with
  | lf l => exact l.kd
  | tup h _ _ => exact .tup h
  | lst h _ _ => exact .lst h
theorem Lf2.kd {H : Hp} {v : V} {d : PyData} (o : Lf2 H v d) : Kd H v := by
  cases o with
  | lf l => exact l.kd
  | tup h _ _ => exact .tup h
  | lst h _ _ => exact .lst h
/-- what repr asks of the data -/
structure DOk (w b : Nat) (d : PyData) : Prop where
  sh : PyData.leavesShort 40 d = true
  sw : d.showable = true
  no : d.hasDict = false
  dp : d.depth ≤ b
  wt : d.weight ≤ w
theorem Lf.ok {v : V} {d : PyData} (o : Lf v d) : DOk 200 2 d := by
  cases o with
  | int i h =>
    have l2 : i.natAbs.log2 < 127 := by
      rcases Nat.eq_zero_or_pos i.natAbs with z | z
      · rw [z]; decide
      · exact (Nat.log2_lt (by omega)).mpr (Nat.lt_of_lt_of_le h (by decide))
    refine ⟨?_, decide_eq_true (by omega), rfl, by simp [PyData.depth], ?_⟩
    · have l := PySem.int_text_length_le10 (a := i) (k := 38) (by decide) h
      show decide ((PyData.shown (.int i)).length ≤ 40) = true
      refine decide_eq_true ?_
      have e : (PyData.shown (.int i)).length = (toString i).length := by
        show (Str.ofString (toString i)).length = _
        exact PySem.ofString_length _
      omega
    · show (if i == 0 then 0 else i.natAbs.log2 + 1) ≤ 200
      split <;> omega
  | bl b => exact ⟨rfl, rfl, rfl, by simp [PyData.depth], by simp [PyData.weight]⟩
  | non => exact ⟨rfl, rfl, rfl, by simp [PyData.depth], by simp [PyData.weight]⟩
  | str x h hs => exact ⟨h, rfl, rfl, by simp [PyData.depth], by show x.cps.size ≤ 200; omega⟩
theorem all_ok {R : V → PyData → Prop} {w b : Nat} (f : ∀ v d, R v d → DOk w b d) : ∀ {xs : List V} {ds : List PyData}, All2 R xs ds → PyData.leavesShortAll 40 ds = true ∧ PyData.showableAll ds = true ∧ PyData.hasDictAll ds = false ∧ PyData.depthAll ds ≤ b ∧ PyData.weightAll ds ≤ xs.length * (w + 1)
  | _, _, .nil => ⟨rfl, rfl, rfl, by simp [PyData.depthAll], by simp [PyData.weightAll]⟩
  | _, _, .cons a r => by
    obtain ⟨h1, h2, h3, h4, h5⟩ := all_ok f r
    obtain ⟨g1, g2, g3, g4, g5⟩ := f _ _ a
    refine ⟨by simp only [PyData.leavesShortAll, g1, h1]; rfl, by simp only [PyData.showableAll, g2, h2]; rfl, by simp only [PyData.hasDictAll, g3, h3]; rfl, by simp only [PyData.depthAll]; omega, ?_⟩
    simp only [PyData.weightAll, List.length_cons, Nat.succ_mul]
    omega
theorem seq_ok {R : V → PyData → Prop} {w b : Nat} (f : ∀ v d, R v d → DOk w b d) {xs : List V} {ds : List PyData} (a : All2 R xs ds) (l : xs.length ≤ 3) : DOk (3 * (w + 1)) (b + 1) (.tuple ds) ∧ DOk (3 * (w + 1)) (b + 1) (.list ds) := by
  obtain ⟨h1, h2, h3, h4, h5⟩ := all_ok f a
  have h6 : xs.length * (w + 1) ≤ 3 * (w + 1) := Nat.mul_le_mul_right _ l
  constructor
  · refine ⟨by simp only [PyData.leavesShort]; exact h1, by simp only [PyData.showable]; exact h2, by simp only [PyData.hasDict]; exact h3, ?_, ?_⟩
    · simp only [PyData.depth]; omega
    · simp only [PyData.weight]; omega
  · refine ⟨by simp only [PyData.leavesShort]; exact h1, by simp only [PyData.showable]; exact h2, by simp only [PyData.hasDict]; exact h3, ?_, ?_⟩
    · simp only [PyData.depth]; omega
    · simp only [PyData.weight]; omega
theorem DOk.mono {w w' b b' : Nat} {d : PyData} (o : DOk w b d) (h : w ≤ w') (g : b ≤ b') : DOk w' b' d := ⟨o.sh, o.sw, o.no, Nat.le_trans o.dp g, Nat.le_trans o.wt h⟩
theorem Lf1.ok {H : Hp} {v : V} {d : PyData} (o : Lf1 H v d) : DOk 603 3 d := by
  cases o with
  | lf l => exact l.ok.mono (by decide) (by decide)
  | tup _ a l => exact (seq_ok (fun _ _ z => z.ok) a l).1
  | lst _ a l => exact (seq_ok (fun _ _ z => z.ok) a l).2
theorem Lf2.ok {H : Hp} {v : V} {d : PyData} (o : Lf2 H v d) : DOk 1812 4 d := by
  cases o with
  | lf l => exact l.ok.mono (by decide) (by decide)
  | tup _ a l => exact (seq_ok (fun _ _ z => z.ok) a l).1
  | lst _ a l => exact (seq_ok (fun _ _ z => z.ok) a l).2.mono (by decide) (by decide)
theorem Lf.dp {H : Hp} {v : V} {d : PyData} (o : Lf v d) : Dp K H v d := by
  cases o with
  | int i h => exact .int i
  | bl b => exact .bl b
  | non => exact .non
  | str x _ _ => exact .str x
theorem all_dp {R : V → PyData → Prop} {H : Hp} (f : ∀ v d, R v d → Dp K H v d) : ∀ {xs : List V} {ds : List PyData}, All2 R xs ds → DpAll K H xs ds
  | _, _, .nil => .nil
  | _, _, .cons a r => .cons (f _ _ a) (all_dp f r)
theorem Lf1.dp {H : Hp} {v : V} {d : PyData} (o : Lf1 H v d) : Dp K H v d := by
  cases o with
  | lf l => exact l.dp
  | tup h a _ => exact .tup (SqT.of h) (all_dp (fun _ _ z => z.dp) a)
  | lst h a _ => exact .lst (SqL.of h) (all_dp (fun _ _ z => z.dp) a)
theorem Lf2.dp {H : Hp} {v : V} {d : PyData} (o : Lf2 H v d) : Dp K H v d := by
  cases o with
  | lf l => exact l.dp
  | tup h a _ => exact .tup (SqT.of h) (all_dp (fun _ _ z => z.dp) a)
  | lst h a _ => exact .lst (SqL.of h) (all_dp (fun _ _ z => z.dp) a)
/-- its repr -/
theorem Lf2.repr {H : Hp} {v : V} {d : PyData} (o : Lf2 H v d) {Q : VK} (q : Q (.str d.shown) H) : rRepr K [v] H Q := by
  have ok := o.ok
  have l := PyData.shown_le 40 (by decide) d ok.sh
  have wt := ok.wt
  have m : (40 + 2) * d.weight ≤ (40 + 2) * 1812 := Nat.mul_le_mul_left _ wt
  exact ⟨v, d, rfl, o.dp, ok.sw, ok.no, by have := ok.dp; omega, by rw [sizeLine_eq]; omega, q⟩
/-! ### which of them is a state -/
def inD (h : Nat) : PyData → Bool
  | .int i => decide (0 ≤ i) && decide (i ≤ (h : Int) - 1)
  | _ => false
def stB (n h : Nat) : PyData → Bool
  | .tuple ds => decide (ds.length = n) && ds.all (inD h)
  | _ => false
theorem Lf.in_ {v : V} {d : PyData} (o : Lf v d) (h : Nat) : inI v 0 ((h : Int) - 1) = inD h d := by cases o <;> rfl
theorem Lf1.in_ {H : Hp} {v : V} {d : PyData} (o : Lf1 H v d) (h : Nat) : inI v 0 ((h : Int) - 1) = inD h d := by
  cases o with
  | lf l => exact l.in_ h
  | tup _ _ _ => rfl
  | lst _ _ _ => rfl
theorem all_int {R : V → PyData → Prop} (f : ∀ v i, R v (.int i) → v = .int i) {h : Nat} : ∀ {xs : List V} {ds : List PyData}, All2 R xs ds → ds.all (inD h) = true → ∃ S : List Int, xs = stV S ∧ ds = S.map .int ∧ ∀ z ∈ S, 0 ≤ z ∧ z < (h : Int)
  | _, _, .nil, _ => ⟨[], rfl, rfl, fun z hz => by cases hz⟩
  | _, _, .cons (d := d) a r, hd => by
    rw [List.all_cons, Bool.and_eq_true] at hd
    obtain ⟨S, e1, e2, e3⟩ := all_int f r hd.2
    cases d with
    | int i =>
      have z : (decide (0 ≤ i) && decide (i ≤ (h : Int) - 1)) = true := hd.1
      rw [Bool.and_eq_true, decide_eq_true_eq, decide_eq_true_eq] at z
      refine ⟨i :: S, by rw [f _ _ a, e1]; rfl, by rw [e2]; rfl, fun y hy => ?_⟩
      rcases List.mem_cons.mp hy with e | hy
      · rw [e]; omega
      · exact e3 y hy
    | _ => exact absurd hd.1 (by intro z; cases z)
theorem Lf1.int_ {H : Hp} {v : V} {i : Int} (o : Lf1 H v (.int i)) : v = .int i := by
  cases o with
  | lf l => cases l; rfl
theorem Lf2.st {H : Hp} {v : V} {d : PyData} {n h : Nat} (o : Lf2 H v d) (hb : stB n h d = true) : ∃ (t : Addr) (S : List Int), v = .ref t ∧ H t = some (.tup (stV S)) ∧ StOk n h S ∧ d = stD S := by
  cases o with
  | lf l => cases l <;> cases hb
  | @tup t xs ds ht a l =>
    have z : (decide (ds.length = n) && ds.all (inD h)) = true := hb
    rw [Bool.and_eq_true, decide_eq_true_eq] at z
    obtain ⟨S, e1, e2, e3⟩ := all_int (fun v i z => Lf1.int_ z) a z.2
    refine ⟨t, S, rfl, by rw [ht, e1], ⟨?_, e3⟩, by rw [e2]; rfl⟩
    rw [← z.1, e2, List.length_map]
  | lst _ _ _ => cases hb
theorem ints_all (R : V → PyData → Prop) (f : ∀ i : Int, i.natAbs < 10 ^ 38 → R (.int i) (.int i)) : ∀ S : List Int, (∀ z ∈ S, z.natAbs < 10 ^ 38) → All2 R (stV S) (S.map .int)
  | [], _ => .nil
  | i :: S, h => .cons (f i (h i List.mem_cons_self)) (ints_all R f S fun z hz => h z (List.mem_cons_of_mem _ hz))
theorem st_lf2 {H : Hp} {t : Addr} {S : List Int} (ht : H t = some (.tup (stV S))) (l : S.length ≤ 3) (b : ∀ z ∈ S, z.natAbs < 10 ^ 38) : Lf2 H (.ref t) (stD S) := .tup ht (ints_all _ (fun i h => .lf (.int i h)) S b) (by rw [List.length_map]; exact l)
theorem st_lf1 {H : Hp} {t : Addr} {S : List Int} (ht : H t = some (.tup (stV S))) (l : S.length ≤ 3) (b : ∀ z ∈ S, z.natAbs < 10 ^ 38) : Lf1 H (.ref t) (stD S) := .tup ht (ints_all _ (fun i h => .int i h) S b) (by rw [List.length_map]; exact l)
theorem StOk.small {n h : Nat} {S : List Int} (o : StOk n h S) (h10 : h ≤ 10) : ∀ z ∈ S, z.natAbs < 10 ^ 38 := fun z hz => by
  have := o.2 z hz
  have e : (10 : Nat) ^ 38 = 100000000000000000000000000000000000000 := by decide
  omega
theorem st_stB {n h : Nat} {S : List Int} (o : StOk n h S) : stB n h (stD S) = true := by
  show (decide ((S.map PyData.int).length = n) && (S.map PyData.int).all (inD h)) = true
  rw [List.length_map, decide_eq_true o.1, Bool.true_and, List.all_eq_true]
  intro d hd
  obtain ⟨z, hz, rfl⟩ := List.mem_map.mp hd
  have := o.2 z hz
  show (decide (0 ≤ z) && decide (z ≤ (h : Int) - 1)) = true
  rw [decide_eq_true this.1, decide_eq_true (by omega)]
  rfl
abbrev s_InvalidState___init__ : Stmt := inClass (top 5) 0
theorem sc_InvalidState___init__ : FnScope ["self", "state"] ["self", "state"] (defScope s_InvalidState___init__) := ⟨rfl, rfl, rfl, by decide +kernel, rfl, by decide +kernel, by decide +kernel⟩
-- slots of InvalidState.__init__: 0 self, 1 state
theorem ok_InvalidState {f : Addr} {fd : FuncData} (F : Fun K "__init__" "InvalidState.__init__" s_InvalidState___init__ f fd) : FnOk P w K mg base CX0 1 f fd ["self", "state"] (spKeep K "state") := by
  refine F.ok sc_InvalidState___init__ (fun vs H Q E h => ?_) (fun cdv A outer s H vs Q E hr h => ?_)
  · obtain ⟨a, D, v, rfl, _⟩ := h; rfl
  · obtain ⟨a, D, v, rfl, T, no, ha, q⟩ := h
    refine ⟨_, (pss_one (ps_ost (pv 0) (pv 1))), ?_⟩
    exact ⟨_, rfl, _, rfl, a, D, rfl, T, no, .inl ⟨ha, fun dx nd ne => q dx nd ne⟩⟩
abbrev s_InvalidNumber___init__ : Stmt := inClass (top 6) 0
theorem sc_InvalidNumber___init__ : FnScope ["self", "number"] ["self", "number"] (defScope s_InvalidNumber___init__) := ⟨rfl, rfl, rfl, by decide +kernel, rfl, by decide +kernel, by decide +kernel⟩
-- slots of InvalidNumber.__init__: 0 self, 1 number
theorem ok_InvalidNumber {f : Addr} {fd : FuncData} (F : Fun K "__init__" "InvalidNumber.__init__" s_InvalidNumber___init__ f fd) : FnOk P w K mg base CX0 1 f fd ["self", "number"] (spKeep K "number") := by
  refine F.ok sc_InvalidNumber___init__ (fun vs H Q E h => ?_) (fun cdv A outer s H vs Q E hr h => ?_)
  · obtain ⟨a, D, v, rfl, _⟩ := h; rfl
  · obtain ⟨a, D, v, rfl, T, no, ha, q⟩ := h
    refine ⟨_, (pss_one (ps_ost (pv 0) (pv 1))), ?_⟩
    exact ⟨_, rfl, _, rfl, a, D, rfl, T, no, .inl ⟨ha, fun dx nd ne => q dx nd ne⟩⟩
end
end Hue

end
section
set_option maxRecDepth 100000
set_option maxHeartbeats 4000000
namespace Hue
open PySem PySem.Spec PyProof.Rows L2
section
variable {P : Program} {w : World} {K : PySem.W.Frag} {mg : Str → Option Value} {base : Heap} {C CH : Addr}
/-! ### a house that is refused -/
abbrev s_InvalidHouse___init__ : Stmt := inClass (top 3) 0
theorem sc_InvalidHouse___init__ : FnScope ["self", "part", "index"] ["self", "part", "index"] (defScope s_InvalidHouse___init__) := ⟨rfl, rfl, rfl, by decide +kernel, rfl, by decide +kernel, by decide +kernel⟩
-- slots of InvalidHouse.__init__: 0 self, 1 part, 2 index
theorem ok_InvalidHouse {f : Addr} {fd : FuncData} (F : Fun K "__init__" "InvalidHouse.__init__" s_InvalidHouse___init__ f fd) : FnOk P w K mg base CX0 1 f fd ["self", "part", "index"] (spKeep2 K "part" "index") := by
  refine F.ok sc_InvalidHouse___init__ (fun vs H Q E h => ?_) (fun cdv A outer s H vs Q E hr h => ?_)
  · obtain ⟨a, D, v, u, rfl, _⟩ := h; rfl
  · obtain ⟨a, D, v, u, rfl, T, no1, no2, ha, q⟩ := h
    refine ⟨_, (pss_cons (ps_ost (pv 0) (pv 1)) (pss_one (ps_ost (pv 0) (pv 2)))), ?_⟩
    refine ⟨_, rfl, _, rfl, a, D, rfl, T, no1, .inl ⟨ha, fun dx nd ne => ?_⟩⟩
    exact ⟨_, rfl, _, rfl, a, D, rfl, T, no2, .inr ⟨dx, _, upd_same, by rw [upd_ne ne, upd_same], by show 1 ≤ 900; decide, q dx nd ne⟩⟩
/-- refused for a part, at a place -/
def Odd2 (CH : Addr) (x : Addr) (p : Str) (i : Nat) (H : Hp) (E : XK) : Prop := ∀ (d : Addr) (H' : Hp), H d = none → SB x H H' → H' d = some (.xd [("index", .int (i : Nat)), ("part", .str p)]) → E (.ref CH) (some d) H'
def OddS (CH : Addr) (p : Str) (i : Nat) (H : Hp) (E : XK) : Prop := ∀ (d : Addr) (H' : Hp), H d = none → Same H H' → H' d = some (.xd [("index", .int (i : Nat)), ("part", .str p)]) → E (.ref CH) (some d) H'
theorem OddS.after {H H' : Hp} {p : Str} {i : Nat} {E : XK} (o : OddS CH p i H E) (s : Same H H') : OddS CH p i H' E := fun d H2 nd s2 hd => o d H2 (s.free nd) (s.trans s2) hd
/-- a whole number within bounds, of data -/
def inB (lo hi : Int) : PyData → Bool
  | .int i => decide (lo ≤ i) && decide (i ≤ hi)
  | _ => false
theorem Lf2.inB_ {H : Hp} {v : V} {d : PyData} (o : Lf2 H v d) (lo hi : Int) : inI v lo hi = inB lo hi d := by
  cases o with
  | lf l => cases l <;> rfl
  | tup _ _ _ => rfl
  | lst _ _ _ => rfl
theorem Lf1.inB_ {H : Hp} {v : V} {d : PyData} (o : Lf1 H v d) (lo hi : Int) : inI v lo hi = inB lo hi d := by
  cases o with
  | lf l => cases l <;> rfl
  | tup _ _ _ => rfl
  | lst _ _ _ => rfl
theorem inB_int {lo hi : Int} {d : PyData} (h : inB lo hi d = true) : ∃ i, d = .int i ∧ lo ≤ i ∧ i ≤ hi := by
  cases d with
  | int i =>
    have z : (decide (lo ≤ i) && decide (i ≤ hi)) = true := h
    rw [Bool.and_eq_true, decide_eq_true_iff, decide_eq_true_iff] at z
    exact ⟨i, rfl, z.1, z.2⟩
  | _ => cases h
/-- a wire, of data -/
def wireD (n : Nat) : PyData → Option (Nat × Nat)
  | .tuple [a, b] => if (inB 0 ((n : Int) - 1) a && inB 0 ((n : Int) - 1) b) = true then (match a, b with
    | .int u, .int l => if u = l then none else some (u.toNat, l.toNat)
    | _, _ => none) else none
  | _ => none
theorem wire2 {n : Nat} {a b : PyData} : wireD n (.tuple [a, b]) = if (inB 0 ((n : Int) - 1) a && inB 0 ((n : Int) - 1) b) = true then (match a, b with
    | .int u, .int l => if u = l then none else some (u.toNat, l.toNat)
    | _, _ => none) else none := rfl
theorem wire_some {n : Nat} {d : PyData} {p : Nat × Nat} (h : wireD n d = some p) : d = .tuple [.int (p.1 : Nat), .int (p.2 : Nat)] ∧ p.1 < n ∧ p.2 < n ∧ p.1 ≠ p.2 := by
  unfold wireD at h
  split at h
  · rename_i a b
    split at h
    · rename_i c
      rw [Bool.and_eq_true] at c
      obtain ⟨u, rfl, u0, u1⟩ := inB_int c.1
      obtain ⟨l, rfl, l0, l1⟩ := inB_int c.2
      simp only at h
      split at h
      · cases h
      · rename_i ne
        cases h
        refine ⟨?_, by show u.toNat < n; omega, by show l.toNat < n; omega, fun z => ne (by have z : u.toNat = l.toNat := z; omega)⟩
        show PyData.tuple [.int u, .int l] = .tuple [.int ((u.toNat : Nat) : Int), .int ((l.toNat : Nat) : Int)]
        rw [Int.toNat_of_nonneg u0, Int.toNat_of_nonneg l0]
    · cases h
  · cases h
def spIsWireV : Sp := fun vs H Q _ => ∃ (n : Nat) (v : V) (d : PyData), vs = [.int n, v] ∧ Lf2 H v d ∧ Q (.bl (wireD n d).isSome) H
theorem ok_is_wireV (T : Txt K mg C) {f : Addr} {fd : FuncData} (F : Fun K "is_wire" "is_wire" s_is_wire f fd) (c_is_whole_in : Cal P w K mg base "is_whole_in" 2 spWholeInV) : FnOk P w K mg base CX0 3 f fd ["count", "value"] spIsWireV := by
  refine F.ok sc_is_wire (fun vs H Q E h => ?_) (fun cdv A outer s H vs Q E hr h => ?_)
  · obtain ⟨n, v, d, rfl, _⟩ := h; rfl
  · obtain ⟨n, v, d, rfl, od, q⟩ := h
    refine ⟨_, (pss_cons (ps_if (PW.pt (pw_or (pt_not (pt_val (pe_callB (isi_ K) (by rfl) T.isinstance b_isinstance (pa_cons (pv 1) (pa_cons (pe_bltn (v := .ty "tuple") (by rfl) T.tuple b_tuple rfl) pa_nil))))) (pw_or1 (pt_cmpR op_ne (pe_callB (lenS_ K) (by rfl) T.len b_len (pa_cons (pv 1) pa_nil)) pe_int (nomark _)))))
      (pss_one (ps_ret pe_bl)) pss_nil)
      (pss_cons (ps_asg (pv 1) (pg_tup (by rfl) (pgs_cons (pg_name (i := 2) sc_is_wire.nd rfl (by first | exact Or.inl rfl | exact Or.inr rfl)) (pgs_cons (pg_name (i := 3) sc_is_wire.nd rfl (by first | exact Or.inl rfl | exact Or.inr rfl)) pgs_nil))))
      (pss_one (ps_ret (pe_and (pe_cal c_is_whole_in (hr.mono (by decide)) (pa_cons (pv 2) (pa_cons pe_int (pa_cons (pe_op op_sub (pv 0) pe_int) pa_nil)))) (pe_and (pe_cal c_is_whole_in (hr.mono (by decide)) (pa_cons (pv 3) (pa_cons pe_int (pa_cons (pe_op op_sub (pv 0) pe_int) pa_nil)))) (pe_one (pe_cmpR op_ne (pv 2) (pv 3) (nomark _))))))))), ?_⟩
    cases od with
    | lf l =>
      cases l with
      | int i _ => exact ⟨_, rfl, _, _, _, _, false, rfl, .ty _, .base (.int i), kit_ty (by decide +kernel), false, rfl, iteT q⟩
      | bl b => exact ⟨_, rfl, _, _, _, _, false, rfl, .ty _, .base (.bl b), kit_ty (by decide +kernel), false, rfl, iteT q⟩
      | non => exact ⟨_, rfl, _, _, _, _, false, rfl, .ty _, .base (.non), kit_ty (by decide +kernel), false, rfl, iteT q⟩
      | str z _ _ => exact ⟨_, rfl, _, _, _, _, false, rfl, .ty _, .base (.str z), kit_ty (by decide +kernel), false, rfl, iteT q⟩
    | lst ht _ _ => exact ⟨_, rfl, _, _, _, _, false, rfl, .ty _, .base (.lst ht), kit_ty (by decide +kernel), false, rfl, iteT q⟩
    | @tup t xs ds ht a l =>
      refine ⟨_, rfl, _, _, _, _, true, rfl, .ty _, .base (.tup ht), kit_ty (by decide +kernel), true, rfl, iteF ?_⟩
      refine ⟨_, rfl, t, _, rfl, .inr (SqT.of ht), rfl, _, rfl, ?_⟩
      have al := a.len
      match xs, ds, a, al with
      | [], [], _, _ => exact iteT q
      | [_], [_], _, _ => exact iteT q
      | _ :: _ :: _ :: _, _ :: _ :: _ :: _, _, _ =>
        refine ifT ?_ q
        rw [decide_eq_false fun z => by
          injection z with z
          rw [List.length_cons, List.length_cons, List.length_cons] at z
          omega]
        rfl
      | [x, y], [d1, d2], .cons o1 (.cons o2 .nil), _ =>
        refine iteNS rfl ?_
        refine ⟨_, rfl, t, _, rfl, SqT.of ht, rfl, _, _, rfl, _, _, rfl, rfl, ?_⟩
        refine ⟨_, rfl, _, rfl, _, _, rfl, rfl, x, 0, (n : Int) - 1, rfl, o1.kd, _, rfl, ?_⟩
        rw [o1.inB_]
        have e : ∀ b : Bool, (wireD n (.tuple [d1, d2])).isSome = b → Q (.bl b) H := fun b e => by rw [← e]; exact q
        cases c1 : inB 0 ((n : Int) - 1) d1 with
        | false => exact iteF (e false (by rw [wire2, c1]; rfl))
        | true =>
          refine iteT ?_
          refine ⟨_, rfl, _, rfl, _, _, rfl, rfl, y, 0, (n : Int) - 1, rfl, o2.kd, _, rfl, ?_⟩
          rw [o2.inB_]
          cases c2 : inB 0 ((n : Int) - 1) d2 with
          | false => exact iteF (e false (by rw [wire2, c1, c2]; rfl))
          | true =>
            obtain ⟨u, rfl, u0, u1⟩ := inB_int c1
            obtain ⟨m, rfl, m0, m1⟩ := inB_int c2
            have ex := o1.int_
            have ey := o2.int_
            subst ex
            subst ey
            refine iteT ⟨_, rfl, _, rfl, rfl, ?_⟩
            refine e _ ?_
            rw [wire2, c1, c2, if_pos (by rfl)]
            show (if u = m then none else some (u.toNat, m.toNat) : Option (Nat × Nat)).isSome = !decide (V.int u = V.int m)
            by_cases z : u = m
            · rw [z, decide_eq_true rfl]; simp
            · rw [if_neg z, decide_eq_false fun y => z (by injection y)]; rfl
/-! ### the checks -/
def spCheckCountX (CH : Addr) : Sp := fun vs H Q E => ∃ (v : V) (d : PyData), vs = [v] ∧ Lf2 H v d ∧ (inB 1 16 d = true → Q .non H) ∧ (inB 1 16 d = false → OddS CH "count" 0 H E)
theorem ok_check_countX (T : Txt K mg C) (M_house : XMk2 P w K mg base CH "InvalidHouse" "part" "index") {f : Addr} {fd : FuncData} (F : Fun K "check_count" "check_count" s_check_count f fd) (c_is_whole_in : Cal P w K mg base "is_whole_in" 2 spWholeInV) : FnOk P w K mg base (L2.CX P w) 3 f fd ["count"] (spCheckCountX CH) := by
  refine F.okX sc_check_count (fun vs H Q E h => ?_) (fun cdv A outer s H vs Q E hr h => ?_)
  · obtain ⟨v, d, rfl, _⟩ := h; rfl
  · obtain ⟨v, d, rfl, od, q1, q2⟩ := h
    obtain ⟨mc, rd, ⟨u, cv⟩, _⟩ := T.con
    refine ⟨_, (pss_one (ps_if (pt_not (pt_val (pe_cal c_is_whole_in (hr.mono (by decide)) (pa_cons (pv 0) (pa_cons pe_int (pa_cons (cval_ K (pe_glob (v := .ref C) (by rfl) T.mgC rfl)) pa_nil))))))
      (pss_one (ps_raiseM2 M_house rfl (takes_of rfl rfl rfl rfl) (hr.mono (by decide)) (pa_cons pe_str (pa_cons pe_int pa_nil)))) pss_nil)), ?_⟩
    refine ⟨_, rfl, C, mc, _, _, rfl, rd, cv, v, 1, 16, rfl, od.kd, _, rfl, ?_⟩
    rw [od.inB_]
    cases e : inB 1 16 d with
    | true => exact iteF (q1 e)
    | false => exact iteT ⟨by show 2 ≤ 1000; decide, fun a na => keep_raised2 M_house.cls.oex M_house.no1 M_house.no2 (q2 e) a na⟩
def spCheckHuesX (CH : Addr) : Sp := fun vs H Q E => ∃ (v : V) (d : PyData), vs = [v] ∧ Lf2 H v d ∧ (inB 2 10 d = true → Q .non H) ∧ (inB 2 10 d = false → OddS CH "hues" 0 H E)
theorem ok_check_huesX (T : Txt K mg C) (M_house : XMk2 P w K mg base CH "InvalidHouse" "part" "index") {f : Addr} {fd : FuncData} (F : Fun K "check_hues" "check_hues" s_check_hues f fd) (c_is_whole_in : Cal P w K mg base "is_whole_in" 2 spWholeInV) : FnOk P w K mg base (L2.CX P w) 3 f fd ["hues"] (spCheckHuesX CH) := by
  refine F.okX sc_check_hues (fun vs H Q E h => ?_) (fun cdv A outer s H vs Q E hr h => ?_)
  · obtain ⟨v, d, rfl, _⟩ := h; rfl
  · obtain ⟨v, d, rfl, od, q1, q2⟩ := h
    obtain ⟨mc, rd, _, ⟨u, cv⟩⟩ := T.con
    refine ⟨_, (pss_one (ps_if (pt_not (pt_val (pe_cal c_is_whole_in (hr.mono (by decide)) (pa_cons (pv 0) (pa_cons pe_int (pa_cons (cval_ K (pe_glob (v := .ref C) (by rfl) T.mgC rfl)) pa_nil))))))
      (pss_one (ps_raiseM2 M_house rfl (takes_of rfl rfl rfl rfl) (hr.mono (by decide)) (pa_cons pe_str (pa_cons pe_int pa_nil)))) pss_nil)), ?_⟩
    refine ⟨_, rfl, C, mc, _, _, rfl, rd, cv, v, 2, 10, rfl, od.kd, _, rfl, ?_⟩
    rw [od.inB_]
    cases e : inB 2 10 d with
    | true => exact iteF (q1 e)
    | false => exact iteT ⟨by show 2 ≤ 1000; decide, fun a na => keep_raised2 M_house.cls.oex M_house.no1 M_house.no2 (q2 e) a na⟩
/-! ### the first fault of wires -/
def faultD (n : Nat) : List PyData → List (Nat × Nat) → Nat → Option (Str × Nat)
  | [], _, _ => none
  | d :: ds, ps, i => match wireD n d with
    | none => some ("wire", i)
    | some p => if p ∈ ps then some ("duplicate", i) else if relOf ps p.2 p.1 = true then some ("cycle", i) else faultD n ds (ps ++ [p]) (i + 1)
theorem faultD_cons {n : Nat} {d : PyData} {ds : List PyData} {ps : List (Nat × Nat)} {i : Nat} : faultD n (d :: ds) ps i = match wireD n d with
    | none => some ("wire", i)
    | some p => if p ∈ ps then some ("duplicate", i) else if relOf ps p.2 p.1 = true then some ("cycle", i) else faultD n ds (ps ++ [p]) (i + 1) := rfl
def pairD (p : Nat × Nat) : PyData := .tuple [.int (p.1 : Nat), .int (p.2 : Nat)]
theorem filter_lt {α : Type} {p q : α → Bool} : ∀ {L : List α}, (∀ x ∈ L, p x = true → q x = true) → (∃ y ∈ L, q y = true ∧ p y = false) → (L.filter p).length < (L.filter q).length := by
  have le : ∀ {L : List α}, (∀ x ∈ L, p x = true → q x = true) → (L.filter p).length ≤ (L.filter q).length := by
    intro L
    induction L with
    | nil => intro _; exact Nat.le_refl _
    | cons a L ih =>
      intro h
      have r := ih fun x hx => h x (List.mem_cons_of_mem _ hx)
      have ha := h a List.mem_cons_self
      rw [List.filter_cons, List.filter_cons]
      cases hp : p a with
      | true => rw [if_pos rfl, if_pos (ha hp), List.length_cons, List.length_cons]; omega
      | false =>
        rw [if_neg Bool.false_ne_true]
        split
        · rw [List.length_cons]; omega
        · exact r
  intro L
  induction L with
  | nil => rintro _ ⟨y, hy, _⟩; cases hy
  | cons a L ih =>
    rintro h ⟨y, hy, qy, py⟩
    have hL : ∀ x ∈ L, p x = true → q x = true := fun x hx => h x (List.mem_cons_of_mem _ hx)
    rw [List.filter_cons, List.filter_cons]
    rcases List.mem_cons.mp hy with e | e
    · subst e
      rw [if_neg (by rw [py]; exact Bool.false_ne_true), if_pos qy, List.length_cons]
      have := le hL
      omega
    · have r := ih hL ⟨y, e, qy, py⟩
      have ha := h a List.mem_cons_self
      cases hp : p a with
      | true => rw [if_pos rfl, if_pos (ha hp), List.length_cons, List.length_cons]; omega
      | false =>
        rw [if_neg Bool.false_ne_true]
        split
        · rw [List.length_cons]; omega
        · exact r
def upN (n : Nat) (R : Rel) (k : Nat) : Nat := (Bel n (flip R) k).length

/-- wires without a fault -/
structure WsG (n : Nat) (ps : List (Nat × Nat)) : Prop where
  nd : ps.Nodup
  lt : ∀ p ∈ ps, p.1 < n ∧ p.2 < n
  irr : ∀ i, relOf ps i i = false
theorem fold_up : ∀ (ps : List (Nat × Nat)) (S : Rel) (i j : Nat), S i j = true → ps.foldl (fun R p => addW R p.1 p.2) S i j = true
  | [], S, i, j, h => h
  | p :: ps, S, i, j, h => fold_up ps _ i j (addW_iff.mpr (.inl h))
theorem fold_in : ∀ (ps : List (Nat × Nat)) (S : Rel), ∀ p ∈ ps, ps.foldl (fun R p => addW R p.1 p.2) S p.1 p.2 = true
  | [], S, p, hp => absurd hp List.not_mem_nil
  | q :: ps, S, p, hp => by
    rcases List.mem_cons.mp hp with e | hp
    · rw [e]; exact fold_up ps _ _ _ (addW_iff.mpr (.inr ⟨.inl rfl, .inl rfl⟩))
    · exact fold_in ps _ p hp
theorem WsG.rank {n : Nat} {ps : List (Nat × Nat)} (W : WsG n ps) : ∃ ρ : Nat → Nat, ∀ p ∈ ps, ρ p.1 < ρ p.2 := by
  refine ⟨fun k => ((List.range n).filter fun u => relOf ps u k).length, fun p hp => ?_⟩
  have r : relOf ps p.1 p.2 = true := fold_in ps _ p hp
  exact filter_lt (fun u _ h => relOf_trans ps _ _ _ h r) ⟨p.1, List.mem_range.mpr (W.lt p hp).1, r, W.irr p.1⟩
theorem relOf_app {ps : List (Nat × Nat)} {p : Nat × Nat} : relOf (ps ++ [p]) = addW (relOf ps) p.1 p.2 := by
  unfold relOf
  rw [List.foldl_append]
  rfl
theorem WsG.more {n : Nat} {ps : List (Nat × Nat)} (W : WsG n ps) {p : Nat × Nat} (l1 : p.1 < n) (l2 : p.2 < n) (ne : p.1 ≠ p.2) (new : p ∉ ps) (no : ¬ relOf ps p.2 p.1 = true) : WsG n (ps ++ [p]) := by
  refine ⟨List.nodup_append.mpr ⟨W.nd, by simp, fun a ha b hb e => new (by rw [List.mem_singleton.mp hb] at e; rw [← e]; exact ha)⟩, fun q hq => ?_, fun i => ?_⟩
  · rcases List.mem_append.mp hq with hq | hq
    · exact W.lt q hq
    · rw [List.mem_singleton.mp hq]; exact ⟨l1, l2⟩
  · rw [relOf_app, Bool.eq_false_iff]
    intro z
    rcases addW_iff.mp z with z | ⟨a, b⟩
    · rw [W.irr i] at z; cases z
    · rcases a with a | a
      · rcases b with b | b
        · exact ne (a.symm.trans b)
        · rw [a] at b; exact no b
      · rcases b with b | b
        · rw [b] at a; exact no a
        · exact no (relOf_trans ps _ _ _ b a)
def spLampsX (K : PySem.W.Frag) (CH : Addr) : Sp := fun vs H Q E => ∃ (a : Addr) (n : Nat) (xs : List V) (ds : List PyData), vs = [.int n, .ref a] ∧ n ≤ 16 ∧ SqA K H a xs ∧ All2 (Lf2 H) xs ds ∧ xs.length < 4900 ∧
  (∀ part i, faultD n ds [] 0 = some (part, i) → OddS CH part i H E) ∧
  (faultD n ds [] 0 = none → ∀ (H' : Hp) (p : Addr) (ps : List (Nat × Nat)), Same H H' → ds = ps.map pairD → WsG n ps → Rows H' p (relRows n (relOf ps)) → Q (.ref p) H')
theorem ok_lamps_beneathX (T : Txt K mg C) (M_house : XMk2 P w K mg base CH "InvalidHouse" "part" "index") {f : Addr} {fd : FuncData} (F : Fun K "lamps_beneath" "lamps_beneath" s_lamps_beneath f fd) (c_is_wire : Cal P w K mg base "is_wire" 3 spIsWireV) (c_with_wire : Cal P w K mg base "with_wire" 1 spWithWire) : FnOk P w K mg base (L2.CX P w) 4 f fd ["count", "wires"] (spLampsX K CH) := by
  refine F.okX sc_lamps_beneath (fun vs H Q E h => ?_) (fun cdv A outer s H vs Q E hr h => ?_)
  · obtain ⟨a, n, xs, ds, rfl, _⟩ := h; rfl
  · obtain ⟨a, n, xs, ds, rfl, hn, ha, al, few, bad, q⟩ := h
    refine ⟨_, (pss_cons (ps_setLc (i := 2) (own := [("_", 3)]) (g := gName 3) (tt := tYes) rfl sc_lamps_beneath.nd rfl rfl (sw_true rfl rfl rfl (by kernel_rfl)) (pi_range1 (by rfl) T.range (pa_cons (pv 0) pa_nil)) (blkOk_by (by kernel_rfl)) (fun _ _ _ _ _ => (pg_name (i := 3) sc_lamps_beneath.nd rfl (by first | exact Or.inl rfl | exact Or.inr rfl))) (fun _ _ _ _ _ => pts_nil) (fun _ _ _ _ _ => (pe_lst pa_nil)))
      (pss_cons (ps_set (i := 4) sc_lamps_beneath.nd rfl (by first | exact Or.inl rfl | exact Or.inr rfl) (pe_callTy0 cr_b0 (by rfl) T.set b_set))
      (pss_cons (ps_for (passes_of rfl) rfl (piA_ K (by rfl) T.enumerate (pa_cons (pv 1) pa_nil)) (pg_tup (by rfl) (pgs_cons (pg_name (i := 5) sc_lamps_beneath.nd rfl (by first | exact Or.inl rfl | exact Or.inr rfl)) (pgs_cons (pg_name (i := 6) sc_lamps_beneath.nd rfl (by first | exact Or.inl rfl | exact Or.inr rfl)) pgs_nil)))
      (pss_cons (ps_if (pt_not (pt_val (pe_cal c_is_wire (hr.mono (by decide)) (pa_cons (pv 0) (pa_cons (pv 6) pa_nil)))))
      (pss_one (ps_raiseM2 M_house rfl (takes_of rfl rfl rfl rfl) (hr.mono (by decide)) (pa_cons pe_str (pa_cons (pv 5) pa_nil)))) pss_nil)
      (pss_cons (ps_if (pt_cmpR (bIn_ P w hr.units) (pv 6) (pv 4) (by rfl))
      (pss_one (ps_raiseM2 M_house rfl (takes_of rfl rfl rfl rfl) (hr.mono (by decide)) (pa_cons pe_str (pa_cons (pv 5) pa_nil)))) pss_nil)
      (pss_cons (ps_asg (pv 6) (pg_tup (by rfl) (pgs_cons (pg_name (i := 7) sc_lamps_beneath.nd rfl (by first | exact Or.inl rfl | exact Or.inr rfl)) (pgs_cons (pg_name (i := 8) sc_lamps_beneath.nd rfl (by first | exact Or.inl rfl | exact Or.inr rfl)) pgs_nil))))
      (pss_cons (ps_if (pt_cmpR (inS_ K) (pv 7) (pe_ix (ixL_ K) (pv 2) (pv 8) (fun _ _ => rfl)) (by rfl))
      (pss_one (ps_raiseM2 M_house rfl (takes_of rfl rfl rfl rfl) (hr.mono (by decide)) (pa_cons pe_str (pa_cons (pv 5) pa_nil)))) pss_nil)
      (pss_cons (ps_expr (pe_bAdd hr.units (pv 4) (pa_cons (pv 6) pa_nil)))
      (pss_one (ps_set (i := 2) sc_lamps_beneath.nd rfl (by first | exact Or.inl rfl | exact Or.inr rfl) (pe_cal c_with_wire (hr.mono (by decide)) (pa_cons (pv 2) (pa_cons (pv 7) (pa_cons (pv 8) pa_nil))))))))))))
      (pss_one (ps_ret (pv 2)))))), ?_⟩
    refine ⟨_, rfl, _, rfl, by omega, by omega, fun D hD => ?_⟩
    rw [Int.toNat_natCast]
    refine lc_range (fun i H2 => ∃ as : List Addr, H2 D = some (.lst (as.map V.ref)) ∧ as.length = i ∧ Same H H2 ∧ ∀ (j : Nat) a, as[j]? = some a → a ≠ D ∧ H2 a = some (.lst []))
      ⟨[], upd_same, rfl, same_new hD, fun j a e => by simp at e⟩ ?_ ?_
    · rintro i H2 hi ⟨as, h1, h2, s2, h3⟩
      refine ⟨rfl, yesT ⟨by decide, fun p hp => ?_⟩⟩
      have nDp : D ≠ p := ne_of_none h1 hp
      refine ⟨_, by rw [upd_ne nDp]; exact h1, by rw [List.length_map, h2, sizeLine_eq]; omega, as ++ [p], by rw [upd_same, List.map_append]; rfl, by rw [List.length_append, h2]; rfl, same_upd (same_then s2 hp) hD, fun j c e => ?_⟩
      rcases Nat.lt_or_ge j as.length with l | g
      · rw [List.getElem?_append_left l] at e
        obtain ⟨n1, n2⟩ := h3 j c e
        exact ⟨n1, by rw [upd_ne n1, upd_ne (ne_of_none n2 hp)]; exact n2⟩
      · rw [List.getElem?_append_right g] at e
        have j0 : j - as.length = 0 := by
          rcases Nat.eq_zero_or_pos (j - as.length) with z | z
          · exact z
          · rw [List.getElem?_eq_none (by rw [List.length_singleton]; exact z)] at e; cases e
        rw [j0] at e
        cases e
        exact ⟨nDp.symm, by rw [upd_ne nDp.symm, upd_same]⟩
    rintro H1 ⟨as, h1, h2, s1, h3⟩
    have rows1 : Rows H1 D (relRows n (relOf [])) := ⟨as, h1, by rw [h2, relRows_len], fun i a r hi hr => by
      have il : i < n := by rw [← h2]; exact (List.getElem?_eq_some_iff.mp hi).1
      rw [relRows_at il] at hr
      cases hr
      have e0 : Bel n (relOf []) i = [] := by unfold Bel relOf; simp
      rw [e0]
      exact (h3 i a hi).2⟩
    refine ⟨rfl, fun e he => ?_⟩
    have s2 : Same H (upd H1 e (BigHO P w e [])) := same_then s1 he
    have h0e : H e = Option.none := s1.free he
    refine ⟨_, rfl, a, xs, rfl, ?_⟩
    refine for_enumA ha s2 (fun i σ H2 => ∃ (b : Addr) (L : List (Addr × List Int)) (v5 v6 v7 v8 : Option V) (ps : List (Nat × Nat)), σ = [some (.int n), some (.ref a), some (.ref b), Option.none, some (.ref e), v5, v6, v7, v8] ∧ Same H H2 ∧
        Rows H2 b (relRows n (relOf ps)) ∧ HasB K P w H2 e L ∧ L.length = i ∧ (∀ k, k ∈ L.map (·.2) ↔ ∃ p ∈ ps, k = [(p.1 : Int), (p.2 : Int)]) ∧ ps.length = i ∧ ds.take i = ps.map pairD ∧ WsG n ps ∧ faultD n ds [] 0 = faultD n (ds.drop i) ps i)
      ⟨D, [], _, _, _, _, [], rfl, s2, rows1.same (same_new he), ⟨upd_same, fun p hp => by cases hp⟩, rfl, fun k => ⟨fun hk => (by cases hk), fun ⟨p, hp, _⟩ => absurd hp List.not_mem_nil⟩, rfl, rfl, ⟨List.nodup_nil, fun p hp => absurd hp List.not_mem_nil, fun i => rfl⟩, rfl⟩ (fun i σ H2 _ ⟨_, _, _, _, _, _, _, _, s, _⟩ => s) ?_ ?_
    · rintro i x σ H2 H3 hi ⟨b, L, v5, v6, v7, v8, ps, rfl, s3, rows, hasT, lenL, memL, lp, tkd, W, fl⟩ ⟨tp, x1, y, rfl, htp, rfl, e1, e2⟩
      cases e1
      have e3 : xs[i]? = some y := e2
      obtain ⟨d, hd, od0⟩ := al.get e3
      have dr : ds.drop i = d :: ds.drop (i + 1) := by
        obtain ⟨il, ed⟩ := List.getElem?_eq_some_iff.mp hd
        rw [List.drop_eq_getElem_cons il, ed]
      have tk1 : ds.take (i + 1) = ps.map pairD ++ [d] := by rw [List.take_add_one, hd, tkd]; rfl
      rw [dr] at fl
      rw [faultD_cons] at fl
      have s4 : Same H2 (upd H2 tp (.tup [.int (i : Int), y])) := same_new htp
      have rows4 := rows.same s4
      have hasT4 : HasB K P w (upd H2 tp (.tup [.int (i : Int), y])) e L := ⟨s4 _ _ hasT.1, fun q hq => Same.tup s4 (hasT.2 q hq)⟩
      have s5 := s3.trans s4
      have htt : (upd H2 tp (.tup [.int (i : Int), y])) tp = some (.tup [.int (i : Int), y]) := upd_same
      generalize upd H2 tp (.tup [.int (i : Int), y]) = H4 at s4 rows4 hasT4 s5 htt ⊢
      refine ⟨tp, _, rfl, SqT.of htt, rfl, _, _, rfl, _, _, rfl, rfl, ?_⟩
      refine ⟨_, rfl, _, rfl, n, y, d, rfl, od0.same s5, ?_⟩
      cases ew : wireD n d with
      | none =>
        rw [ew] at fl
        exact ⟨false, rfl, iteT ⟨_, rfl, by show 2 ≤ 1000; decide, fun a na => keep_raised2 M_house.cls.oex M_house.no1 M_house.no2 ((bad _ _ fl).after s5) a na⟩⟩
      | some p =>
        rw [ew] at fl
        simp only at fl
        obtain ⟨ed, plt1, plt2, ne⟩ := wire_some ew
        obtain ⟨t, rfl, tup0⟩ : ∃ t, y = .ref t ∧ H t = some (.tup [.int (p.1 : Int), .int (p.2 : Int)]) := by
          rw [ed] at od0
          cases od0 with
          | lf l => cases l
          | @tup t xs2 ds2 ht a l =>
            match xs2, a with
            | [x, y], .cons o1 (.cons o2 .nil) => exact ⟨t, rfl, by rw [ht, o1.int_, o2.int_]⟩
        have tup4 := s5 _ _ tup0
        refine ⟨true, rfl, iteF ?_⟩
        refine ⟨_, rfl, _, rfl, t, e, [(p.1 : Int), (p.2 : Int)], L, rfl, rfl, SqT.of tup4, hasT4, _, rfl, ?_⟩
        have key : [(p.1 : Int), (p.2 : Int)] ∈ L.map (·.2) ↔ p ∈ ps := by
          rw [memL]
          constructor
          · rintro ⟨p2, m2, e⟩
            injection e with z1 z2
            injection z2 with z2 _
            have ep : p2 = p := by
              obtain ⟨a1, a2⟩ := p
              obtain ⟨b1, b2⟩ := p2
              simp only at z1 z2
              rw [Prod.mk.injEq]
              omega
            rw [← ep]; exact m2
          · exact fun m => ⟨p, m, rfl⟩
        by_cases new : p ∈ ps
        · rw [if_pos new] at fl
          exact ifT (decide_eq_true (key.mpr new)) ⟨_, rfl, by show 2 ≤ 1000; decide, fun a na => keep_raised2 M_house.cls.oex M_house.no1 M_house.no2 ((bad _ _ fl).after s5) a na⟩
        rw [if_neg new] at fl
        have new2 : [(p.1 : Int), (p.2 : Int)] ∉ L.map (·.2) := fun z => new (key.mp z)
        refine ifF (decide_eq_false new2) ?_
        refine ⟨_, rfl, t, _, rfl, SqT.of tup4, rfl, _, _, rfl, _, _, rfl, rfl, ?_⟩
        obtain ⟨ys, al2, hb, _, hal, hL⟩ := rows4.at (relRows_at (R := relOf ps) plt2)
        refine ⟨_, rfl, _, rfl, _, rfl, b, ys, _, _, rfl, rfl, SqL.of hb, atI_nat hal, al2, _, rfl, .inl (SqL.of hL), rfl, flat_nL _, _, rfl, ?_⟩
        have cyc : inV (V.int (p.1 : Int)) (nL (Bel n (relOf ps) p.2)) = relOf ps p.2 p.1 := by
          rw [in_nL, Bool.eq_iff_iff, decide_eq_true_iff, mem_Bel]
          exact ⟨fun z => z.2, fun z => ⟨plt1, z⟩⟩
        by_cases r : relOf ps p.2 p.1 = true
        · rw [if_pos r] at fl
          refine ifT ?_ ⟨_, rfl, by show 2 ≤ 1000; decide, fun a na => keep_raised2 M_house.cls.oex M_house.no1 M_house.no2 ((bad _ _ fl).after s5) a na⟩
          show inV (V.int (p.1 : Int)) (nL (Bel n (relOf ps) p.2)) = true
          rw [cyc]; exact r
        rw [if_neg r] at fl
        refine ifF ?_ ?_
        · show inV (V.int (p.1 : Int)) (nL (Bel n (relOf ps) p.2)) = false
          rw [cyc]; exact Bool.eq_false_iff.mpr r
        refine ⟨_, rfl, ⟨e, L, rfl, hasT4.1⟩, _, rfl, e, t, [(p.1 : Int), (p.2 : Int)], L, rfl, rfl, SqT.of tup4, hasT4, by omega, fun z => absurd z new2, fun _ L2 pm => ?_⟩
        have rows5 : Rows (upd H4 e (BigHO P w e L2)) b (relRows n (relOf ps)) := rows4.ext hasT4.1
        refine ⟨_, rfl, _, rfl, _, rfl, b, n, p.1, p.2, relOf ps, rfl, hn, plt1, plt2, rows5, fun H6 c s6 rows6 => ?_⟩
        have s7 : Same H H6 := (same_upd s5 h0e).trans s6
        refine ⟨c, L2, _, _, _, _, ps ++ [p], rfl, s7, by rw [relOf_app]; exact rows6, ⟨s6 _ _ upd_same, fun r hr => ?_⟩, ?_, fun k => ?_, by rw [List.length_append, lp]; rfl, by rw [tk1, ed, List.map_append]; rfl, W.more plt1 plt2 ne new r, fl⟩
        · rcases List.mem_cons.mp (pm.mem_iff.mp hr) with z | z
          · rw [z]; exact SqT.of (s7 _ _ tup0)
          · refine Same.tup s6 ?_
            have w0 := hasT4.2 r z
            rcases w0 with (w0 | ⟨o, w0⟩) | w0
            · refine .inl (.inl ?_)
              rw [upd_ne (ne_of w0 hasT4.1 (by intro z; cases z))]; exact w0
            · refine .inl (.inr ⟨o, ?_⟩)
              rw [upd_ne (ne_of w0 hasT4.1 (by intro z; cases z))]; exact w0
            · exact .inr w0
        · rw [pm.length_eq, List.length_cons, lenL]
        · rw [(pm.map (·.2)).mem_iff, List.map_cons, List.mem_cons, memL]
          constructor
          · rintro (z | ⟨p2, m2, e⟩)
            · exact ⟨p, List.mem_append_right _ List.mem_cons_self, z⟩
            · exact ⟨p2, List.mem_append_left _ m2, e⟩
          · rintro ⟨p2, m2, e⟩
            rcases List.mem_append.mp m2 with m2 | m2
            · exact .inr ⟨p2, m2, e⟩
            · rw [List.mem_singleton.mp m2] at e; exact .inl e
    · rintro σ H2 ⟨b, L, v5, v6, v7, v8, ps, rfl, s3, rows, _, _, _, lp, tkd, W, fl⟩
      rw [al.len] at tkd fl
      rw [List.take_length] at tkd
      rw [List.drop_length] at fl
      exact ⟨_, rfl, q fl H2 b ps s3 tkd W rows⟩
end
end Hue

end
section
set_option maxRecDepth 100000
set_option maxHeartbeats 4000000
namespace Hue
open PySem PySem.Spec PyProof.Rows L2
section
variable {P : Program} {w : World} {K : PySem.W.Frag} {mg : Str → Option Value} {base : Heap} {C CH : Addr}
/-! ### a house made of anything -/
theorem Lf1.ins {H H' : Hp} {x : Addr} {o : HO} {v : V} {d : PyData} (a : Lf1 H v d) (hx : H x = some o) (no : ∀ xs, o ≠ .tup xs ∧ o ≠ .lst xs) (s : SB x H H') : Lf1 H' v d := by
  cases a with
  | lf l => exact .lf l
  | tup h a l => exact .tup (s _ _ (ne_of h hx fun z => (no _).1 z.symm) h) a l
  | lst h a l => exact .lst (s _ _ (ne_of h hx fun z => (no _).2 z.symm) h) a l
theorem Lf2.ins {H H' : Hp} {x : Addr} {o : HO} {v : V} {d : PyData} (a : Lf2 H v d) (hx : H x = some o) (no : ∀ xs, o ≠ .tup xs ∧ o ≠ .lst xs) (s : SB x H H') : Lf2 H' v d := by
  cases a with
  | lf l => exact .lf l
  | tup h a l => exact .tup (s _ _ (ne_of h hx fun z => (no _).1 z.symm) h) (a.imp fun _ _ z => z.ins hx no s) l
  | lst h a l => exact .lst (s _ _ (ne_of h hx fun z => (no _).2 z.symm) h) a l
theorem Lf2.int_ {H : Hp} {v : V} {i : Int} (o : Lf2 H v (.int i)) : v = .int i := by
  cases o with
  | lf l => cases l; rfl
def houseD (cd hd : PyData) (ds : List PyData) : Option (Str × Nat) :=
  if inB 1 16 cd = true then (if inB 2 10 hd = true then (match cd with
    | .int c => faultD c.toNat ds [] 0
    | _ => none) else some ("hues", 0)) else some ("count", 0)
theorem FunV.okX {x qual : Str} {st : Stmt} {f : Addr} {fd : FuncData} {N ps : List Str} {k : Nat} {sp : Sp} (F : FunV K x qual st f fd) (S : FnScope N ps (defScope st)) (len : ∀ vs H Q E, sp vs H Q E → vs.length = ps.length)
    (hbody : ∀ (cdv : Value) (A : Around) (outer : List Env) (s : Shared) (H : Hp) (vs : List V) (Q : VK) (E : XK), Room k (A.deeper (envOfC qual (defScope st) s.heap.objs.size f cdv)) → sp vs H Q E →
      ∃ t, PSs (cxOf (L2.CX P w) P w K mg base N qual (defScope st) f cdv A outer s H E) (defBody st) t ∧ t { nx := fun _ H' => Q .non H', rt := Q } (start N vs) H) : FnOk P w K mg base (L2.CX P w) (k + 1) f fd ps sp := by
  obtain ⟨oc, od, dV, kV, doc, pm, an, cdv, ct, osl, rfl, lk, hcd⟩ := F.ex
  exact fn_of lk hcd S len fun A outer s H vs Q E hr hsp => hbody cdv A outer s H vs Q E hr hsp
theorem pair_ref {H : Hp} {v : V} {p : Nat × Nat} (o : Lf2 H v (pairD p)) : ∃ t, v = V.ref t ∧ H t = some (.tup [.int (p.1 : Int), .int (p.2 : Int)]) := by
  have o' : Lf2 H v (.tuple [.int (p.1 : Nat), .int (p.2 : Nat)]) := o
  cases o' with
  | lf l => cases l
  | @tup t xs2 ds2 ht a l =>
    match xs2, a with
    | [x, y], .cons o1 (.cons o2 .nil) => exact ⟨t, rfl, by rw [ht, o1.int_, o2.int_]⟩
/-- the wires that plain data are -/
theorem pairs_of {H : Hp} : ∀ {xs : List V} {ps : List (Nat × Nat)}, All2 (Lf2 H) xs (ps.map pairD) → ∃ ts : List Addr, xs = ts.map V.ref ∧ Pairs H ts ps
  | xs, [], a => by
    cases a
    exact ⟨[], rfl, rfl, fun i t p e => by simp at e⟩
  | xs, p :: ps, a => by
    cases a with
    | cons o r =>
      obtain ⟨ts, rfl, h1, h2⟩ := pairs_of r
      obtain ⟨t, rfl, ht⟩ := pair_ref o
      refine ⟨t :: ts, rfl, by rw [List.length_cons, List.length_cons, h1], fun i c r hc hr => ?_⟩
      cases i with
      | zero => cases hc; cases hr; exact ht
      | succ i => exact h2 i c r hc hr
def spInitX (K : PySem.W.Frag) (C CH : Addr) : Sp := fun vs H Q E => ∃ (x dx a : Addr) (cv hv : V) (cd hd : PyData) (xs : List V) (ds : List PyData), vs = [.ref x, cv, hv, .ref a] ∧ H x = some (.ins C dx []) ∧ Lf2 H cv cd ∧ Lf2 H hv hd ∧ SqA K H a xs ∧ All2 (Lf2 H) xs ds ∧ xs.length < 4900 ∧
  (∀ part i, houseD cd hd ds = some (part, i) → Odd2 CH x part i H E) ∧
  (houseD cd hd ds = none → ∀ (n h : Nat) (ps : List (Nat × Nat)), cd = .int n → hd = .int h → 1 ≤ n → n ≤ 16 → 2 ≤ h → h ≤ 10 → ds = ps.map pairD → WsG n ps → ∀ H', SB x H H' → HouseAt C H' x n h (relOf ps) → HouseX C H' x n ps → Q .non H')
theorem ok_initX (T : Txt K mg C) {f : Addr} {fd : FuncData} (F : FunV K "__init__" "House.__init__" s_House___init__ f fd) (x_check_count : CalX P w K mg base "check_count" 3 (spCheckCountX CH)) (x_check_hues : CalX P w K mg base "check_hues" 3 (spCheckHuesX CH))
    (x_lamps_beneath : CalX P w K mg base "lamps_beneath" 4 (spLampsX K CH)) (c_order_list : Cal P w K mg base "order_list" 2 spOrderList) : FnOk P w K mg base (L2.CX P w) 5 f fd ["self", "count", "hues", "wires"] (spInitX K C CH) := by
  refine F.okX sc_House___init__ (fun vs H Q E h => ?_) (fun cdv A outer s H vs Q E hr h => ?_)
  · obtain ⟨x, dx, a, cv, hv, cd, hd, xs, ds, rfl, _⟩ := h; rfl
  · obtain ⟨x, dx, a, cv, hv, cd, hd, xs, ds, rfl, hx, oc, oh, ha0, al0, few0, bad, q0⟩ := h
    refine ⟨_, (pss_cons (ps_expr (pe_calX x_check_count (takes_of rfl rfl rfl rfl) (hr.mono (by decide)) (pa_cons (pv 1) pa_nil)))
      (pss_cons (ps_expr (pe_calX x_check_hues (takes_of rfl rfl rfl rfl) (hr.mono (by decide)) (pa_cons (pv 2) pa_nil)))
      (pss_cons (ps_fld (pv 0) (pv 1) rfl)
      (pss_cons (ps_fld (pv 0) (pv 2) rfl)
      (pss_cons (ps_fld (pv 0) (pe_calX x_lamps_beneath (takes_of rfl rfl rfl rfl) (hr.mono (by decide)) (pa_cons (pv 1) (pa_cons (pv 3) pa_nil))) rfl)
      (pss_cons (ps_fld (pv 0) (pe_callTy (tupOf_ K) (by rfl) T.tuple b_tuple (pa_cons (pe_callB (sortPS_ K) (by rfl) T.sorted b_sorted (pa_cons (pv 3) pa_nil)) pa_nil)) rfl)
      (pss_cons (ps_set (i := 4) sc_House___init__.nd rfl (by first | exact Or.inl rfl | exact Or.inr rfl) (pe_callTy hu_cr_range1 (by rfl) T.range b_range (pa_cons (pv 1) pa_nil)))
      (pss_cons (ps_fld (pv 0) (pe_lc (own := [("lamp", 6)]) (g := gName 6) (tt := tYes) rfl sc_House___init__.nd (hu_pi_rng (pv 4)) (blkOk_by (by kernel_rfl)) (fun _ _ _ _ _ => (pg_name (i := 6) sc_House___init__.nd rfl (by first | exact Or.inl rfl | exact Or.inr rfl))) (fun _ _ _ _ _ => pts_nil) (fun _ _ _ _ _ => (pe_lc (own := [("upper", 5)]) (g := gName 5) rfl sc_House___init__.nd (hu_pi_rng (pv 4)) (blkOk_by (by kernel_rfl)) (fun _ _ _ _ _ => (pg_name (i := 5) sc_House___init__.nd rfl (by first | exact Or.inl rfl | exact Or.inr rfl))) (fun _ _ _ _ _ => (pts_one (pt_cmpR (inS_ K) (pv 6) (pe_ix (ixL_ K) (fld_ K (pv 0)) (pv 5) (fun _ _ => rfl)) (by rfl)))) (fun _ _ _ _ _ => (pv 5))))) rfl)
      (pss_cons (ps_fld (pv 0) (pe_lc (own := [("lamp", 6)]) (g := gName 6) (tt := tYes) rfl sc_House___init__.nd (hu_pi_rng (pv 4)) (blkOk_by (by kernel_rfl)) (fun _ _ _ _ _ => (pg_name (i := 6) sc_House___init__.nd rfl (by first | exact Or.inl rfl | exact Or.inr rfl))) (fun _ _ _ _ _ => pts_nil) (fun _ _ _ _ _ => (pe_lc (own := [("upper", 5), ("lower", 7)]) (g := gTup K 2 (gCons (gName 5) (gCons (gName 7) gNil))) rfl sc_House___init__.nd (pit_ K (fld_ K (pv 0))) (blkOk_by (by kernel_rfl)) (fun _ _ _ _ _ => (pg_tup (by rfl) (pgs_cons (pg_name (i := 5) sc_House___init__.nd rfl (by first | exact Or.inl rfl | exact Or.inr rfl)) (pgs_cons (pg_name (i := 7) sc_House___init__.nd rfl (by first | exact Or.inl rfl | exact Or.inr rfl)) pgs_nil)))) (fun _ _ _ _ _ => (pts_one (pt_cmpR op_eq (pv 5) (pv 6) (nomark _)))) (fun _ _ _ _ _ => (pv 7))))) rfl)
      (pss_one (ps_fld (pv 0) (pe_cal c_order_list (hr.mono (by decide)) (pa_cons (fld_ K (pv 0)) pa_nil)) rfl))))))))))), ?_⟩
    refine ⟨_, rfl, cv, cd, rfl, oc, fun c1 => ?_, fun c1 d H' nd s hd' => bad _ _ (by unfold houseD; rw [if_neg (by rw [c1]; exact Bool.false_ne_true)]) d H' nd (SB.of s) hd'⟩
    refine ⟨_, rfl, hv, hd, rfl, oh, fun c2 => ?_, fun c2 d H' nd s hd' => bad _ _ (by unfold houseD; rw [if_pos c1, if_neg (by rw [c2]; exact Bool.false_ne_true)]) d H' nd (SB.of s) hd'⟩
    obtain ⟨ci, rfl, i1, i2⟩ := inB_int c1
    obtain ⟨hi, rfl, j1, j2⟩ := inB_int c2
    obtain ⟨n, rfl⟩ : ∃ n : Nat, ci = n := ⟨ci.toNat, by omega⟩
    obtain ⟨h, rfl⟩ : ∃ h : Nat, hi = h := ⟨hi.toNat, by omega⟩
    have n1 : 1 ≤ n := by omega
    have n16 : n ≤ 16 := by omega
    have h2 : 2 ≤ h := by omega
    have h10 : h ≤ 10 := by omega
    have ecv := oc.int_
    have ehv := oh.int_
    subst ecv
    subst ehv
    have no : ∀ zs, (HO.ins C dx []) ≠ .tup zs ∧ (HO.ins C dx []) ≠ .lst zs := fun zs => ⟨fun z => (by cases z), fun z => (by cases z)⟩
    -- self.count, self.hues
    refine ⟨_, rfl, _, rfl, x, C, dx, _, rfl, hx, T.cl, T.nCount, by decide, ?_⟩
    refine ⟨_, rfl, _, rfl, x, C, dx, _, rfl, upd_same, T.cl, T.nHues, Nat.lt_of_le_of_lt (put_few (Nat.le_refl 0)) (by decide), ?_⟩
    rw [upd_upd]
    have sb1 : SB x H (upd H x (.ins C dx (putF "hues" (.int h) (putF "count" (.int n) [])))) := (SB.refl x H).upd
    have hx1 : (upd H x (.ins C dx (putF "hues" (.int h) (putF "count" (.int n) [])))) x = some (.ins C dx (putF "hues" (.int h) (putF "count" (.int n) []))) := upd_same
    have lk1 : (putF "hues" (.int h) (putF "count" (.int n) []) : List (Str × V)).length ≤ 2 := put_few (put_few (Nat.le_refl 0))
    generalize upd H x (.ins C dx (putF "hues" (.int h) (putF "count" (.int n) []))) = H1 at sb1 hx1 ⊢
    -- self._beneath
    refine ⟨_, rfl, _, rfl, a, n, xs, ds, rfl, n16, ha0.sb hx sb1, al0.imp (fun v d o => o.ins hx no sb1), few0, fun part i fe d H' nd s hd' => ?_, fun fn H2 be ps s2 eds W0 rows2 => ?_⟩
    · refine bad part i (by unfold houseD; rw [if_pos c1, if_pos c2]; exact fe) d H' ?_ (sb1.trans (SB.of s)) hd'
      cases e : H d with
      | none => rfl
      | some o =>
        by_cases z : d = x
        · rw [z, hx1] at nd; cases nd
        · rw [sb1 _ _ z e] at nd; cases nd
    have q := q0 (by unfold houseD; rw [if_pos c1, if_pos c2]; exact fn) n h ps rfl rfl n1 n16 h2 h10 eds W0
    rw [eds] at al0
    obtain ⟨ts, ets, hps⟩ := pairs_of al0
    rw [ets] at ha0 few0
    have ha := ha0
    have nd := W0.nd
    have few : ps.length < 4900 := by rw [← hps.1]; rw [List.length_map] at few0; exact few0
    have lt := W0.lt
    obtain ⟨ρ, rank⟩ := W0.rank
    have W : Wires K H a n ps := ⟨⟨ts, ha, hps⟩, nd, few, lt, ρ, rank⟩
    refine ⟨_, rfl, x, C, dx, _, rfl, s2 _ _ hx1, T.cl, T.nBen, by omega, ?_⟩
    have sb3 : SB x H (upd H2 x (.ins C dx (putF "_beneath" (.ref be) (putF "hues" (.int h) (putF "count" (.int n) []))))) := (sb1.trans (SB.of s2)).upd
    have rows3 : Rows (upd H2 x (.ins C dx (putF "_beneath" (.ref be) (putF "hues" (.int h) (putF "count" (.int n) []))))) be (relRows n (relOf ps)) := SB.rows ((SB.refl x H2).upd) (s2 _ _ hx1) rows2
    have hx3 : (upd H2 x (.ins C dx (putF "_beneath" (.ref be) (putF "hues" (.int h) (putF "count" (.int n) []))))) x = some (.ins C dx (putF "_beneath" (.ref be) (putF "hues" (.int h) (putF "count" (.int n) [])))) := upd_same
    have lk3 : (putF "_beneath" (.ref be) (putF "hues" (.int h) (putF "count" (.int n) [])) : List (Str × V)).length ≤ 3 := put_few lk1
    generalize upd H2 x (.ins C dx (putF "_beneath" (.ref be) (putF "hues" (.int h) (putF "count" (.int n) [])))) = H3 at sb3 rows3 hx3 ⊢
    -- self.wires
    have ha3 := ha.sb hx sb3
    refine ⟨_, rfl, a, ts.map V.ref, kOf H3, rfl, ha3, fun y hy => ?_, fun ys c perm so nc => ?_⟩
    · obtain ⟨t, ht, rfl⟩ := List.mem_map.mp hy
      obtain ⟨j, hj, e⟩ := List.getElem_of_mem ht
      have jl : j < ps.length := by rw [← hps.1]; exact hj
      have e2 := hps.2 j t ps[j] (by rw [List.getElem?_eq_getElem hj, e]) (List.getElem?_eq_getElem jl)
      have e3 := sb3 _ _ (ne_of e2 hx (by intro z; cases z)) e2
      exact ⟨t, rfl, by rw [kOf_ref e3]; exact e3⟩
    refine ⟨c, ys, rfl, .inl ⟨SqL.of upd_same, fun l nl => ?_⟩⟩
    have s4 : Same H3 (upd (upd H3 c (.lst ys)) l (.tup ys)) := (same_new nc).trans (same_new nl)
    have hl4 : (upd (upd H3 c (.lst ys)) l (.tup ys)) l = some (.tup ys) := upd_same
    generalize upd (upd H3 c (.lst ys)) l (.tup ys) = H4 at s4 hl4 ⊢
    refine ⟨_, rfl, x, C, dx, _, rfl, s4 _ _ hx3, T.cl, T.nWires, by omega, ?_⟩
    have nlx : l ≠ x := ne_of hl4 (s4 _ _ hx3) (by intro z; cases z)
    generalize hf5 : putF "wires" (.ref l) (putF "_beneath" (.ref be) (putF "hues" (.int h) (putF "count" (.int n) []))) = fs5
    have lk5 : fs5.length ≤ 4 := by rw [← hf5]; exact put_few lk3
    have ben5 : fs5.lookup ("_beneath" : Str) = some (.ref be) := by rw [← hf5, lk_ne _ _ (by decide +kernel), lk_same]
    have wir5 : fs5.lookup ("wires" : Str) = some (.ref l) := by rw [← hf5, lk_same]
    have cnt5 : fs5.lookup ("count" : Str) = some (.int n) := by rw [← hf5, lk_ne _ _ (by decide +kernel), lk_ne _ _ (by decide +kernel), lk_ne _ _ (by decide +kernel), lk_same]
    have hue5 : fs5.lookup ("hues" : Str) = some (.int h) := by rw [← hf5, lk_ne _ _ (by decide +kernel), lk_ne _ _ (by decide +kernel), lk_same]
    have ord5 : fs5.lookup ("order" : Str) = Option.none := by rw [← hf5, lk_ne _ _ (by decide +kernel), lk_ne _ _ (by decide +kernel), lk_ne _ _ (by decide +kernel), lk_ne _ _ (by decide +kernel)] <;> rfl
    have bnt5 : fs5.lookup ("beneath" : Str) = Option.none := by rw [← hf5, lk_ne _ _ (by decide +kernel), lk_ne _ _ (by decide +kernel), lk_ne _ _ (by decide +kernel), lk_ne _ _ (by decide +kernel)] <;> rfl
    have mth5 : ∀ m ∈ mNames, fs5.lookup m = Option.none := fun m hm => by rw [← hf5, lk_ne _ _ (mN hm (by decide +kernel)), lk_ne _ _ (mN hm (by decide +kernel)), lk_ne _ _ (mN hm (by decide +kernel)), lk_ne _ _ (mN hm (by decide +kernel))] <;> rfl
    have sb5 : SB x H (upd H4 x (.ins C dx fs5)) := (sb3.trans (SB.of s4)).upd
    have rows5 : Rows (upd H4 x (.ins C dx fs5)) be (relRows n (relOf ps)) := SB.rows ((SB.refl x H4).upd) (s4 _ _ hx3) (rows3.same s4)
    have hl5 : (upd H4 x (.ins C dx fs5)) l = some (.tup ys) := by rw [upd_ne nlx]; exact hl4
    have hx5 : (upd H4 x (.ins C dx fs5)) x = some (.ins C dx fs5) := upd_same
    generalize upd H4 x (.ins C dx fs5) = H5 at sb5 rows5 hl5 hx5 ⊢
    have hps5 : Pairs H5 ts ps := ⟨hps.1, fun i t p e1 e2 => sb5 _ _ (ne_of (hps.2 i t p e1 e2) hx (by intro z; cases z)) (hps.2 i t p e1 e2)⟩
    obtain ⟨us, qs, eys, hus5, pqs⟩ := pairs_perm hps5 perm
    have kq : ∀ (i : Nat) t r, us[i]? = some t → qs[i]? = some r → kOf H3 (.ref t) = ((r.1 : Int), (r.2 : Int)) := by
      intro i t r e1 e2
      have m : V.ref t ∈ ts.map V.ref := perm.mem_iff.mp (by rw [eys]; exact List.mem_map.mpr ⟨t, List.mem_of_getElem? e1, rfl⟩)
      obtain ⟨t', ht', et⟩ := List.mem_map.mp m
      cases et
      obtain ⟨j, hj, e⟩ := List.getElem_of_mem ht'
      have jl : j < ps.length := by rw [← hps.1]; exact hj
      have h0 := hps.2 j t ps[j] (by rw [List.getElem?_eq_getElem hj, e]) (List.getElem?_eq_getElem jl)
      have ntx := ne_of h0 hx (by intro z; cases z)
      have h5 := hus5.2 i t r e1 e2
      rw [sb5 _ _ ntx h0] at h5
      injection h5 with h5
      injection h5 with h5
      injection h5 with a1 a2
      injection a1 with a1
      injection a2 with a2 _
      injection a2 with a2
      rw [kOf_ref (sb3 _ _ ntx h0), a1, a2]
    have pqs : PermS qs ps := ⟨pqs, by
      rw [List.pairwise_iff_getElem]
      intro i j hi hj ij
      have li : i < us.length := by rw [hus5.1]; exact hi
      have lj : j < us.length := by rw [hus5.1]; exact hj
      rw [eys, List.pairwise_map, List.pairwise_iff_getElem] at so
      have z := so i j li lj ij
      rw [kq i _ _ (List.getElem?_eq_getElem li) (List.getElem?_eq_getElem hi), kq j _ _ (List.getElem?_eq_getElem lj) (List.getElem?_eq_getElem hj)] at z
      show ¬ (qs[j].1 < qs[i].1 ∨ (qs[j].1 = qs[i].1 ∧ qs[j].2 < qs[i].2))
      intro y
      refine z ?_
      show ((qs[j].1 : Int) < (qs[i].1 : Int) ∨ ((qs[j].1 : Int) = (qs[i].1 : Int) ∧ (qs[j].2 : Int) < (qs[i].2 : Int)))
      omega⟩
    have ys5 : ∀ y ∈ ys, ∃ (t : Addr) (i j : Nat), y = V.ref t ∧ H5 t = some (.tup [.int (i : Int), .int (j : Int)]) := by
      intro y hy
      obtain ⟨t, ht, rfl⟩ := List.mem_map.mp (perm.mem_iff.mp hy)
      obtain ⟨j, hj, e⟩ := List.getElem_of_mem ht
      have jl : j < ps.length := by rw [← hps.1]; exact hj
      have e2 := hps.2 j t ps[j] (by rw [List.getElem?_eq_getElem hj, e]) (List.getElem?_eq_getElem jl)
      exact ⟨t, _, _, rfl, sb5 _ _ (ne_of e2 hx (by intro z; cases z)) e2⟩
    have ysl : ys.length < 4900 := by rw [perm.length_eq, List.length_map, hps.1]; exact few
    -- lamps = range(count)
    refine ⟨_, rfl, _, rfl, fun r nr => ?_⟩
    have s6 : Same H5 (upd H5 r (.rng 0 (n : Int))) := same_new nr
    have hr6 : (upd H5 r (.rng 0 (n : Int))) r = some (.rng 0 (n : Int)) := upd_same
    generalize upd H5 r (.rng 0 (n : Int)) = H6 at s6 hr6 ⊢
    have nrx : r ≠ x := ne_of hr6 (s6 _ _ hx5) (by intro z; cases z)
    have rows6 := rows5.same s6
    -- self._above
    refine ⟨_, rfl, r, 0, n, rfl, hr6, ⟨by omega, by omega, by omega, by omega⟩, fun D hD => ?_⟩
    rw [show ((n : Int) - 0).toNat = n by omega]
    refine lc_range (fun i H7 => Coll H6 D (fun j => nL (Bel n (flip (relOf ps)) j)) i H7) (Coll.start hD) ?_ ?_
    · intro i H7 hi c7
      have e0 : (0 : Int) + (i : Int) = (i : Int) := by omega
      rw [e0]
      obtain ⟨_, hD7, _, s7, _⟩ := id c7
      refine ⟨rfl, yesT ⟨_, rfl, r, 0, n, rfl, s7 _ _ hr6, ⟨by omega, by omega, by omega, by omega⟩, fun D2 hD2 => ?_⟩⟩
      rw [show ((n : Int) - 0).toNat = n by omega]
      refine lc_range (fun j H8 => H8 D2 = some (.lst (nL ((List.range j).filter (flip (relOf ps) i)))) ∧ Same H7 H8) ⟨upd_same, same_new hD2⟩ ?_ ?_
      · rintro j H8 hj ⟨h8, s8⟩
        have e0 : (0 : Int) + (j : Int) = (j : Int) := by omega
        rw [e0]
        have s68 : Same H6 H8 := s7.trans s8
        obtain ⟨xs, al, hb, _, hal, hL⟩ := (rows6.same s68).at (relRows_at (R := relOf ps) hj)
        refine ⟨rfl, _, rfl, _, rfl, x, C, dx, _, _, rfl, s68 _ _ (s6 _ _ hx5), T.cl, T.nBen, ben5, _, rfl, be, xs, _, _, rfl, rfl, SqL.of hb, atI_nat hal, al, _, rfl, .inl (SqL.of hL), rfl, flat_nL _, _, rfl, ?_⟩
        have grown : (List.range (j + 1)).filter (flip (relOf ps) i) = (List.range j).filter (flip (relOf ps) i) ++ (if flip (relOf ps) i j = true then [j] else []) := by
          rw [List.range_succ, List.filter_append, List.filter_cons]
          rfl
        have same_test : inV (V.int (i : Int)) (nL (Bel n (relOf ps) j)) = flip (relOf ps) i j := by
          rw [in_nL, Bool.eq_iff_iff, decide_eq_true_eq, mem_Bel]
          exact ⟨fun z => z.2, fun z => ⟨hi, z⟩⟩
        show if inV (V.int (i : Int)) (nL (Bel n (relOf ps) j)) = true then _ else _
        rw [same_test]
        refine ite2 (fun hx' => ?_) (fun hx' => ?_)
        · refine ⟨_, rfl, _, h8, ?_, ?_, same_upd s8 hD2⟩
          · rw [nL_len, sizeLine_eq]
            have := List.length_filter_le (flip (relOf ps) i) (List.range j)
            rw [List.length_range] at this
            omega
          · rw [upd_same, grown, if_pos hx', nL_app]; rfl
        · refine ⟨?_, s8⟩
          rw [h8, grown, if_neg hx', List.append_nil]
      · rintro H8 ⟨h8, s8⟩
        exact c7.more hD s8 (fun z => by rw [z, hD7] at hD2; cases hD2) h8 (by omega)
    intro H7 c7
    have rowsA := c7.rows
    obtain ⟨_, hD7, _, s7, _⟩ := id c7
    refine ⟨_, rfl, x, C, dx, _, rfl, s7 _ _ (s6 _ _ hx5), T.cl, T.nAbove, by omega, ?_⟩
    generalize hf8 : putF "_above" (.ref D) fs5 = fs8
    have lk8 : fs8.length ≤ 5 := by rw [← hf8]; exact put_few lk5
    have ben8 : fs8.lookup ("_beneath" : Str) = some (.ref be) := by rw [← hf8, lk_ne _ _ (by decide +kernel)]; exact ben5
    have wir8 : fs8.lookup ("wires" : Str) = some (.ref l) := by rw [← hf8, lk_ne _ _ (by decide +kernel)]; exact wir5
    have cnt8 : fs8.lookup ("count" : Str) = some (.int n) := by rw [← hf8, lk_ne _ _ (by decide +kernel)]; exact cnt5
    have hue8 : fs8.lookup ("hues" : Str) = some (.int h) := by rw [← hf8, lk_ne _ _ (by decide +kernel)]; exact hue5
    have ord8 : fs8.lookup ("order" : Str) = Option.none := by rw [← hf8, lk_ne _ _ (by decide +kernel)]; exact ord5
    have bnt8 : fs8.lookup ("beneath" : Str) = Option.none := by rw [← hf8, lk_ne _ _ (by decide +kernel)]; exact bnt5
    have abv8 : fs8.lookup ("_above" : Str) = some (.ref D) := by rw [← hf8, lk_same]
    have mth8 : ∀ m ∈ mNames, fs8.lookup m = Option.none := fun m hm => by rw [← hf8, lk_ne _ _ (mN hm (by decide +kernel))]; exact mth5 m hm
    have s67 := s6.trans s7
    have sb8 : SB x H (upd H7 x (.ins C dx fs8)) := (sb5.trans (SB.of s67)).upd
    have rows8 : Rows (upd H7 x (.ins C dx fs8)) be (relRows n (relOf ps)) := SB.rows ((SB.refl x H7).upd) (s67 _ _ hx5) (rows6.same s7)
    have rowsA8 : Rows (upd H7 x (.ins C dx fs8)) D (relRows n (flip (relOf ps))) := SB.rows ((SB.refl x H7).upd) (s67 _ _ hx5) rowsA
    have hl8 : (upd H7 x (.ins C dx fs8)) l = some (.tup ys) := by rw [upd_ne nlx]; exact s67 _ _ hl5
    have hr8 : (upd H7 x (.ins C dx fs8)) r = some (.rng 0 (n : Int)) := by rw [upd_ne nrx]; exact s7 _ _ hr6
    have hx8 : (upd H7 x (.ins C dx fs8)) x = some (.ins C dx fs8) := upd_same
    have ys8 : ∀ y ∈ ys, ∃ (t : Addr) (i j : Nat), y = V.ref t ∧ (upd H7 x (.ins C dx fs8)) t = some (.tup [.int (i : Int), .int (j : Int)]) := by
      intro y hy
      obtain ⟨t, i, j, e1, e2⟩ := ys5 y hy
      exact ⟨t, i, j, e1, by rw [upd_ne (ne_of e2 hx5 (by intro z; cases z))]; exact s67 _ _ e2⟩
    have hus8 : Pairs (upd H7 x (.ins C dx fs8)) us qs := ⟨hus5.1, fun i t p e1 e2 => by rw [upd_ne (ne_of (hus5.2 i t p e1 e2) hx5 (by intro z; cases z))]; exact s67 _ _ (hus5.2 i t p e1 e2)⟩
    generalize upd H7 x (.ins C dx fs8) = H8 at sb8 rows8 rowsA8 hl8 hr8 hx8 ys8 hus8 ⊢
    -- self._direct
    refine ⟨_, rfl, r, 0, n, rfl, hr8, ⟨by omega, by omega, by omega, by omega⟩, fun D3 hD3 => ?_⟩
    rw [show ((n : Int) - 0).toNat = n by omega]
    have lq : qs.length < 4900 := by rw [pqs.1.length_eq]; exact few
    refine lc_range (fun i H9 => Coll H8 D3 (fun i => nL (dirL qs i)) i H9) (Coll.start hD3) ?_ ?_
    · intro i H9 hi c9
      have e0 : (0 : Int) + (i : Int) = (i : Int) := by omega
      rw [e0]
      obtain ⟨_, hD9, _, s9, _⟩ := id c9
      refine ⟨rfl, yesT ⟨_, rfl, x, C, dx, _, _, rfl, s9 _ _ hx8, T.cl, T.nWires, wir8, l, rfl, ⟨_, SqT.of (s9 _ _ hl8)⟩, fun D4 hD4 => ?_⟩⟩
      refine lc_it (walk_tup (xs := ys)) (fun j H10 => H10 D4 = some (.lst (nL (dirL (qs.take j) i))) ∧ Same H9 H10) ⟨upd_same, same_new hD4⟩ (fun j H10 _ ⟨_, s10⟩ => SqT.of (s10 _ _ (s9 _ _ hl8))) ?_ ?_
      · rintro j y H10 H11 hj ⟨h10, s10⟩ ⟨rfl, hy⟩
        rw [eys, List.getElem?_map] at hy
        obtain ⟨t, ht, rfl⟩ := Option.map_eq_some_iff.mp hy
        have jl : j < qs.length := by rw [← hus8.1]; exact (List.getElem?_eq_some_iff.mp ht).1
        obtain ⟨p, hp⟩ : ∃ p, qs[j]? = some p := ⟨_, List.getElem?_eq_getElem jl⟩
        have htp := hus8.2 j t p ht hp
        have fewj : (dirL (qs.take j) i).length < 4900 := Nat.lt_of_le_of_lt (dirL_few _ _) (by rw [List.length_take]; omega)
        refine ⟨t, _, rfl, SqT.of (s10 _ _ (s9 _ _ htp)), rfl, _, _, rfl, _, _, rfl, rfl, rfl, ?_⟩
        refine ⟨_, rfl, _, rfl, rfl, _, rfl, ?_⟩
        refine ite2 (fun he => ?_) (fun hne => ?_)
        · have e : p.1 = i := by
            have z := of_decide_eq_true he
            injection z with z
            omega
          refine ⟨_, rfl, _, h10, by rw [nL_len, sizeLine_eq]; omega, ?_, same_upd s10 hD4⟩
          rw [upd_same, dirL_more hp, if_pos e, nL_app]; rfl
        · have ne : ¬ p.1 = i := fun z => hne (decide_eq_true (by rw [z]))
          refine ⟨?_, s10⟩
          rw [h10, dirL_more hp, if_neg ne, List.append_nil]
      · rintro H10 ⟨h10, s10⟩
        have e : ys.length = qs.length := by rw [eys, List.length_map, hus8.1]
        rw [e, List.take_length] at h10
        exact c9.more hD3 s10 (fun z => by rw [z, hD9] at hD4; cases hD4) h10 (by omega)
    rintro H9 c9
    have rowsD := c9.rowsF
    have s9 := c9.same
    refine ⟨_, rfl, x, C, dx, _, rfl, s9 _ _ hx8, T.cl, T.nDirect, by omega, ?_⟩
    generalize hf10 : putF "_direct" (.ref D3) fs8 = fs10
    have lk10 : fs10.length ≤ 6 := by rw [← hf10]; exact put_few lk8
    have ben10 : fs10.lookup ("_beneath" : Str) = some (.ref be) := by rw [← hf10, lk_ne _ _ (by decide +kernel)]; exact ben8
    have cnt10 : fs10.lookup ("count" : Str) = some (.int n) := by rw [← hf10, lk_ne _ _ (by decide +kernel)]; exact cnt8
    have hue10 : fs10.lookup ("hues" : Str) = some (.int h) := by rw [← hf10, lk_ne _ _ (by decide +kernel)]; exact hue8
    have ord10 : fs10.lookup ("order" : Str) = Option.none := by rw [← hf10, lk_ne _ _ (by decide +kernel)]; exact ord8
    have bnt10 : fs10.lookup ("beneath" : Str) = Option.none := by rw [← hf10, lk_ne _ _ (by decide +kernel)]; exact bnt8
    have abv10 : fs10.lookup ("_above" : Str) = some (.ref D) := by rw [← hf10, lk_ne _ _ (by decide +kernel)]; exact abv8
    have dir10 : fs10.lookup ("_direct" : Str) = some (.ref D3) := by rw [← hf10, lk_same]
    have wir10 : fs10.lookup ("wires" : Str) = some (.ref l) := by rw [← hf10, lk_ne _ _ (by decide +kernel)]; exact wir8
    have mth10 : ∀ m ∈ mNames, fs10.lookup m = Option.none := fun m hm => by rw [← hf10, lk_ne _ _ (mN hm (by decide +kernel))]; exact mth8 m hm
    have rowsD10 : Rows (upd H9 x (.ins C dx fs10)) D3 ((List.range n).map (dirL qs)) := SB.rows ((SB.refl x H9).upd) (s9 _ _ hx8) rowsD
    have hl10 : (upd H9 x (.ins C dx fs10)) l = some (.tup ys) := by rw [upd_ne nlx]; exact s9 _ _ hl8
    have hus10 : Pairs (upd H9 x (.ins C dx fs10)) us qs := ⟨hus8.1, fun i t p e1 e2 => by rw [upd_ne (ne_of (hus8.2 i t p e1 e2) hx8 (by intro z; cases z))]; exact s9 _ _ (hus8.2 i t p e1 e2)⟩
    have sb10 : SB x H (upd H9 x (.ins C dx fs10)) := (sb8.trans (SB.of s9)).upd
    have rows10 : Rows (upd H9 x (.ins C dx fs10)) be (relRows n (relOf ps)) := SB.rows ((SB.refl x H9).upd) (s9 _ _ hx8) (rows8.same s9)
    have rowsA10 : Rows (upd H9 x (.ins C dx fs10)) D (relRows n (flip (relOf ps))) := SB.rows ((SB.refl x H9).upd) (s9 _ _ hx8) (rowsA8.same s9)
    have hx10 : (upd H9 x (.ins C dx fs10)) x = some (.ins C dx fs10) := upd_same
    generalize upd H9 x (.ins C dx fs10) = H10 at sb10 rows10 rowsA10 hx10 rowsD10 hl10 hus10 ⊢
    -- self._order
    refine ⟨_, rfl, x, C, dx, _, _, rfl, hx10, T.cl, T.nAbove, abv10, D, n, relOf ps, rfl, n16, relOf_ranked rank, rowsA10, fun H11 o s11 no ho => ?_⟩
    refine ⟨_, rfl, x, C, dx, _, rfl, s11 _ _ hx10, T.cl, T.nOrder, by omega, ?_⟩
    have nox : o ≠ x := ne_of ho (s11 _ _ hx10) (by intro z; cases z)
    refine q _ (sb10.trans (SB.of s11)).upd ⟨dx, _, be, o, upd_same, ?_, ?_, ?_, SB.rows ((SB.refl x H11).upd) (s11 _ _ hx10) (rows10.same s11), ?_, by rw [upd_ne nox]; exact ho, ?_, ?_⟩ ⟨dx, _, D, D3, l, us, qs, upd_same, ?_, SB.rows ((SB.refl x H11).upd) (s11 _ _ hx10) (rowsA10.same s11), ?_, SB.rows ((SB.refl x H11).upd) (s11 _ _ hx10) (rowsD10.same s11), ?_, by rw [upd_ne nlx, ← eys]; exact s11 _ _ hl10, ⟨hus10.1, fun i t p e1 e2 => by rw [upd_ne (ne_of (hus10.2 i t p e1 e2) hx10 (by intro z; cases z))]; exact s11 _ _ (hus10.2 i t p e1 e2)⟩, pqs, fun m hm => ?_⟩
    · rw [lk_ne _ _ (by decide +kernel)]; exact cnt10
    · rw [lk_ne _ _ (by decide +kernel)]; exact hue10
    · rw [lk_ne _ _ (by decide +kernel)]; exact ben10
    · rw [lk_same]
    · rw [lk_ne _ _ (by decide +kernel)]; exact ord10
    · rw [lk_ne _ _ (by decide +kernel)]; exact bnt10
    · rw [lk_ne _ _ (by decide +kernel)]; exact abv10
    · rw [lk_ne _ _ (by decide +kernel)]; exact dir10
    · rw [lk_ne _ _ (by decide +kernel)]; exact wir10
    · rw [lk_ne _ _ (mN hm (by decide +kernel))]; exact mth10 m hm
end
end Hue

end
section
set_option maxRecDepth 100000
set_option maxHeartbeats 4000000
namespace Hue
open PySem PySem.Spec PyProof.Rows L2
section
variable {P : Program} {w : World} {K : PySem.W.Frag} {mg : Str → Option Value} {base : Heap} {C : Addr}
/-! ### the box of draws -/
def bx5 (ga la : Addr) (i1 i2 i3 : Int) : List V := [.ref ga, .int i1, .int i2, .int i3, .ref la]
/-- the box at b, with its two lists -/
structure Bx (H : Hp) (b ga la : Addr) : Prop where
  nga : ga ≠ b
  nla : la ≠ b
  ex : ∃ (gs ls : List Int) (i1 i2 i3 : Int), H b = some (.lst (bx5 ga la i1 i2 i3)) ∧ H ga = some (.lst (gs.map V.int)) ∧ H la = some (.lst (ls.map V.int)) ∧ (∀ z ∈ gs, 0 ≤ z) ∧ 0 ≤ i1 ∧ 0 ≤ i2 ∧ gs.length ≤ 63 ∧ ls.length ≤ 63
namespace Bx
variable {H H' : Hp} {b ga la a : Addr} {o : HO}
theorem same (h : Bx H b ga la) (s : Same H H') : Bx H' b ga la := by
  obtain ⟨n1, n2, gs, ls, i1, i2, i3, e, g, l, r⟩ := h
  exact ⟨n1, n2, gs, ls, i1, i2, i3, s _ _ e, s _ _ g, s _ _ l, r⟩
theorem upd (h : Bx H b ga la) (n : a ≠ b) (m : a ≠ ga) (k : a ≠ la) : Bx (upd H a o) b ga la := by
  obtain ⟨n1, n2, gs, ls, i1, i2, i3, e, g, l, r⟩ := h
  exact ⟨n1, n2, gs, ls, i1, i2, i3, by rw [upd_ne n.symm]; exact e, by rw [upd_ne m.symm]; exact g, by rw [upd_ne k.symm]; exact l, r⟩
theorem new (h : Bx H b ga la) (n : H a = Option.none) : a ≠ b ∧ a ≠ ga ∧ a ≠ la := by
  obtain ⟨n1, n2, gs, ls, i1, i2, i3, e, g, l, r⟩ := h
  exact ⟨(ne_of_none e n).symm, (ne_of_none g n).symm, (ne_of_none l n).symm⟩
theorem at' (h : Bx H b ga la) : ∃ xs, H b = some (.lst xs) := let ⟨_, _, _, _, _, _, _, e, _⟩ := h; ⟨_, e⟩
end Bx
/-- what stood in H0, where the box was not, stands still -/
theorem SB.past {H0 H H' : Hp} {b : Addr} (s : Same H0 H) (n : H0 b = Option.none) (t : SB b H H') : Same H0 H' := fun a o e => t a o (ne_of_none e n) (s a o e)
theorem mod_nat {i : Int} {m : Nat} (hm : 1 ≤ m) : ∃ d : Nat, d < m ∧ i % (m : Int) = (d : Int) := by
  have h1 := Int.emod_nonneg i (by omega : (m : Int) ≠ 0)
  have h2 := Int.emod_lt_of_pos i (by omega : (0 : Int) < m)
  exact ⟨(i % (m : Int)).toNat, by omega, by omega⟩
theorem rem_small (x : Int) {m : Int} (m0 : 0 < m) (m1 : m ≤ 4294967296) : -(2 ^ 64) < x % m ∧ x % m < 2 ^ 64 := by
  have h1 := Int.emod_nonneg x (by omega : m ≠ 0)
  have h2 := Int.emod_lt_of_pos x m0
  omega
theorem Same.sqL {K : PySem.W.Frag} {H H' : Hp} {a : Addr} {xs : List V} (e : Same H H') (h : SqL K H a xs) : SqL K H' a xs := by
  rcases h with (h | ⟨o, h⟩) | h
  · exact .inl (.inl (e _ _ h))
  · exact .inl (.inr ⟨o, e _ _ h⟩)
  · exact .inr h
theorem cut_front {α : Type} {xs : List V} {l : List α} {g : α → V} (e : xs = l.map g) (k : Nat) : cutV xs none (some (k : Int)) = (l.take k).map g := by
  unfold cutV
  rw [HT.sIx_none, HT.sIx_nat, e, List.length_map, List.drop_zero, Nat.sub_zero, ← List.map_take]
  congr 1
  rcases Nat.lt_or_ge k l.length with h | h
  · rw [Nat.min_eq_left (by omega)]
  · rw [Nat.min_eq_right h, List.take_length, List.take_of_length_le h]
abbrev s__law_box : Stmt := top 22
theorem sc__law_box : FnScope ["script", "great", "cell", "lesser"] ["script"] (defScope s__law_box) := ⟨rfl, rfl, rfl, by decide +kernel, rfl, by decide +kernel, by decide +kernel⟩
-- slots of _law_box: 0 script, 1 great, 2 cell, 3 lesser
def spBox (K : PySem.W.Frag) : Sp := fun vs H Q _ => ∃ (a : Addr) (ns : List Int), vs = [.ref a] ∧ SqL K H a (ns.map V.int) ∧ ns.length ≤ 63 ∧ ∀ (H' : Hp) (b ga la : Addr), Same H H' → H b = Option.none → H ga = Option.none → H la = Option.none → Bx H' b ga la → Q (.ref b) H'
theorem filt_more {α : Type} (f : α → Bool) (l : List α) (i : Nat) {z : α} (h : l[i]? = some z) : (l.take (i + 1)).filter f = (l.take i).filter f ++ (if f z = true then [z] else []) := by
  rw [List.take_add_one, h, List.filter_append]
  show _ ++ List.filter f [z] = _
  rw [List.filter_cons]
  rfl
theorem ok__law_box (T : Txt K mg C) {f : Addr} {fd : FuncData} (F : Fun K "_law_box" "_law_box" s__law_box f fd) : FnOk P w K mg base CX0 1 f fd ["script"] (spBox K) := by
  refine F.ok sc__law_box (fun vs H Q E h => ?_) (fun cdv A outer s H vs Q E hr h => ?_)
  · obtain ⟨a, ns, rfl, _⟩ := h; rfl
  · obtain ⟨a, ns, rfl, ha, few, q⟩ := h
    refine ⟨_, (pss_cons (ps_setLc (i := 1) (own := [("cell", 2)]) (g := gName 2) rfl sc__law_box.nd rfl rfl (sw_true rfl rfl rfl (by kernel_rfl)) (pil_ K (pv 0)) (blkOk_by (by kernel_rfl)) (fun _ _ _ _ _ => (pg_name (i := 2) sc__law_box.nd rfl (by first | exact Or.inl rfl | exact Or.inr rfl))) (fun _ _ _ _ _ => (pts_one (pt_cmpR op_ge (pv 2) (pe_op op_pow pe_int pe_int) (nomark _)))) (fun _ _ _ _ _ => (pv 2)))
      (pss_cons (ps_setLc (i := 3) (own := [("cell", 2)]) (g := gName 2) rfl sc__law_box.nd rfl rfl (sw_true rfl rfl rfl (by kernel_rfl)) (pil_ K (pv 0)) (blkOk_by (by kernel_rfl)) (fun _ _ _ _ _ => (pg_name (i := 2) sc__law_box.nd rfl (by first | exact Or.inl rfl | exact Or.inr rfl))) (fun _ _ _ _ _ => (pts_one (pt_cmpR op_lt (pv 2) (pe_op op_pow pe_int pe_int) (nomark _)))) (fun _ _ _ _ _ => (pv 2)))
      (pss_one (ps_ret (pe_lst (pa_cons (pe_slice (slL_ K) (pv 1) po_none (po_some pe_int)) (pa_cons pe_int (pa_cons pe_int (pa_cons pe_int (pa_cons (pe_slice (slL_ K) (pv 3) po_none (po_some pe_int)) pa_nil)))))))))), ?_⟩
    refine ⟨_, rfl, a, rfl, ⟨_, ha⟩, fun D hD => ?_⟩
    refine lc_list (xs := ns.map V.int) (fun i H3 => H3 D = some (.lst (((ns.take i).filter fun z => decide ((10 : Int) ^ 18 ≤ z)).map V.int)) ∧ Same H H3) ⟨upd_same, same_new hD⟩ (fun i H3 _ ⟨_, s⟩ => Same.sqL s ha) ?_ ?_
    · rintro i x H3 hx ⟨h3, s3⟩
      rw [List.getElem?_map] at hx
      obtain ⟨z, hz, rfl⟩ := Option.map_eq_some_iff.mp hx
      have few' : ((ns.take i).filter fun z => decide ((10 : Int) ^ 18 ≤ z)).length ≤ i := Nat.le_trans (List.length_filter_le _ _) (List.length_take_le _ _)
      have ilt : i < ns.length := (List.getElem?_eq_some_iff.mp hz).1
      refine ⟨rfl, _, rfl, _, _, rfl, rfl, ⟨by decide, by decide, by decide⟩, _, _, rfl, rfl, _, rfl, ?_⟩
      refine ite2 (fun hy => ?_) (fun hn => ?_)
      · have hy : decide ((10 : Int) ^ 18 ≤ z) = true := hy
        refine ⟨_, rfl, _, h3, by rw [List.length_map, sizeLine_eq]; omega, ?_, same_upd s3 hD⟩
        rw [upd_same, filt_more _ _ _ hz, if_pos hy, List.map_append]; rfl
      · have hn : ¬ decide ((10 : Int) ^ 18 ≤ z) = true := hn
        refine ⟨?_, s3⟩
        rw [h3, filt_more _ _ _ hz, if_neg hn, List.append_nil]
    rintro H3 ⟨h3, s3⟩
    rw [List.length_map, List.take_length] at h3
    obtain ⟨gs, egs⟩ : ∃ gs, (ns.filter fun z => decide ((10 : Int) ^ 18 ≤ z)) = gs := ⟨_, rfl⟩
    have g0 : ∀ z ∈ gs, (0 : Int) ≤ z := fun z hz => by
      rw [← egs] at hz
      have := of_decide_eq_true (List.mem_filter.mp hz).2
      exact Int.le_trans (by decide) this
    rw [egs] at h3
    refine ⟨_, rfl, a, rfl, ⟨_, Same.sqL s3 ha⟩, fun E1 hE => ?_⟩
    have s4 : Same H3 (upd H3 E1 (.lst [])) := same_new hE
    refine lc_list (xs := ns.map V.int) (fun i H4 => H4 E1 = some (.lst (((ns.take i).filter fun z => decide (z < (10 : Int) ^ 18)).map V.int)) ∧ Same H3 H4) ⟨upd_same, s4⟩ (fun i H4 _ ⟨_, s⟩ => Same.sqL (s3.trans s) ha) ?_ ?_
    · rintro i x H4 hx ⟨h4, s5⟩
      rw [List.getElem?_map] at hx
      obtain ⟨z, hz, rfl⟩ := Option.map_eq_some_iff.mp hx
      have few' : ((ns.take i).filter fun z => decide (z < (10 : Int) ^ 18)).length ≤ i := Nat.le_trans (List.length_filter_le _ _) (List.length_take_le _ _)
      have ilt : i < ns.length := (List.getElem?_eq_some_iff.mp hz).1
      refine ⟨rfl, _, rfl, _, _, rfl, rfl, ⟨by decide, by decide, by decide⟩, _, _, rfl, rfl, _, rfl, ?_⟩
      refine ite2 (fun hy => ?_) (fun hn => ?_)
      · have hy : decide (z < (10 : Int) ^ 18) = true := hy
        refine ⟨_, rfl, _, h4, by rw [List.length_map, sizeLine_eq]; omega, ?_, same_upd s5 hE⟩
        rw [upd_same, filt_more _ _ _ hz, if_pos hy, List.map_append]; rfl
      · have hn : ¬ decide (z < (10 : Int) ^ 18) = true := hn
        refine ⟨?_, s5⟩
        rw [h4, filt_more _ _ _ hz, if_neg hn, List.append_nil]
    rintro H4 ⟨h4, s5⟩
    rw [List.length_map, List.take_length] at h4
    obtain ⟨ls, els⟩ : ∃ ls, (ns.filter fun z => decide (z < (10 : Int) ^ 18)) = ls := ⟨_, rfl⟩
    rw [els] at h4
    have h3' := s5 _ _ h3
    have e63 : ∀ l : List Int, cutV (l.map V.int) none (some 63) = (l.take 63).map V.int := fun l => cut_front rfl 63
    have n4 : Same H H4 := s3.trans s5
    refine ⟨_, rfl, _, rfl, D, _, rfl, SqL.of h3', fun p np => ?_⟩
    rw [e63]
    have s6 : Same H4 (upd H4 p (.lst ((gs.take 63).map V.int))) := same_new np
    have hp : (upd H4 p (.lst ((gs.take 63).map V.int))) p = some (.lst ((gs.take 63).map V.int)) := upd_same
    have p0 := n4.free np
    generalize upd H4 p (.lst ((gs.take 63).map V.int)) = H5 at s6 hp ⊢
    refine ⟨_, rfl, _, rfl, E1, _, rfl, SqL.of (s6 _ _ h4), fun p2 np2 => ?_⟩
    rw [e63]
    have s7 : Same H5 (upd H5 p2 (.lst ((ls.take 63).map V.int))) := same_new np2
    have hp2 : (upd H5 p2 (.lst ((ls.take 63).map V.int))) p2 = some (.lst ((ls.take 63).map V.int)) := upd_same
    have p20 := (n4.trans s6).free np2
    generalize upd H5 p2 (.lst ((ls.take 63).map V.int)) = H6 at s7 hp2 ⊢
    refine ⟨by show 5 ≤ sizeLine; decide, fun b nb => ?_⟩
    have s8 : Same H6 (upd H6 b (.lst (bx5 p p2 0 0 0))) := same_new nb
    have n6 := (n4.trans s6).trans s7
    refine q _ b p p2 (n6.trans s8) (n6.free nb) p0 p20 ⟨ne_of_none (s7 _ _ hp) nb, ne_of_none hp2 nb, gs.take 63, ls.take 63, 0, 0, 0, upd_same, s8 _ _ (s7 _ _ hp), s8 _ _ hp2, fun z hz => g0 z (List.mem_of_mem_take hz), by decide, by decide, List.length_take_le _ _, List.length_take_le _ _⟩
abbrev s__law_take : Stmt := top 23
theorem sc__law_take : FnScope ["box", "many", "digit", "cell", "first", "second", "third"] ["box", "many"] (defScope s__law_take) := ⟨rfl, rfl, rfl, by decide +kernel, rfl, by decide +kernel, by decide +kernel⟩
-- slots of _law_take: 0 box, 1 many, 2 digit, 3 cell, 4 first, 5 second, 6 third
def spTake : Sp := fun vs H Q _ => ∃ (b ga la : Addr) (m : Nat), vs = [.ref b, .int m] ∧ 1 ≤ m ∧ m < 1000000 ∧ Bx H b ga la ∧ ∀ (d : Nat) (H' : Hp), d < m → SB b H H' → Bx H' b ga la → Q (.int d) H'
section
variable {ga la : Addr} {i1 i2 i3 : Int}
theorem b50 : atI (bx5 ga la i1 i2 i3) 0 = some (V.ref ga) := atI_nat (j := 0) rfl
theorem b51 : atI (bx5 ga la i1 i2 i3) 1 = some (V.int i1) := atI_nat (j := 1) rfl
theorem b52 : atI (bx5 ga la i1 i2 i3) 2 = some (V.int i2) := atI_nat (j := 2) rfl
theorem b53 : atI (bx5 ga la i1 i2 i3) 3 = some (V.int i3) := atI_nat (j := 3) rfl
theorem b54 : atI (bx5 ga la i1 i2 i3) 4 = some (V.ref la) := atI_nat (j := 4) rfl
theorem b5x {k : Nat} (h : k < 5) : ixN (bx5 ga la i1 i2 i3).length (k : Int) = some k := ixN_nat h
end
theorem ok__law_take (T : Txt K mg C) {f : Addr} {fd : FuncData} (F : Fun K "_law_take" "_law_take" s__law_take f fd) : FnOk P w K mg base CX0 1 f fd ["box", "many"] spTake := by
  refine F.ok sc__law_take (fun vs H Q E h => ?_) (fun cdv A outer s H vs Q E hr h => ?_)
  · obtain ⟨b, ga, la, m, rfl, _⟩ := h; rfl
  · obtain ⟨b, ga, la, m, rfl, m1, m2, ⟨nga, nla, gs, ls, i1, i2, i3, hb, hg, hl, g0, j1, j2, lg, ll⟩, q⟩ := h
    refine ⟨_, (pss_cons (ps_asg (pe_op op_add (pe_ix (ixL_ K) (pv 0) pe_int (fun _ _ => rfl)) pe_int) (pg_sub (pv 0) pe_int set_list))
      (C8.pss_cut (ps_if (PW.pt (pw_and (pt_cmpR op_eq (pe_ix (ixL_ K) (pv 0) pe_int (fun _ _ => rfl)) pe_int (nomark _)) (pw_and1 (pt_cmpR op_lt (pe_ix (ixL_ K) (pv 0) pe_int (fun _ _ => rfl)) (pe_callB (lenS_ K) (by rfl) T.len b_len (pa_cons (pe_ix (ixL_ K) (pv 0) pe_int (fun _ _ => rfl)) pa_nil)) (nomark _)))))
      (pss_cons (ps_asg (pe_ix (ixL_ K) (pe_ix (ixL_ K) (pv 0) pe_int (fun _ _ => rfl)) (pe_ix (ixL_ K) (pv 0) pe_int (fun _ _ => rfl)) (fun _ _ => rfl)) (pg_sub (pv 0) pe_int set_list))
      (pss_one (ps_asg (pe_op op_add (pe_ix (ixL_ K) (pv 0) pe_int (fun _ _ => rfl)) pe_int) (pg_sub (pv 0) pe_int set_list)))) pss_nil)
      (pss_cons (ps_if (pt_cmpR op_gt (pe_ix (ixL_ K) (pv 0) pe_int (fun _ _ => rfl)) pe_int (nomark _))
      (pss_cons (ps_set (i := 2) sc__law_take.nd rfl (by first | exact Or.inl rfl | exact Or.inr rfl) (pe_op op_mod (pe_callTy call_int1 (by rfl) T.int b_int (pa_cons (pe_ix (ixL_ K) (pv 0) pe_int (fun _ _ => rfl)) pa_nil)) (pv 1)))
      (pss_cons (ps_asg (pe_op op_fdiv (pe_ix (ixL_ K) (pv 0) pe_int (fun _ _ => rfl)) (pv 1)) (pg_sub (pv 0) pe_int set_list))
      (pss_one (ps_ret (pv 2))))) pss_nil)
      (pss_cons (ps_set (i := 3) sc__law_take.nd rfl (by first | exact Or.inl rfl | exact Or.inr rfl) pe_int)
      (C8.pss_cut (ps_if (pt_cmpR op_gt (pe_callB (lenS_ K) (by rfl) T.len b_len (pa_cons (pe_ix (ixL_ K) (pv 0) pe_int (fun _ _ => rfl)) pa_nil)) pe_int (nomark _))
      (pss_one (ps_set (i := 3) sc__law_take.nd rfl (by first | exact Or.inl rfl | exact Or.inr rfl) (pe_ix (ixL_ K) (pe_ix (ixL_ K) (pv 0) pe_int (fun _ _ => rfl)) (pe_op op_mod (pe_ix (ixL_ K) (pv 0) pe_int (fun _ _ => rfl)) (pe_callB (lenS_ K) (by rfl) T.len b_len (pa_cons (pe_ix (ixL_ K) (pv 0) pe_int (fun _ _ => rfl)) pa_nil))) (fun _ _ => rfl)))) pss_nil)
      (pss_cons (ps_set (i := 4) sc__law_take.nd rfl (by first | exact Or.inl rfl | exact Or.inr rfl) (pe_op op_mod (pe_callTy call_int1 (by rfl) T.int b_int (pa_cons (pe_op op_add (pe_op op_add (pe_op op_mul (pv 3) pe_int) (pe_op op_mul (pe_ix (ixL_ K) (pv 0) pe_int (fun _ _ => rfl)) pe_int)) pe_int) pa_nil)) pe_int))
      (pss_cons (ps_set (i := 5) sc__law_take.nd rfl (by first | exact Or.inl rfl | exact Or.inr rfl) (pe_op op_mod (pe_callTy call_int1 (by rfl) T.int b_int (pa_cons (pe_op op_add (pe_op op_add (pe_op op_fdiv (pe_op op_mul (pv 4) (pv 4)) pe_int) (pe_op op_mul (pv 4) pe_int)) (pe_op op_mul (pe_ix (ixL_ K) (pv 0) pe_int (fun _ _ => rfl)) pe_int)) pa_nil)) pe_int))
      (pss_cons (ps_set (i := 6) sc__law_take.nd rfl (by first | exact Or.inl rfl | exact Or.inr rfl) (pe_op op_mod (pe_callTy call_int1 (by rfl) T.int b_int (pa_cons (pe_op op_add (pe_op op_fdiv (pe_op op_mul (pv 5) (pv 5)) pe_int) (pv 4)) pa_nil)) pe_int))
      (pss_one (ps_ret (pe_op op_mod (pe_callTy call_int1 (by rfl) T.int b_int (pa_cons (pv 6) pa_nil)) (pv 1)))))))))))), ?_⟩
    refine ⟨_, rfl, b, _, _, _, rfl, rfl, SqL.of hb, b53, _, _, rfl, rfl, _, rfl, set_at hb (b5x (k := 3) (by decide)) fun H0 s0 h0 => ?_⟩
    have h0 : H0 b = some (.lst (bx5 ga la i1 i2 (i3 + 1))) := h0
    have hg := s0 _ _ nga hg
    have hl := s0 _ _ nla hl
    generalize i3 + 1 = i3 at h0
    refine ⟨fun σ H2 => ∃ v2 v3 v4 v5 v6 : Option V, σ = [some (.ref b), some (.int m), v2, v3, v4, v5, v6] ∧ SB b H H2 ∧ ∃ (i1 i2 : Int), H2 b = some (.lst (bx5 ga la i1 i2 i3)) ∧ H2 ga = some (.lst (gs.map V.int)) ∧ H2 la = some (.lst (ls.map V.int)) ∧ 0 ≤ i1 ∧ 0 ≤ i2, ?_, ?_⟩
    · refine ⟨_, rfl, b, _, _, _, rfl, rfl, SqL.of h0, b52, rfl, _, rfl, ?_⟩
      refine ite2 (fun hz => ?_) (fun _ => ⟨_, _, _, _, _, rfl, s0, i1, i2, h0, hg, hl, j1, j2⟩)
      refine ⟨_, rfl, b, _, _, _, rfl, rfl, SqL.of h0, b51, _, rfl, b, _, _, _, rfl, rfl, SqL.of h0, b50, ga, _, rfl, .inl (SqL.of hg), _, _, rfl, rfl, _, rfl, ?_⟩
      refine ite2 (fun hlt => ?_) (fun _ => ⟨_, _, _, _, _, rfl, s0, i1, i2, h0, hg, hl, j1, j2⟩)
      have lt : i1 < ((gs.map V.int).length : Int) := of_decide_eq_true hlt
      rw [List.length_map] at lt
      obtain ⟨k, rfl⟩ : ∃ k : Nat, i1 = (k : Int) := ⟨i1.toNat, by omega⟩
      have klt : k < gs.length := by omega
      obtain ⟨z, hz⟩ : ∃ z, gs[k]? = some z := ⟨_, List.getElem?_eq_getElem klt⟩
      have hz' : (gs.map V.int)[k]? = some (V.int z) := by rw [List.getElem?_map, hz]; rfl
      refine ⟨_, rfl, b, _, _, _, rfl, rfl, SqL.of h0, b50, _, rfl, b, _, _, _, rfl, rfl, SqL.of h0, b51, ga, _, _, _, rfl, rfl, SqL.of hg, atI_nat hz', _, rfl, set_at h0 (b5x (k := 2) (by decide)) fun H1 s1 h1 => ?_⟩
      have h1 : H1 b = some (.lst (bx5 ga la (k : Int) z i3)) := h1
      refine ⟨_, rfl, b, _, _, _, rfl, rfl, SqL.of h1, b51, _, _, rfl, rfl, _, rfl, set_at h1 (b5x (k := 1) (by decide)) fun H2 s2 h2 => ?_⟩
      exact ⟨_, _, _, _, _, rfl, (s0.trans s1).trans s2, (k : Int) + 1, z, h2, s2 _ _ nga (s1 _ _ nga hg), s2 _ _ nla (s1 _ _ nla hl), by omega, g0 z (List.mem_of_getElem? hz)⟩
    · rintro σ H2 ⟨v2, v3, v4, v5, v6, rfl, s2, i1, i2, h2, hg2, hl2, j1, j2⟩
      refine ⟨_, rfl, b, _, _, _, rfl, rfl, SqL.of h2, b52, _, _, rfl, rfl, _, rfl, ?_⟩
      refine ite2 (fun hpos => ?_) (fun _ => ?_)
      · obtain ⟨d, hd, ed⟩ := mod_nat (i := i2) m1
        refine ⟨_, rfl, b, _, _, _, rfl, rfl, SqL.of h2, b52, .inl ⟨_, rfl, _, rfl, _, _, rfl, rfl, (by show (0 : Int) < (m : Int); omega), ?_⟩⟩
        refine ⟨_, rfl, b, _, _, _, rfl, rfl, SqL.of h2, b52, _, rfl, _, _, rfl, rfl, ⟨(by show (0 : Int) < (m : Int); omega), (by show (m : Int) < 1073741824; omega)⟩, _, rfl, set_at h2 (b5x (k := 2) (by decide)) fun H3 s3 h3 => ?_⟩
        refine ⟨_, rfl, ?_⟩
        show Q (V.int (i2 % (m : Int))) H3
        rw [ed]
        exact q d H3 hd (s2.trans s3) ⟨nga, nla, gs, ls, i1, i2 / (m : Int), i3, h3, s3 _ _ nga hg2, s3 _ _ nla hl2, g0, j1, Int.ediv_nonneg j2 (by omega), lg, ll⟩
      · refine ⟨fun σ H4 => H4 = H2 ∧ ∃ c : Int, σ = [some (.ref b), some (.int m), v2, some (.int c), v4, v5, v6], ?_, ?_⟩
        · refine ⟨_, rfl, b, _, _, _, rfl, rfl, SqL.of h2, b54, la, _, rfl, .inl (SqL.of hl2), _, _, rfl, rfl, _, rfl, ?_⟩
          refine ite2 (fun hp => ?_) (fun _ => ⟨rfl, _, rfl⟩)
          have lp : (0 : Int) < ((ls.map V.int).length : Int) := of_decide_eq_true hp
          rw [List.length_map] at lp
          obtain ⟨k, hk, ek⟩ := mod_nat (i := i3) (m := ls.length) (by omega)
          obtain ⟨z, hz⟩ : ∃ z, ls[k]? = some z := ⟨_, List.getElem?_eq_getElem hk⟩
          have hz' : (ls.map V.int)[k]? = some (V.int z) := by rw [List.getElem?_map, hz]; rfl
          refine ⟨_, rfl, b, _, _, _, rfl, rfl, SqL.of h2, b54, _, rfl, b, _, _, _, rfl, rfl, SqL.of h2, b53, _, rfl, b, _, _, _, rfl, rfl, SqL.of h2, b54, la, _, rfl, .inl (SqL.of hl2), _, _, rfl, rfl, (by rw [List.length_map]; exact lp), la, _, _, _, rfl, rfl, SqL.of hl2, (by rw [List.length_map, ek]; exact atI_nat hz'), rfl, _, rfl⟩
        rintro σ H4 ⟨rfl, c, rfl⟩
        refine ⟨_, rfl, _, _, rfl, rfl, .inr ⟨by decide, by decide⟩, _, rfl, b, _, _, _, rfl, rfl, SqL.of h2, b53, _, _, rfl, rfl, .inr ⟨by decide, by decide⟩, _, _, rfl, rfl, _, _, rfl, rfl, .inl ⟨_, rfl, _, _, rfl, rfl, (by show (0 : Int) < 2147483647; decide), ?_⟩⟩
        refine ⟨_, rfl, _, rfl, _, _, rfl, rfl, .inr (rem_small _ (by decide) (by decide)), _, _, rfl, rfl, ⟨by decide, by decide⟩, _, rfl, _, _, rfl, rfl, .inr ⟨by decide, by decide⟩, _, _, rfl, rfl, _, rfl, b, _, _, _, rfl, rfl, SqL.of h2, b53, _, _, rfl, rfl, .inr ⟨by decide, by decide⟩, _, _, rfl, rfl, .inl ⟨_, rfl, _, _, rfl, rfl, (by show (0 : Int) < 2147483629; decide), ?_⟩⟩
        refine ⟨_, rfl, _, rfl, _, _, rfl, rfl, .inr (rem_small _ (by decide) (by decide)), _, _, rfl, rfl, ⟨by decide, by decide⟩, _, rfl, _, _, rfl, rfl, .inl ⟨_, rfl, _, _, rfl, rfl, (by show (0 : Int) < 2147483587; decide), ?_⟩⟩
        refine ⟨_, rfl, .inl ⟨_, rfl, _, rfl, _, _, rfl, rfl, (by show (0 : Int) < (m : Int); omega), ?_⟩⟩
        generalize _ % (2147483587 : Int) = r
        obtain ⟨d, hd, ed⟩ := mod_nat (i := r) m1
        show Q (V.int (r % (m : Int))) H4
        rw [ed]
        exact q d H4 hd s2 ⟨nga, nla, gs, ls, i1, i2, i3, h2, hg2, hl2, g0, j1, j2, lg, ll⟩
end
end Hue

end
section
set_option maxRecDepth 100000
set_option maxHeartbeats 4000000
namespace Hue
open PySem PySem.Spec PyProof.Rows L2
section
variable {P : Program} {w : World} {K : PySem.W.Frag} {mg : Str → Option Value} {base : Heap} {C : Addr}
theorem Pairs.sb {H H' : Hp} {p : Addr} {xs : List V} {ts : List Addr} {ps : List (Nat × Nat)} (h : Pairs H ts ps) (hp : H p = some (.lst xs)) (s : SB p H H') : Pairs H' ts ps :=
  ⟨h.1, fun i t q a b => s _ _ (ne_of (h.2 i t q a b) hp (by intro z; cases z)) (h.2 i t q a b)⟩
theorem none_back {H H' : Hp} {a b : Addr} (s : SB b H H') (ne : a ≠ b) (n : H' a = Option.none) : H a = Option.none := by
  cases e : H a with
  | none => rfl
  | some o => rw [s _ _ ne e] at n; cases n
theorem nL_take (l : List Nat) (k : Nat) : (nL l).take k = nL (l.take k) := by unfold nL nI; rw [← List.map_take, ← List.map_take]
theorem nL_drop (l : List Nat) (k : Nat) : (nL l).drop k = nL (l.drop k) := by unfold nL nI; rw [← List.map_drop, ← List.map_drop]
theorem rg_nL (n : Nat) : rgV 0 (n : Int) = nL (List.range n) := by
  unfold rgV nL nI
  rw [List.map_map]
  have e : ((n : Int) - 0).toNat = n := by omega
  rw [e]
  refine List.map_congr_left fun i _ => ?_
  show V.int (0 + (i : Int)) = V.int (i : Int)
  rw [Int.zero_add]
theorem seqI_nat {n k : Nat} (h : k < n) : seqIndex? (k : Int) n = some k := by
  rw [PySem.seqIndex_of (by omega) (by omega)]; rfl
/-! ### the sizes -/
abbrev s__law_sizes : Stmt := top 24
theorem sc__law_sizes : FnScope ["box", "count", "hues"] ["box"] (defScope s__law_sizes) := ⟨rfl, rfl, rfl, by decide +kernel, rfl, by decide +kernel, by decide +kernel⟩
-- slots of _law_sizes: 0 box, 1 count, 2 hues
def spSizes : Sp := fun vs H Q _ => ∃ (b ga la : Addr), vs = [.ref b] ∧ Bx H b ga la ∧ ∀ (n h : Nat) (t : Addr) (H' : Hp), 1 ≤ n → n ≤ 16 → 2 ≤ h → h ≤ 10 → SB b H H' → Bx H' b ga la → H' t = some (.tup [.int (n : Nat), .int (h : Nat)]) → Q (.ref t) H'
theorem ok__law_sizes (T : Txt K mg C) {f : Addr} {fd : FuncData} (F : Fun K "_law_sizes" "_law_sizes" s__law_sizes f fd) (c__law_take : Cal P w K mg base "_law_take" 1 spTake) : FnOk P w K mg base CX0 2 f fd ["box"] spSizes := by
  refine F.ok sc__law_sizes (fun vs H Q E h => ?_) (fun cdv A outer s H vs Q E hr h => ?_)
  · obtain ⟨b, ga, la, rfl, _⟩ := h; rfl
  · obtain ⟨b, ga, la, rfl, hb, q⟩ := h
    refine ⟨_, (pss_cons (ps_set (i := 1) sc__law_sizes.nd rfl (by first | exact Or.inl rfl | exact Or.inr rfl) (pe_op op_add pe_int (pe_cal c__law_take (hr.mono (by decide)) (pa_cons (pv 0) (pa_cons pe_int pa_nil)))))
      (C8.pss_cut (ps_if (pt_cmpR op_eq (pe_cal c__law_take (hr.mono (by decide)) (pa_cons (pv 0) (pa_cons pe_int pa_nil))) pe_int (nomark _))
      (pss_one (ps_set (i := 1) sc__law_sizes.nd rfl (by first | exact Or.inl rfl | exact Or.inr rfl) (pe_op op_add pe_int (pe_cal c__law_take (hr.mono (by decide)) (pa_cons (pv 0) (pa_cons pe_int pa_nil)))))) pss_nil)
      (pss_cons (ps_set (i := 2) sc__law_sizes.nd rfl (by first | exact Or.inl rfl | exact Or.inr rfl) (pe_op op_add pe_int (pe_cal c__law_take (hr.mono (by decide)) (pa_cons (pv 0) (pa_cons pe_int pa_nil)))))
      (C8.pss_cut (ps_if (pt_cmpR op_eq (pe_cal c__law_take (hr.mono (by decide)) (pa_cons (pv 0) (pa_cons pe_int pa_nil))) pe_int (nomark _))
      (pss_one (ps_set (i := 2) sc__law_sizes.nd rfl (by first | exact Or.inl rfl | exact Or.inr rfl) (pe_op op_add pe_int (pe_cal c__law_take (hr.mono (by decide)) (pa_cons (pv 0) (pa_cons pe_int pa_nil)))))) pss_nil)
      (pss_one (ps_ret (pe_tup (pa_cons (pv 1) (pa_cons (pv 2) pa_nil))))))))), ?_⟩
    refine ⟨_, rfl, b, ga, la, 6, rfl, by decide, by decide, hb, fun d H1 hd s1 b1 => ⟨_, _, rfl, rfl, ?_⟩⟩
    refine ⟨fun σ H2 => ∃ (i : Int) (v2 : Option V), σ = [some (.ref b), some (.int i), v2] ∧ ∃ n : Nat, i = (n : Int) ∧ 1 ≤ n ∧ n ≤ 16 ∧ SB b H H2 ∧ Bx H2 b ga la, ?_, ?_⟩
    · refine ⟨_, rfl, b, ga, la, 4, rfl, by decide, by decide, b1, fun e H2 he s2 b2 => ⟨rfl, _, rfl, ?_⟩⟩
      refine ite2 (fun _ => ?_) (fun _ => ⟨_, _, rfl, d + 1, by omega, by omega, by omega, s1.trans s2, b2⟩)
      exact ⟨_, rfl, b, ga, la, 16, rfl, by decide, by decide, b2, fun e H3 he s3 b3 => ⟨_, _, rfl, rfl, _, _, rfl, e + 1, by omega, by omega, by omega, (s1.trans s2).trans s3, b3⟩⟩
    rintro σ H2 ⟨_, v2, rfl, n, rfl, n1, n16, s2, b2⟩
    refine ⟨_, rfl, b, ga, la, 3, rfl, by decide, by decide, b2, fun d H3 hd s3 b3 => ⟨_, _, rfl, rfl, ?_⟩⟩
    refine ⟨fun σ H4 => ∃ (i : Int), σ = [some (.ref b), some (.int (n : Nat)), some (.int i)] ∧ ∃ h : Nat, i = (h : Int) ∧ 2 ≤ h ∧ h ≤ 10 ∧ SB b H H4 ∧ Bx H4 b ga la, ?_, ?_⟩
    · refine ⟨_, rfl, b, ga, la, 4, rfl, by decide, by decide, b3, fun e H4 he s4 b4 => ⟨rfl, _, rfl, ?_⟩⟩
      refine ite2 (fun _ => ?_) (fun _ => ⟨_, rfl, d + 2, by omega, by omega, by omega, (s2.trans s3).trans s4, b4⟩)
      exact ⟨_, rfl, b, ga, la, 9, rfl, by decide, by decide, b4, fun e H5 he s5 b5 => ⟨_, _, rfl, rfl, _, rfl, e + 2, by omega, by omega, by omega, ((s2.trans s3).trans s4).trans s5, b5⟩⟩
    rintro σ H4 ⟨_, rfl, h, rfl, h2, h10, s4, b4⟩
    refine ⟨_, rfl, _, rfl, by show 2 ≤ sizeLine; decide, fun t nt => ?_⟩
    exact q n h t _ n1 n16 h2 h10 (s4.trans (SB.of (same_new nt))) (b4.same (same_new nt)) upd_same
/-! ### the row of the lamps -/
def LineOk (n : Nat) (line : List Nat) : Prop := line.length = n ∧ line.Nodup ∧ ∀ k ∈ line, k < n
abbrev s__law_row : Stmt := top 25
theorem sc__law_row : FnScope ["box", "count", "left", "row", "k"] ["box", "count"] (defScope s__law_row) := ⟨rfl, rfl, rfl, by decide +kernel, rfl, by decide +kernel, by decide +kernel⟩
-- slots of _law_row: 0 box, 1 count, 2 left, 3 row, 4 k
def spRow : Sp := fun vs H Q _ => ∃ (b ga la : Addr) (n : Nat), vs = [.ref b, .int n] ∧ n ≤ 16 ∧ Bx H b ga la ∧ ∀ (line : List Nat) (t : Addr) (H' : Hp), LineOk n line → SB b H H' → Bx H' b ga la → H t = Option.none → H' t = some (.lst (nL line)) → Q (.ref t) H'
theorem ok__law_row (T : Txt K mg C) {f : Addr} {fd : FuncData} (F : Fun K "_law_row" "_law_row" s__law_row f fd) (c__law_take : Cal P w K mg base "_law_take" 1 spTake) : FnOk P w K mg base CX0 2 f fd ["box", "count"] spRow := by
  refine F.ok sc__law_row (fun vs H Q E h => ?_) (fun cdv A outer s H vs Q E hr h => ?_)
  · obtain ⟨b, ga, la, n, rfl, _⟩ := h; rfl
  · obtain ⟨b, ga, la, n, rfl, n16, hb, q⟩ := h
    refine ⟨_, (pss_cons (ps_set (i := 2) sc__law_row.nd rfl (by first | exact Or.inl rfl | exact Or.inr rfl) (pe_listRg rfl (by rfl) T.list (prg_1 (by rfl) T.range (pv 1))))
      (pss_cons (ps_set (i := 3) sc__law_row.nd rfl (by first | exact Or.inl rfl | exact Or.inr rfl) (pe_lst pa_nil))
      (pss_cons (ps_for PassesOwn.never rfl (pi_range1 (by rfl) T.range (pa_cons (pv 1) pa_nil)) (pg_name (i := 4) sc__law_row.nd rfl (by first | exact Or.inl rfl | exact Or.inr rfl))
      (pss_one (ps_expr (pe_bm PySem.F.plainAttrs_list PySem.F.slot_list_append PySem.F.type_list_append mt_append (pv 3) (pa_cons (pe_bm PySem.F.plainAttrs_list PySem.F.slot_list_pop PySem.F.type_list_pop mt_popAt (pv 2) (pa_cons (pe_cal c__law_take (hr.mono (by decide)) (pa_cons (pv 0) (pa_cons (pe_callB (lenS_ K) (by rfl) T.len b_len (pa_cons (pv 2) pa_nil)) pa_nil))) pa_nil)) pa_nil)))))
      (pss_one (ps_ret (pv 3)))))), ?_⟩
    refine ⟨_, rfl, _, rfl, RgOk.of_le (by decide) (by omega) (by decide) (by omega), fun l nl => ?_⟩
    rw [rg_nL]
    obtain ⟨lb, lg, ll⟩ := hb.new nl
    have s1 : Same H (upd H l (.lst (nL (List.range n)))) := same_new nl
    have hl1 : (upd H l (.lst (nL (List.range n)))) l = some (.lst (nL (List.range n))) := upd_same
    have b1 := hb.same s1
    generalize upd H l (.lst (nL (List.range n))) = H1 at s1 hl1 b1 ⊢
    refine ⟨by decide, fun r nr => ?_⟩
    obtain ⟨rb, rg, rl⟩ := b1.new nr
    have rnl : r ≠ l := (ne_of_none hl1 nr).symm
    have nr0 := s1.free nr
    have s2 : Same H1 (upd H1 r (.lst [])) := same_new nr
    refine ⟨_, rfl, _, rfl, by omega, by omega, ?_⟩
    rw [Int.toNat_natCast]
    refine for_range (fun i σ H2 => ∃ (v : Option V) (left row : List Nat), σ = [some (.ref b), some (.int n), some (.ref l), some (.ref r), v] ∧ SB b H H2 ∧ Bx H2 b ga la ∧ H2 l = some (.lst (nL left)) ∧ H2 r = some (.lst (nL row)) ∧ (left ++ row).Perm (List.range n) ∧ row.length = i)
      ⟨_, List.range n, [], rfl, SB.of (s1.trans s2), b1.same s2, s2 _ _ hl1, upd_same, by rw [List.append_nil], rfl⟩ ?_ ?_
    · rintro i σ H2 hi ⟨v, left, row, rfl, sb2, b2, hl2, hr2, perm, len⟩
      have tot : left.length + row.length = n := by rw [← List.length_append, perm.length_eq, List.length_range]
      refine ⟨_, rfl, .inl ⟨rfl, _, SqL.of hr2⟩, _, rfl, .inl ⟨rfl, _, SqL.of hl2⟩, _, rfl, _, rfl, l, _, rfl, .inl (SqL.of hl2), b, ga, la, left.length, by rw [nL_len], by omega, by omega, b2, fun d H3 hd s3 b3 => ?_⟩
      have hl3 := s3 _ _ lb hl2
      have hr3 := s3 _ _ rb hr2
      obtain ⟨k, hk⟩ : ∃ k, left[d]? = some k := ⟨_, List.getElem?_eq_getElem hd⟩
      refine ⟨l, nL left, (d : Int), d, V.int (k : Nat), rfl, rfl, hl3, by omega, by omega, seqI_nat (by rw [nL_len]; exact hd), nL_get hk, ?_⟩
      refine ⟨r, nL row, _, rfl, rfl, by rw [upd_ne rnl]; exact hr3, by rw [nL_len, sizeLine_eq]; omega, ?_⟩
      rw [nL_erase, ← nL_one, ← nL_app]
      refine ⟨_, left.eraseIdx d, row ++ [k], rfl, fun a o na e => ?_, (b3.upd lb lg ll).upd rb rg rl, by rw [upd_ne rnl.symm, upd_same], upd_same, ?_, by rw [List.length_append, len]; rfl⟩
      · rw [upd_ne (ne_of_none e nr0), upd_ne (ne_of_none e nl)]
        exact (sb2.trans s3) a o na e
      · have p1 : (left.eraseIdx d ++ [k]).Perm left := by
          obtain ⟨e1, e2⟩ := List.getElem?_eq_some_iff.mp hk
          have e3 : left = left.take d ++ k :: left.drop (d + 1) := by
            rw [← e2, ← List.drop_eq_getElem_cons e1, List.take_append_drop]
          rw [List.eraseIdx_eq_take_drop_succ]
          conv => rhs; rw [e3]
          rw [List.append_assoc]
          exact List.Perm.append_left _ (List.perm_append_comm (l₁ := left.drop (d + 1)) (l₂ := [k]))
        have p2 : (left.eraseIdx d ++ (row ++ [k])).Perm (left ++ row) := by
          refine (List.Perm.append_left _ List.perm_append_comm).trans ?_
          rw [← List.append_assoc]
          exact p1.append_right _
        exact p2.trans perm
    · rintro σ H2 ⟨v, left, row, rfl, sb2, b2, hl2, hr2, perm, len⟩
      have tot : left.length + row.length = n := by rw [← List.length_append, perm.length_eq, List.length_range]
      have l0 : left = [] := List.length_eq_zero_iff.mp (by omega)
      rw [l0, List.nil_append] at perm
      exact ⟨_, rfl, q row r H2 ⟨len, perm.nodup_iff.mpr List.nodup_range, fun k hk => List.mem_range.mp (perm.mem_iff.mp hk)⟩ sb2 b2 nr0 hr2⟩
/-! ### the wires -/
/-- the pairs lead down the line, all drawn before (lo, hi) -/
def DownI (line : List Nat) (lo hi : Nat) (ps : List (Nat × Nat)) : Prop := ∀ p ∈ ps, ∃ h l, h < l ∧ (l < lo ∨ (l = lo ∧ h < hi)) ∧ line[h]? = some p.1 ∧ line[l]? = some p.2
def Down (line : List Nat) (ps : List (Nat × Nat)) : Prop := ∀ p ∈ ps, ∃ h l : Nat, h < l ∧ line[h]? = some p.1 ∧ line[l]? = some p.2
def Tri : Nat → Nat
  | 0 => 0
  | k + 1 => Tri k + k
theorem tri16 : ∀ n, n ≤ 16 → Tri n < 121 := by decide
theorem tri_mono {a b : Nat} (h : a ≤ b) : Tri a ≤ Tri b := by
  induction h with
  | refl => exact Nat.le_refl _
  | step _ ih => exact Nat.le_trans ih (Nat.le_add_right _ _)
theorem nodup_at {l : List Nat} (nd : l.Nodup) {i j k : Nat} (h1 : l[i]? = some k) (h2 : l[j]? = some k) : i = j := by
  obtain ⟨a1, a2⟩ := List.getElem?_eq_some_iff.mp h1
  obtain ⟨b1, b2⟩ := List.getElem?_eq_some_iff.mp h2
  rcases Nat.lt_trichotomy i j with h | h | h
  · exact absurd (a2.trans b2.symm) (List.pairwise_iff_getElem.mp nd i j a1 b1 h)
  · exact h
  · exact absurd (b2.trans a2.symm) (List.pairwise_iff_getElem.mp nd j i b1 a1 h)
theorem Pairs.app {H : Hp} {as bs : List Addr} {ps qs : List (Nat × Nat)} (h : Pairs H as ps) (g : Pairs H bs qs) : Pairs H (as ++ bs) (ps ++ qs) := by
  refine ⟨by rw [List.length_append, List.length_append, h.1, g.1], fun i t p e1 e2 => ?_⟩
  rcases Nat.lt_or_ge i as.length with lt | ge
  · rw [List.getElem?_append_left lt] at e1
    rw [List.getElem?_append_left (by rw [← h.1]; exact lt)] at e2
    exact h.2 i t p e1 e2
  · rw [List.getElem?_append_right ge] at e1
    rw [List.getElem?_append_right (by rw [← h.1]; exact ge), ← h.1] at e2
    exact g.2 _ t p e1 e2
theorem Pairs.take {H : Hp} {as : List Addr} {ps : List (Nat × Nat)} (h : Pairs H as ps) (d : Nat) : Pairs H (as.take d) (ps.take d) := by
  refine ⟨by rw [List.length_take, List.length_take, h.1], fun i t p e1 e2 => ?_⟩
  rw [List.getElem?_take] at e1 e2
  split at e1
  · rw [if_pos (by assumption)] at e2
    exact h.2 i t p e1 e2
  · cases e1
theorem Pairs.drop {H : Hp} {as : List Addr} {ps : List (Nat × Nat)} (h : Pairs H as ps) (d : Nat) : Pairs H (as.drop d) (ps.drop d) := by
  refine ⟨by rw [List.length_drop, List.length_drop, h.1], fun i t p e1 e2 => ?_⟩
  rw [List.getElem?_drop] at e1 e2
  exact h.2 _ t p e1 e2
theorem Pairs.one {H : Hp} {t : Addr} {p : Nat × Nat} (h : H t = some (.tup [.int (p.1 : Int), .int (p.2 : Int)])) : Pairs H [t] [p] := by
  refine ⟨rfl, fun i t' p' e1 e2 => ?_⟩
  match i with
  | 0 => cases e1; cases e2; exact h
  | i + 1 => cases e1
/-- the wires so far -/
structure WBox (H0 H : Hp) (b ga la wz : Addr) (line : List Nat) (lo hi : Nat) : Prop where
  sb : SB b H0 H
  box : Bx H b ga la
  ne : wz ≠ b
  ng : wz ≠ ga
  nl : wz ≠ la
  new : H0 wz = Option.none
  ex : ∃ (ts : List Addr) (ps : List (Nat × Nat)), H wz = some (.lst (ts.map V.ref)) ∧ Pairs H ts ps ∧ DownI line lo hi ps ∧ ps.Nodup ∧ ps.length ≤ Tri lo + hi
namespace WBox
variable {H0 H H' : Hp} {b ga la wz : Addr} {line : List Nat} {lo hi : Nat}
theorem draw (h : WBox H0 H b ga la wz line lo hi) (s : SB b H H') (box : Bx H' b ga la) : WBox H0 H' b ga la wz line lo hi := by
  obtain ⟨xs, hp⟩ := h.box.at'
  obtain ⟨ts, ps, a, c, r⟩ := h.ex
  exact ⟨h.sb.trans s, box, h.ne, h.ng, h.nl, h.new, ts, ps, s _ _ h.ne a, c.sb hp s, r⟩
theorem row (h : WBox H0 H b ga la wz line lo hi) (le : hi ≤ lo) : WBox H0 H b ga la wz line (lo + 1) 0 := by
  obtain ⟨ts, ps, a, b, c, d, e⟩ := h.ex
  refine ⟨h.sb, h.box, h.ne, h.ng, h.nl, h.new, ts, ps, a, b, fun q hq => ?_, d, ?_⟩
  · obtain ⟨x, y, h1, h2, h3⟩ := c q hq
    exact ⟨x, y, h1, by omega, h3⟩
  · show ps.length ≤ Tri lo + lo + 0
    omega
theorem upto (h : WBox H0 H b ga la wz line lo hi) {hj : Nat} (le : hi ≤ hj) : WBox H0 H b ga la wz line lo hj := by
  obtain ⟨ts, ps, a, b, c, d, e⟩ := h.ex
  refine ⟨h.sb, h.box, h.ne, h.ng, h.nl, h.new, ts, ps, a, b, fun q hq => ?_, d, by omega⟩
  obtain ⟨x, y, h1, h2, h3⟩ := c q hq
  exact ⟨x, y, h1, by omega, h3⟩
/-- one more at the place d -/
theorem ins (W : WBox H0 H b ga la wz line lo hi) (lnd : line.Nodup) {k1 k2 : Nat} (lt : hi < lo) (hk1 : line[hi]? = some k1) (hk2 : line[lo]? = some k2) {t : Addr} (nt : H t = Option.none) {ts : List Addr} {ps : List (Nat × Nat)} (d : Nat)
    (hw : H wz = some (.lst (ts.map V.ref))) (hps : Pairs H ts ps) (dn : DownI line lo hi ps) (nd : ps.Nodup) (len : ps.length ≤ Tri lo + hi) :
    WBox H0 (L2.upd (L2.upd H t (.tup [.int (k1 : Int), .int (k2 : Int)])) wz (.lst ((ts.map V.ref).take d ++ [V.ref t] ++ (ts.map V.ref).drop d))) b ga la wz line lo (hi + 1) := by
  have s11 : Same H (L2.upd H t (.tup [.int (k1 : Int), .int (k2 : Int)])) := same_new nt
  have nwt : t ≠ wz := (ne_of_none hw nt).symm
  have perm : (ps.take d ++ ([(k1, k2)] ++ ps.drop d)).Perm ((k1, k2) :: ps) := by
    have h := List.perm_middle (a := (k1, k2)) (l₁ := ps.take d) (l₂ := ps.drop d)
    rw [List.take_append_drop] at h
    exact h
  have keep : ∀ (as : List Addr) (qs : List (Nat × Nat)), Pairs (L2.upd H t (.tup [.int (k1 : Int), .int (k2 : Int)])) as qs → Pairs (L2.upd (L2.upd H t (.tup [.int (k1 : Int), .int (k2 : Int)])) wz (.lst ((ts.map V.ref).take d ++ [V.ref t] ++ (ts.map V.ref).drop d))) as qs := fun as qs h =>
    h.sb (s11 _ _ hw) fun c o n e => by rw [upd_ne n]; exact e
  refine ⟨fun c o nb e => ?_, (W.box.same s11).upd W.ne W.ng W.nl, W.ne, W.ng, W.nl, W.new, ts.take d ++ ([t] ++ ts.drop d), ps.take d ++ ([(k1, k2)] ++ ps.drop d), ?_, ?_, ?_, ?_, ?_⟩
  · rw [upd_ne (ne_of_none e W.new)]
    exact s11 _ _ (W.sb c o nb e)
  · rw [upd_same, List.map_append, List.map_append, List.map_take, List.map_drop, List.append_assoc]; rfl
  · exact keep _ _ (((hps.same s11).take d).app ((Pairs.one (p := (k1, k2)) upd_same).app ((hps.same s11).drop d)))
  · intro r hr
    rcases List.mem_cons.mp (perm.mem_iff.mp hr) with hr | hr
    · rw [hr]
      exact ⟨hi, lo, lt, .inr ⟨rfl, Nat.lt_succ_self _⟩, hk1, hk2⟩
    · obtain ⟨x, y, h1, h2, h3⟩ := dn r hr
      exact ⟨x, y, h1, by omega, h3⟩
  · rw [perm.nodup_iff, List.nodup_cons]
    refine ⟨fun hr => ?_, nd⟩
    obtain ⟨x, y, h1, h2, h3, h4⟩ := dn _ hr
    have e1 := nodup_at lnd h3 hk1
    have e2 := nodup_at lnd h4 hk2
    omega
  · rw [perm.length_eq, List.length_cons]; omega
end WBox
end
end Hue

end
section
set_option maxRecDepth 100000
set_option maxHeartbeats 4000000
namespace Hue
open PySem PySem.Spec PyProof.Rows L2
section
variable {P : Program} {w : World} {K : PySem.W.Frag} {mg : Str → Option Value} {base : Heap} {C : Addr}
/-! ### numbers -/
abbrev s__law_number : Stmt := top 35
theorem sc__law_number : FnScope ["told", "due"] ["told", "due"] (defScope s__law_number) := ⟨rfl, rfl, rfl, by decide +kernel, rfl, by decide +kernel, by decide +kernel⟩
-- slots of _law_number: 0 told, 1 due
def spNumber : Sp := fun vs H Q _ => ∃ i : Int, vs = [.int i, .int i] ∧ Q (.bl true) H
theorem ok__law_number (T : Txt K mg C) {f : Addr} {fd : FuncData} (F : Fun K "_law_number" "_law_number" s__law_number f fd) : FnOk P w K mg base CX0 1 f fd ["told", "due"] spNumber := by
  refine F.ok sc__law_number (fun vs H Q E h => ?_) (fun cdv A outer s H vs Q E hr h => ?_)
  · obtain ⟨i, rfl, _⟩ := h; rfl
  · obtain ⟨i, rfl, q⟩ := h
    refine ⟨_, (pss_one (ps_ret (pe_and (pe_callB (isi_ K) (by rfl) T.isinstance b_isinstance (pa_cons (pv 0) (pa_cons (pe_bltn (v := .ty "int") (by rfl) T.int b_int rfl) pa_nil))) (pe_and (pe_not (pe_callB (isi_ K) (by rfl) T.isinstance b_isinstance (pa_cons (pv 0) (pa_cons (pe_bltn (v := .ty "bool") (by rfl) T.bool b_bool rfl) pa_nil)))) (pe_one (pe_cmpR op_eq (pv 0) (pv 1) (nomark _))))))), ?_⟩
    refine ⟨_, rfl, _, _, _, _, true, rfl, .ty _, .base (.int i), kit_ty (by decide +kernel), true, rfl, iteT ?_⟩
    refine ⟨_, rfl, _, _, _, _, false, rfl, .ty _, .base (.int i), kit_ty (by decide +kernel), false, rfl, true, rfl, iteT ?_⟩
    refine ⟨_, rfl, _, rfl, rfl, ?_⟩
    show Q (.bl (decide (V.int i = V.int i))) H
    rw [decide_eq_true rfl]
    exact q
/-! ### odd values stand while the box is drawn from -/
theorem Bx.leaf {H : Hp} {b ga la : Addr} (h : Bx H b ga la) {t : Addr} {xs : List V} {ds : List PyData} (ht : H t = some (.lst xs)) (a : All2 Lf xs ds) : t ≠ b := fun z => by
  obtain ⟨_, _, gs, ls, i1, i2, i3, e, _⟩ := h
  rw [z, e] at ht
  injection ht with ht
  injection ht with ht
  rw [← ht] at a
  cases a with
  | cons l r => cases l
theorem Bx.neT {H : Hp} {b ga la : Addr} (h : Bx H b ga la) {t : Addr} {xs : List V} (ht : H t = some (.tup xs)) : t ≠ b := fun z => by
  obtain ⟨_, _, gs, ls, i1, i2, i3, e, _⟩ := h
  rw [z, e] at ht
  injection ht with ht
  cases ht
theorem Lf1.sb {H H' : Hp} {b ga la : Addr} {v : V} {d : PyData} (o : Lf1 H v d) (hb : Bx H b ga la) (s : SB b H H') : Lf1 H' v d := by
  cases o with
  | lf l => exact .lf l
  | tup h a l => exact .tup (s _ _ (hb.neT h) h) a l
  | lst h a l => exact .lst (s _ _ (hb.leaf h a) h) a l
theorem Lf2.sb {H H' : Hp} {b ga la : Addr} {v : V} {d : PyData} (o : Lf2 H v d) (hb : Bx H b ga la) (s : SB b H H') : Lf2 H' v d := by
  cases o with
  | lf l => exact .lf l
  | tup h a l => exact .tup (s _ _ (hb.neT h) h) (a.imp fun _ _ z => z.sb hb s) l
  | lst h a l => exact .lst (s _ _ (hb.leaf h a) h) a l
theorem lfI {i : Int} (h1 : -1000 < i) (h2 : i < 1000000000000000000000000) : Lf (.int i) (.int i) := .int i (by
  have e : (10 : Nat) ^ 38 = 100000000000000000000000000000000000000 := by decide
  omega)
theorem lfS : ∀ k : Nat, k < 100 → PyData.leavesShort 40 (.str (toString (k : Int))) = true ∧ (Str.ofString (toString (k : Int))).cps.size ≤ 100 := by decide +kernel
theorem lf_one {H : Hp} {t : Addr} {v : V} {d : PyData} (h : H t = some (.tup [v])) (a : Lf1 H v d) : Lf2 H (.ref t) (.tuple [d]) := .tup h (.cons a .nil) (by show 1 ≤ 3; decide)
theorem lf_two {H : Hp} {t : Addr} {v u : V} {d e : PyData} (h : H t = some (.tup [v, u])) (a : Lf1 H v d) (c : Lf1 H u e) : Lf2 H (.ref t) (.tuple [d, e]) := .tup h (.cons a (.cons c .nil)) (by show 2 ≤ 3; decide)
abbrev s__law_odd : Stmt := top 26
theorem sc__law_odd : FnScope ["box", "least", "most", "way", "near"] ["box", "least", "most"] (defScope s__law_odd) := ⟨rfl, rfl, rfl, by decide +kernel, rfl, by decide +kernel, by decide +kernel⟩
-- slots of _law_odd: 0 box, 1 least, 2 most, 3 way, 4 near
def spOdd : Sp := fun vs H Q _ => ∃ (b ga la : Addr) (lo hi : Nat), vs = [.ref b, .int lo, .int hi] ∧ 1 ≤ lo ∧ lo ≤ 2 ∧ 10 ≤ hi ∧ hi ≤ 16 ∧ Bx H b ga la ∧ ∀ (v : V) (d : PyData) (H' : Hp), SB b H H' → Bx H' b ga la → Lf2 H' v d → inB lo hi d = false → Q v H'
theorem inB_out {i lo hi : Int} (h : i < lo ∨ hi < i) : inB lo hi (.int i) = false := by
  show (decide (lo ≤ i) && decide (i ≤ hi)) = false
  rw [Bool.and_eq_false_iff, decide_eq_false_iff_not, decide_eq_false_iff_not]
  omega
theorem ok__law_odd (T : Txt K mg C) {f : Addr} {fd : FuncData} (F : Fun K "_law_odd" "_law_odd" s__law_odd f fd) (c__law_take : Cal P w K mg base "_law_take" 1 spTake) : FnOk P w K mg base CX0 2 f fd ["box", "least", "most"] spOdd := by
  refine F.ok sc__law_odd (fun vs H Q E h => ?_) (fun cdv A outer s H vs Q E hr h => ?_)
  · obtain ⟨b, ga, la, lo, hi, rfl, _⟩ := h; rfl
  · obtain ⟨b, ga, la, lo, hi, rfl, l1, l2, m1, m2, hb, q⟩ := h
    refine ⟨_, (pss_cons (ps_set (i := 3) sc__law_odd.nd rfl (by first | exact Or.inl rfl | exact Or.inr rfl) (pe_cal c__law_take (hr.mono (by decide)) (pa_cons (pv 0) (pa_cons pe_int pa_nil))))
      (pss_cons (ps_set (i := 4) sc__law_odd.nd rfl (by first | exact Or.inl rfl | exact Or.inr rfl) (pe_cal c__law_take (hr.mono (by decide)) (pa_cons (pv 0) (pa_cons pe_int pa_nil))))
      (pss_cons (ps_if (pt_cmpR op_eq (pv 3) pe_int (nomark _))
      (pss_one (ps_ret (pe_op op_sub (pv 1) pe_int))) pss_nil)
      (pss_cons (ps_if (pt_cmpR op_eq (pv 3) pe_int (nomark _))
      (pss_one (ps_ret (pe_op op_add (pv 2) pe_int))) pss_nil)
      (pss_cons (ps_if (pt_cmpR op_eq (pv 3) pe_int (nomark _))
      (pss_one (ps_ret (pe_un un_neg (pv 4)))) pss_nil)
      (pss_cons (ps_if (pt_cmpR op_eq (pv 3) pe_int (nomark _))
      (pss_one (ps_ret (pe_cmpR op_eq (pe_op op_mod (pv 4) pe_int) pe_int (nomark _)))) pss_nil)
      (pss_cons (ps_if (pt_cmpR op_eq (pv 3) pe_int (nomark _))
      (pss_one (ps_ret pe_non)) pss_nil)
      (pss_cons (ps_if (pt_cmpR op_eq (pv 3) pe_int (nomark _))
      (pss_one (ps_ret (pe_callTy call_str_int (by rfl) T.str b_str (pa_cons (pe_op op_add (pv 1) (pe_op op_mod (pv 4) pe_int)) pa_nil)))) pss_nil)
      (pss_cons (ps_if (pt_cmpR op_eq (pv 3) pe_int (nomark _))
      (pss_one (ps_ret (pe_tup (pa_cons (pe_op op_add (pv 1) (pe_op op_mod (pv 4) pe_int)) pa_nil)))) pss_nil)
      (pss_cons (ps_if (pt_cmpR op_eq (pv 3) pe_int (nomark _))
      (pss_one (ps_ret (pe_lst (pa_cons (pe_op op_add (pv 1) (pe_op op_mod (pv 4) pe_int)) pa_nil)))) pss_nil)
      (pss_cons (ps_if (pt_cmpR op_eq (pv 3) pe_int (nomark _))
      (pss_one (ps_ret (pe_op op_add (pe_op op_add (pv 2) pe_int) (pv 4)))) pss_nil)
      (pss_one (ps_ret (pe_op op_add (pe_op op_pow pe_int pe_int) (pv 4))))))))))))))), ?_⟩
    refine ⟨_, rfl, b, ga, la, 10, rfl, by decide, by decide, hb, fun way H0 hway s0 b0 => ?_⟩
    refine ⟨_, rfl, b, ga, la, 40, rfl, by decide, by decide, b0, fun m H1 hm s1' b1 => ?_⟩
    have s1 := s0.trans s1'
    have ek : (lo : Int) + (m : Int) % 5 = ((lo + m % 5 : Nat) : Int) := by omega
    refine ⟨_, rfl, rfl, _, rfl, ite2 (fun _ => ⟨_, rfl, _, _, rfl, rfl, q _ _ H1 s1 b1 (.lf (lfI (by omega) (by omega))) (inB_out (by omega))⟩) fun _ => ?_⟩
    refine ⟨_, rfl, rfl, _, rfl, ite2 (fun _ => ⟨_, rfl, _, _, rfl, rfl, q _ _ H1 s1 b1 (.lf (lfI (by omega) (by omega))) (inB_out (by omega))⟩) fun _ => ?_⟩
    refine ⟨_, rfl, rfl, _, rfl, ite2 (fun _ => ⟨_, rfl, _, rfl, q _ _ H1 s1 b1 (.lf (lfI (by omega) (by omega))) (inB_out (by omega))⟩) fun _ => ?_⟩
    refine ⟨_, rfl, rfl, _, rfl, ite2 (fun _ => ⟨_, rfl, _, _, rfl, rfl, (by show (0 : Int) < 2; decide), rfl, q _ _ H1 s1 b1 (.lf (.bl _)) rfl⟩) fun _ => ?_⟩
    refine ⟨_, rfl, rfl, _, rfl, ite2 (fun _ => q _ _ H1 s1 b1 (.lf .non) rfl) fun _ => ?_⟩
    refine ⟨_, rfl, rfl, _, rfl, ite2 (fun _ => ⟨_, rfl, _, rfl, _, _, rfl, rfl, (by show (0 : Int) < 5; decide), _, _, rfl, rfl, (lo : Int) + (m : Int) % 5, rfl, ?_, ?_⟩) fun _ => ?_⟩
    · rw [ek]
      exact (by decide +kernel : ∀ k : Nat, k < 16 → ((k : Int)).natAbs.log2 < 1920) _ (by omega)
    · rw [ek]
      obtain ⟨z1, z2⟩ := lfS (lo + m % 5) (by omega)
      exact q _ _ H1 s1 b1 (.lf (.str _ z1 z2)) rfl
    refine ⟨_, rfl, rfl, _, rfl, ite2 (fun _ => ⟨_, rfl, _, rfl, _, _, rfl, rfl, (by show (0 : Int) < 5; decide), _, _, rfl, rfl, by show 1 ≤ sizeLine; decide, fun t nt => ?_⟩) fun _ => ?_⟩
    · exact q _ _ _ (s1.trans (SB.of (same_new nt))) (b1.same (same_new nt)) (lf_one upd_same (.lf (lfI (by omega) (by omega)))) rfl
    refine ⟨_, rfl, rfl, _, rfl, ite2 (fun _ => ⟨_, rfl, _, rfl, _, _, rfl, rfl, (by show (0 : Int) < 5; decide), _, _, rfl, rfl, by show 1 ≤ sizeLine; decide, fun t nt => ?_⟩) fun _ => ?_⟩
    · exact q _ _ _ (s1.trans (SB.of (same_new nt))) (b1.same (same_new nt)) (.lst upd_same (.cons (lfI (by omega) (by omega)) .nil) (by show 1 ≤ 3; decide)) rfl
    refine ⟨_, rfl, rfl, _, rfl, ite2 (fun _ => ⟨_, rfl, _, _, rfl, rfl, _, rfl, _, _, rfl, rfl, q _ _ H1 s1 b1 (.lf (lfI (by omega) (by omega))) (inB_out (by omega))⟩) fun _ => ?_⟩
    exact ⟨_, _, rfl, rfl, ⟨by decide, by decide, by decide⟩, _, rfl, _, _, rfl, rfl, q _ _ H1 s1 b1 (.lf (lfI (by show (-1000 : Int) < 10 ^ 20 + (m : Int); omega) (by show (10 : Int) ^ 20 + (m : Int) < _; omega))) (inB_out (.inr (by show (hi : Int) < 10 ^ 20 + (m : Int); omega)))⟩
abbrev s__law_odd_wire : Stmt := top 27
theorem sc__law_odd_wire : FnScope ["box", "count", "upper", "lower", "way", "far"] ["box", "count", "upper", "lower"] (defScope s__law_odd_wire) := ⟨rfl, rfl, rfl, by decide +kernel, rfl, by decide +kernel, by decide +kernel⟩
-- slots of _law_odd_wire: 0 box, 1 count, 2 upper, 3 lower, 4 way, 5 far
def spOddW : Sp := fun vs H Q _ => ∃ (b ga la : Addr) (n u l : Nat), vs = [.ref b, .int n, .int u, .int l] ∧ n ≤ 16 ∧ u < n ∧ l < n ∧ Bx H b ga la ∧ ∀ (v : V) (d : PyData) (H' : Hp), SB b H H' → Bx H' b ga la → Lf2 H' v d → Q v H'
theorem ok__law_odd_wire (T : Txt K mg C) {f : Addr} {fd : FuncData} (F : Fun K "_law_odd_wire" "_law_odd_wire" s__law_odd_wire f fd) (c__law_take : Cal P w K mg base "_law_take" 1 spTake) : FnOk P w K mg base CX0 2 f fd ["box", "count", "upper", "lower"] spOddW := by
  refine F.ok sc__law_odd_wire (fun vs H Q E h => ?_) (fun cdv A outer s H vs Q E hr h => ?_)
  · obtain ⟨b, ga, la, n, u, l, rfl, _⟩ := h; rfl
  · obtain ⟨b, ga, la, n, u, l, rfl, n16, un, ln, hb, q⟩ := h
    refine ⟨_, (pss_cons (ps_set (i := 4) sc__law_odd_wire.nd rfl (by first | exact Or.inl rfl | exact Or.inr rfl) (pe_cal c__law_take (hr.mono (by decide)) (pa_cons (pv 0) (pa_cons pe_int pa_nil))))
      (pss_cons (ps_set (i := 5) sc__law_odd_wire.nd rfl (by first | exact Or.inl rfl | exact Or.inr rfl) (pe_op op_add (pv 1) (pe_cal c__law_take (hr.mono (by decide)) (pa_cons (pv 0) (pa_cons pe_int pa_nil)))))
      (pss_cons (ps_if (pt_cmpR op_eq (pv 4) pe_int (nomark _))
      (pss_one (ps_ret pe_non)) pss_nil)
      (pss_cons (ps_if (pt_cmpR op_eq (pv 4) pe_int (nomark _))
      (pss_one (ps_ret (pv 2))) pss_nil)
      (pss_cons (ps_if (pt_cmpR op_eq (pv 4) pe_int (nomark _))
      (pss_one (ps_ret pe_str)) pss_nil)
      (pss_cons (ps_if (pt_cmpR op_eq (pv 4) pe_int (nomark _))
      (pss_one (ps_ret (pe_lst (pa_cons (pv 2) (pa_cons (pv 3) pa_nil))))) pss_nil)
      (pss_cons (ps_if (pt_cmpR op_eq (pv 4) pe_int (nomark _))
      (pss_one (ps_ret (pe_tup (pa_cons (pv 2) pa_nil)))) pss_nil)
      (pss_cons (ps_if (pt_cmpR op_eq (pv 4) pe_int (nomark _))
      (pss_one (ps_ret (pe_tup (pa_cons (pv 2) (pa_cons (pv 3) (pa_cons (pv 2) pa_nil)))))) pss_nil)
      (pss_cons (ps_if (pt_cmpR op_eq (pv 4) pe_int (nomark _))
      (pss_one (ps_ret (pe_tup pa_nil))) pss_nil)
      (pss_cons (ps_if (pt_cmpR op_eq (pv 4) pe_int (nomark _))
      (pss_one (ps_ret (pe_tup (pa_cons (pv 2) (pa_cons (pv 2) pa_nil))))) pss_nil)
      (pss_cons (ps_if (pt_cmpR op_eq (pv 4) pe_int (nomark _))
      (pss_one (ps_ret (pe_tup (pa_cons (pv 2) (pa_cons (pv 5) pa_nil))))) pss_nil)
      (pss_cons (ps_if (pt_cmpR op_eq (pv 4) pe_int (nomark _))
      (pss_one (ps_ret (pe_tup (pa_cons (pv 5) (pa_cons (pv 3) pa_nil))))) pss_nil)
      (pss_cons (ps_if (pt_cmpR op_eq (pv 4) pe_int (nomark _))
      (pss_one (ps_ret (pe_tup (pa_cons (pe_op op_sub (pe_un un_neg pe_int) (pv 2)) (pa_cons (pv 3) pa_nil))))) pss_nil)
      (pss_cons (ps_if (pt_cmpR op_eq (pv 4) pe_int (nomark _))
      (pss_one (ps_ret (pe_tup (pa_cons (pv 2) (pa_cons (pe_un un_neg pe_int) pa_nil))))) pss_nil)
      (pss_cons (ps_if (pt_cmpR op_eq (pv 4) pe_int (nomark _))
      (pss_one (ps_ret (pe_tup (pa_cons (pv 2) (pa_cons pe_bl pa_nil))))) pss_nil)
      (pss_cons (ps_if (pt_cmpR op_eq (pv 4) pe_int (nomark _))
      (pss_one (ps_ret (pe_tup (pa_cons pe_bl (pa_cons (pv 3) pa_nil))))) pss_nil)
      (pss_cons (ps_if (pt_cmpR op_eq (pv 4) pe_int (nomark _))
      (pss_one (ps_ret (pe_tup (pa_cons (pv 2) (pa_cons pe_non pa_nil))))) pss_nil)
      (pss_one (ps_ret (pe_tup (pa_cons (pe_tup (pa_cons (pv 2) pa_nil)) (pa_cons (pe_callTy call_str_int (by rfl) T.str b_str (pa_cons (pv 3) pa_nil)) pa_nil)))))))))))))))))))))), ?_⟩
    refine ⟨_, rfl, b, ga, la, 16, rfl, by decide, by decide, hb, fun way H0 hway s0 b0 => ?_⟩
    refine ⟨_, rfl, _, rfl, b, ga, la, 3, rfl, by decide, by decide, b0, fun m H1 hm s1' b1 => ⟨_, _, rfl, rfl, ?_⟩⟩
    have s1 := s0.trans s1'
    have lu : Lf (.int (u : Int)) (.int (u : Int)) := lfI (by omega) (by omega)
    have ll : Lf (.int (l : Int)) (.int (l : Int)) := lfI (by omega) (by omega)
    have lf : Lf (.int ((n : Int) + (m : Int))) (.int ((n : Int) + (m : Int))) := lfI (by omega) (by omega)
    have two : ∀ {t : Addr} {x y : V} {d e : PyData}, H1 t = none → Lf x d → Lf y e → Q (.ref t) (L2.upd H1 t (.tup [x, y])) := fun nt a c => q _ _ _ (s1.trans (SB.of (same_new nt))) (b1.same (same_new nt)) (lf_two upd_same (.lf a) (.lf c))
    refine ⟨_, rfl, rfl, _, rfl, ite2 (fun _ => q _ _ H1 s1 b1 (.lf .non)) fun _ => ?_⟩
    refine ⟨_, rfl, rfl, _, rfl, ite2 (fun _ => ⟨_, rfl, q _ _ H1 s1 b1 (.lf lu)⟩) fun _ => ?_⟩
    refine ⟨_, rfl, rfl, _, rfl, ite2 (fun _ => q _ _ H1 s1 b1 (.lf (.str _ (by decide +kernel) (by decide +kernel)))) fun _ => ?_⟩
    refine ⟨_, rfl, rfl, _, rfl, ite2 (fun _ => ⟨_, rfl, _, rfl, by show 2 ≤ sizeLine; decide, fun t nt => q _ _ _ (s1.trans (SB.of (same_new nt))) (b1.same (same_new nt)) (.lst upd_same (.cons lu (.cons ll .nil)) (by show 2 ≤ 3; decide))⟩) fun _ => ?_⟩
    refine ⟨_, rfl, rfl, _, rfl, ite2 (fun _ => ⟨_, rfl, by show 1 ≤ sizeLine; decide, fun t nt => q _ _ _ (s1.trans (SB.of (same_new nt))) (b1.same (same_new nt)) (lf_one upd_same (.lf lu))⟩) fun _ => ?_⟩
    refine ⟨_, rfl, rfl, _, rfl, ite2 (fun _ => ⟨_, rfl, _, rfl, _, rfl, by show 3 ≤ sizeLine; decide, fun t nt => q _ _ _ (s1.trans (SB.of (same_new nt))) (b1.same (same_new nt)) (.tup upd_same (.cons (.lf lu) (.cons (.lf ll) (.cons (.lf lu) .nil))) (by show 3 ≤ 3; decide))⟩) fun _ => ?_⟩
    refine ⟨_, rfl, rfl, _, rfl, ite2 (fun _ => ⟨by show 0 ≤ sizeLine; decide, fun t nt => q _ _ _ (s1.trans (SB.of (same_new nt))) (b1.same (same_new nt)) (.tup upd_same .nil (by show 0 ≤ 3; decide))⟩) fun _ => ?_⟩
    refine ⟨_, rfl, rfl, _, rfl, ite2 (fun _ => ⟨_, rfl, _, rfl, by show 2 ≤ sizeLine; decide, fun t nt => two nt lu lu⟩) fun _ => ?_⟩
    refine ⟨_, rfl, rfl, _, rfl, ite2 (fun _ => ⟨_, rfl, _, rfl, by show 2 ≤ sizeLine; decide, fun t nt => two nt lu lf⟩) fun _ => ?_⟩
    refine ⟨_, rfl, rfl, _, rfl, ite2 (fun _ => ⟨_, rfl, _, rfl, by show 2 ≤ sizeLine; decide, fun t nt => two nt lf ll⟩) fun _ => ?_⟩
    refine ⟨_, rfl, rfl, _, rfl, ite2 (fun _ => ⟨_, rfl, _, rfl, _, _, rfl, rfl, _, rfl, by show 2 ≤ sizeLine; decide, fun t nt => two nt (lfI (by omega) (by omega)) ll⟩) fun _ => ?_⟩
    refine ⟨_, rfl, rfl, _, rfl, ite2 (fun _ => ⟨_, rfl, _, rfl, by show 2 ≤ sizeLine; decide, fun t nt => two nt lu (lfI (by decide) (by decide))⟩) fun _ => ?_⟩
    refine ⟨_, rfl, rfl, _, rfl, ite2 (fun _ => ⟨_, rfl, by show 2 ≤ sizeLine; decide, fun t nt => two nt lu (.bl true)⟩) fun _ => ?_⟩
    refine ⟨_, rfl, rfl, _, rfl, ite2 (fun _ => ⟨_, rfl, by show 2 ≤ sizeLine; decide, fun t nt => two nt (.bl false) ll⟩) fun _ => ?_⟩
    refine ⟨_, rfl, rfl, _, rfl, ite2 (fun _ => ⟨_, rfl, by show 2 ≤ sizeLine; decide, fun t nt => two nt lu .non⟩) fun _ => ?_⟩
    refine ⟨_, rfl, by show 1 ≤ sizeLine; decide, fun t1 nt1 => ⟨_, rfl, (l : Int), rfl, ?_, by show 2 ≤ sizeLine; decide, fun t nt => ?_⟩⟩
    · exact (by decide +kernel : ∀ k : Nat, k < 16 → ((k : Int)).natAbs.log2 < 1920) _ (by omega)
    · obtain ⟨z1, z2⟩ := lfS l (by omega)
      have h1 := (same_new (o := .tup [.ref t1, .str (Str.ofString (toString (l : Int)))]) nt) _ _ (show (L2.upd H1 t1 (.tup [.int (u : Int)])) t1 = some (.tup [.int (u : Int)]) from upd_same)
      exact q _ _ _ (s1.trans (SB.of ((same_new nt1).trans (same_new nt)))) (b1.same ((same_new nt1).trans (same_new nt))) (lf_two upd_same (.tup h1 (.cons lu .nil) (by show 1 ≤ 3; decide)) (.lf (.str _ z1 z2)))
theorem Bx.hid {H : Hp} {b ga la a : Addr} (h : Bx H b ga la) (n1 : a ≠ b) (n2 : a ≠ ga) (n3 : a ≠ la) : Bx (hide H a) b ga la := by
  obtain ⟨m1, m2, gs, ls, i1, i2, i3, e, g, l, r⟩ := h
  exact ⟨m1, m2, gs, ls, i1, i2, i3, by rw [hide_ne n1.symm]; exact e, by rw [hide_ne n2.symm]; exact g, by rw [hide_ne n3.symm]; exact l, r⟩
theorem sb_hid {H H' : Hp} {a b : Addr} (s : SB b H H') : SB b (hide H a) (hide H' a) := fun c o nc e => by
  obtain ⟨ne, e⟩ := hide_some e
  rw [hide_ne ne]; exact s c o nc e
theorem sb_unhid {H H' : Hp} {a b : Addr} {xs : List V} (ha : H a = some (.lst xs)) (s : SB b (hide H a) H') (na : H' a = none) : SB b H (upd H' a (.lst xs)) := fun c o nc e => by
  by_cases z : c = a
  · rw [z, upd_same, ← ha, ← z]; exact e
  · rw [upd_ne z]; exact s c o nc (by rw [hide_ne z]; exact e)
theorem same_unhid {H' : Hp} {a : Addr} {o : HO} (na : H' a = none) : Same H' (hide (upd H' a o) a) := fun c u e => by
  have z : c ≠ a := fun z => by rw [z, na] at e; cases e
  rw [hide_ne z, upd_ne z]; exact e
theorem same_hide {G : Hp} {g : Addr} : Same (hide G g) G := fun c o e => (hide_some e).2
abbrev s__law_wire : Stmt := top 28
theorem sc__law_wire : FnScope ["box", "row", "wires", "count", "way", "low", "high"] ["box", "row", "wires"] (defScope s__law_wire) := ⟨rfl, rfl, rfl, by decide +kernel, rfl, by decide +kernel, by decide +kernel⟩
-- slots of _law_wire: 0 box, 1 row, 2 wires, 3 count, 4 way, 5 low, 6 high
def spWire : Sp := fun vs H Q _ => ∃ (b ga la r a : Addr) (n : Nat) (line : List Nat) (xs : List V) (ds : List PyData), vs = [.ref b, .ref r, .ref a] ∧ 1 ≤ n ∧ n ≤ 16 ∧ Bx H b ga la ∧ r ≠ b ∧ (a ≠ b ∧ a ≠ ga ∧ a ≠ la) ∧ H r = some (.lst (nL line)) ∧ LineOk n line ∧ H a = some (.lst xs) ∧ All2 (Lf2 (hide H a)) xs ds ∧ xs.length < 4000 ∧ ∀ (v : V) (d : PyData) (H' : Hp), SB b H H' → Bx H' b ga la → Lf2 (hide H' a) v d → Q v H'
theorem ok__law_wire (T : Txt K mg C) {f : Addr} {fd : FuncData} (F : Fun K "_law_wire" "_law_wire" s__law_wire f fd) (c__law_take : Cal P w K mg base "_law_take" 1 spTake) (c__law_odd_wire : Cal P w K mg base "_law_odd_wire" 2 (Off spOddW)) : FnOk P w K mg base CX0 3 f fd ["box", "row", "wires"] spWire := by
  refine F.ok sc__law_wire (fun vs H Q E h => ?_) (fun cdv A outer s H vs Q E hr h => ?_)
  · obtain ⟨b, ga, la, r, a, n, line, xs, ds, rfl, _⟩ := h; rfl
  · obtain ⟨b, ga, la, r, a, n, line, xs, ds, rfl, n1, n16, hb, rb, ⟨ab, aga, ala⟩, hrow, lok, ha, al, few, q⟩ := h
    refine ⟨_, (pss_cons (ps_set (i := 3) sc__law_wire.nd rfl (by first | exact Or.inl rfl | exact Or.inr rfl) (pe_callB (lenS_ K) (by rfl) T.len b_len (pa_cons (pv 1) pa_nil)))
      (pss_cons (ps_set (i := 4) sc__law_wire.nd rfl (by first | exact Or.inl rfl | exact Or.inr rfl) (pe_cal c__law_take (hr.mono (by decide)) (pa_cons (pv 0) (pa_cons pe_int pa_nil))))
      (pss_cons (ps_set (i := 5) sc__law_wire.nd rfl (by first | exact Or.inl rfl | exact Or.inr rfl) (pe_cal c__law_take (hr.mono (by decide)) (pa_cons (pv 0) (pa_cons (pv 3) pa_nil))))
      (pss_cons (ps_set (i := 6) sc__law_wire.nd rfl (by first | exact Or.inl rfl | exact Or.inr rfl) (pe_cal c__law_take (hr.mono (by decide)) (pa_cons (pv 0) (pa_cons (pv 3) pa_nil))))
      (pss_cons (ps_if (pt_cmpR op_eq (pv 4) pe_int (nomark _))
      (pss_one (ps_ret (pe_cal c__law_odd_wire (hr.mono (by decide)) (pa_cons (pv 0) (pa_cons (pv 3) (pa_cons (pe_ix (ixL_ K) (pv 1) (pv 6) (fun _ _ => rfl)) (pa_cons (pe_ix (ixL_ K) (pv 1) (pv 5) (fun _ _ => rfl)) pa_nil))))))) pss_nil)
      (C8.pss_cut (ps_if (PW.pt (pw_and (pt_cmpR op_eq (pv 4) pe_int (nomark _)) (pw_and1 (pt_cmpR op_gt (pe_callB (lenS_ K) (by rfl) T.len b_len (pa_cons (pv 2) pa_nil)) pe_int (nomark _)))))
      (pss_one (ps_ret (pe_ix (ixL_ K) (pv 2) (pe_cal c__law_take (hr.mono (by decide)) (pa_cons (pv 0) (pa_cons (pe_callB (lenS_ K) (by rfl) T.len b_len (pa_cons (pv 2) pa_nil)) pa_nil))) (fun _ _ => rfl)))) pss_nil)
      (C8.pss_cut (ps_if (PW.pt (pw_or (pt_cmpR op_eq (pv 4) pe_int (nomark _)) (pw_or1 (pt_cmpR op_eq (pv 4) pe_int (nomark _)))))
      (pss_one (ps_ret (pe_tup (pa_cons (pe_ix (ixL_ K) (pv 1) (pe_callB (call_max2 rfl) (by rfl) T.max b_max (pa_cons (pv 6) (pa_cons (pv 5) pa_nil))) (fun _ _ => rfl)) (pa_cons (pe_ix (ixL_ K) (pv 1) (pe_callB (call_min2 rfl) (by rfl) T.min b_min (pa_cons (pv 6) (pa_cons (pv 5) pa_nil))) (fun _ _ => rfl)) pa_nil))))) pss_nil)
      (pss_cons (ps_if (pt_cmpR op_eq (pv 4) pe_int (nomark _))
      (pss_one (ps_ret (pe_tup (pa_cons (pe_ix (ixL_ K) (pv 1) (pv 6) (fun _ _ => rfl)) (pa_cons (pe_ix (ixL_ K) (pv 1) (pv 5) (fun _ _ => rfl)) pa_nil))))) pss_nil)
      (C8.pss_cut (ps_if (pt_cmpR op_eq (pv 6) (pv 5) (nomark _))
      (pss_one (ps_set (i := 5) sc__law_wire.nd rfl (by first | exact Or.inl rfl | exact Or.inr rfl) (pe_op op_mod (pe_op op_add (pv 5) pe_int) (pv 3)))) pss_nil)
      (pss_one (ps_ret (pe_tup (pa_cons (pe_ix (ixL_ K) (pv 1) (pe_callB (call_min2 rfl) (by rfl) T.min b_min (pa_cons (pv 6) (pa_cons (pv 5) pa_nil))) (fun _ _ => rfl)) (pa_cons (pe_ix (ixL_ K) (pv 1) (pe_callB (call_max2 rfl) (by rfl) T.max b_max (pa_cons (pv 6) (pa_cons (pv 5) pa_nil))) (fun _ _ => rfl)) pa_nil)))))))))))))), ?_⟩
    have lr : (nL line).length = n := by rw [nL_len, lok.1]
    refine ⟨_, rfl, r, _, rfl, .inl (SqL.of hrow), ?_⟩
    rw [lr]
    refine ⟨_, rfl, b, ga, la, 9, rfl, by decide, by decide, hb, fun way H0 hway s0 b0 => ?_⟩
    refine ⟨_, rfl, _, rfl, b, ga, la, n, rfl, n1, by omega, b0, fun low H1 hlow s1' b1 => ?_⟩
    have s1 := s0.trans s1'
    refine ⟨_, rfl, _, rfl, b, ga, la, n, rfl, n1, by omega, b1, fun high H2 hhigh s2' b2 => ?_⟩
    have s2 := s1.trans s2'
    have hrow2 := s2 _ _ rb hrow
    have ha2 := s2 _ _ ab ha
    have al2 : All2 (Lf2 (hide H2 a)) xs ds := al.imp fun _ _ o => o.sb (hb.hid ab aga ala) (sb_hid s2)
    have at_ : ∀ i : Nat, i < n → ∃ k, k < n ∧ atI (nL line) (i : Int) = some (V.int (k : Int)) := fun i hi => by
      have il : i < line.length := by rw [lok.1]; exact hi
      exact ⟨line[i], lok.2.2 _ (List.getElem_mem il), atI_nat (nL_get (List.getElem?_eq_getElem il))⟩
    have big : ∀ i j : Nat, i < n → j < n → ∃ m : Nat, m < n ∧ (if (j : Int) > (i : Int) then (j : Int) else (i : Int)) = (m : Int) := fun i j hi hj => by
      by_cases z : (j : Int) > (i : Int)
      · exact ⟨j, hj, if_pos z⟩
      · exact ⟨i, hi, if_neg z⟩
    have sml : ∀ i j : Nat, i < n → j < n → ∃ m : Nat, m < n ∧ (if (j : Int) < (i : Int) then (j : Int) else (i : Int)) = (m : Int) := fun i j hi hj => by
      by_cases z : (j : Int) < (i : Int)
      · exact ⟨j, hj, if_pos z⟩
      · exact ⟨i, hi, if_neg z⟩
    have pair : ∀ {k l : Nat} {t : Addr}, k < n → l < n → H2 t = none → Q (.ref t) (L2.upd H2 t (.tup [.int (k : Int), .int (l : Int)])) := fun hk hl nt => q _ _ _ (s2.trans (SB.of (same_new nt))) (b2.same (same_new nt)) (lf_two ((hide_ne (ne_of_none ha2 nt).symm).trans upd_same) (.lf (lfI (by omega) (by omega))) (.lf (lfI (by omega) (by omega))))
    obtain ⟨k1, hk1, e1⟩ := at_ high hhigh
    obtain ⟨k2, hk2, e2⟩ := at_ low hlow
    refine ⟨_, rfl, rfl, _, rfl, ite2 (fun _ => ?_) fun _ => ?_⟩
    · exact ⟨_, rfl, _, rfl, _, rfl, _, rfl, r, _, _, _, rfl, rfl, SqL.of hrow2, e1, _, rfl, _, rfl, r, _, _, _, rfl, rfl, SqL.of hrow2, e2, a, xs, ha2, b, ga, la, n, k1, k2, rfl, n16, hk1, hk2, b2.hid ab aga ala, fun v d H' s b' o na => q v d _ (s2.trans (sb_unhid ha2 s na)) (b'.upd ab aga ala) (o.same (same_unhid na))⟩
    refine ⟨fun σ G => σ = [some (.ref b), some (.ref r), some (.ref a), some (.int n), some (.int way), some (.int low), some (.int high)] ∧ G = H2, ⟨_, rfl, rfl, _, rfl, ite2 (fun _ => ⟨_, rfl, a, _, rfl, .inl (SqL.of ha2), _, _, rfl, rfl, _, rfl, ite2 (fun hpos => ?_) fun _ => ⟨rfl, rfl⟩⟩) fun _ => ⟨rfl, rfl⟩⟩, ?_⟩
    · have pos : 1 ≤ xs.length := by have := of_decide_eq_true hpos; omega
      refine ⟨_, rfl, _, rfl, _, rfl, a, _, rfl, .inl (SqL.of ha2), b, ga, la, xs.length, rfl, pos, by omega, b2, fun j H3 hj s3 b3 => ?_⟩
      obtain ⟨y, hy⟩ : ∃ y, xs[j]? = some y := ⟨_, List.getElem?_eq_getElem hj⟩
      obtain ⟨d, _, od⟩ := al2.get hy
      exact ⟨a, _, _, _, rfl, rfl, SqL.of (s3 _ _ ab ha2), atI_nat hy, q y d H3 (s2.trans s3) b3 (od.sb (b2.hid ab aga ala) (sb_hid s3))⟩
    rintro σ G ⟨rfl, rfl⟩
    refine ⟨fun σ G' => σ = [some (.ref b), some (.ref r), some (.ref a), some (.int n), some (.int way), some (.int low), some (.int high)] ∧ G' = G, ?_, ?_⟩
    · obtain ⟨x1, hx1, f1⟩ := big high low hhigh hlow
      obtain ⟨x2, hx2, f2⟩ := sml high low hhigh hlow
      obtain ⟨y1, hy1, g1⟩ := at_ x1 hx1
      obtain ⟨y2, hy2, g2⟩ := at_ x2 hx2
      have fin : tRet (tTup (tCons (tOp (rIxL K) (tVar 1) (tCB (fun xs H Q => ∃ i j, xs = [V.int i, V.int j] ∧ Q (V.int (if j > i then j else i)) H) (tCons (tVar 6) (tCons (tVar 5) tNil)))) (tCons (tOp (rIxL K) (tVar 1) (tCB (fun xs H Q => ∃ i j, xs = [V.int i, V.int j] ∧ Q (V.int (if j < i then j else i)) H) (tCons (tVar 6) (tCons (tVar 5) tNil)))) tNil)))
          { nx := fun σ G' => σ = [some (.ref b), some (.ref r), some (.ref a), some (.int n), some (.int way), some (.int low), some (.int high)] ∧ G' = G, rt := Q } [some (.ref b), some (.ref r), some (.ref a), some (.int n), some (.int way), some (.int low), some (.int high)] G := by
        refine ⟨_, rfl, _, rfl, _, rfl, _, _, rfl, r, _, _, .int (y1 : Int), rfl, rfl, SqL.of hrow2, by rw [f1]; exact g1, _, rfl, _, rfl, _, rfl, _, _, rfl, r, _, _, .int (y2 : Int), rfl, rfl, SqL.of hrow2, by rw [f2]; exact g2, by show 2 ≤ sizeLine; decide, fun t nt => pair hy1 hy2 nt⟩
      exact ⟨_, rfl, rfl, _, rfl, ite2 (fun _ => fin) fun _ => ⟨_, rfl, rfl, _, rfl, ite2 (fun _ => fin) fun _ => ⟨rfl, rfl⟩⟩⟩
    rintro σ G' ⟨rfl, rfl⟩
    refine ⟨_, rfl, rfl, _, rfl, ite2 (fun _ => ?_) fun _ => ?_⟩
    · exact ⟨_, rfl, _, rfl, r, _, _, _, rfl, rfl, SqL.of hrow2, e1, _, rfl, _, rfl, r, _, _, _, rfl, rfl, SqL.of hrow2, e2, by show 2 ≤ sizeLine; decide, fun t nt => pair hk1 hk2 nt⟩
    refine ⟨fun σ G => ∃ lw : Nat, lw < n ∧ σ = [some (.ref b), some (.ref r), some (.ref a), some (.int n), some (.int way), some (.int lw), some (.int high)] ∧ G = G', ⟨_, rfl, _, rfl, rfl, _, rfl, ite2 (fun _ => ?_) fun _ => ⟨low, hlow, rfl, rfl⟩⟩, ?_⟩
    · refine ⟨_, rfl, _, _, rfl, rfl, _, rfl, _, _, rfl, rfl, (by show (0 : Int) < (n : Int); omega), (low + 1) % n, Nat.mod_lt _ (by omega), ?_, rfl⟩
      have em : ((low : Int) + 1) % (n : Int) = (((low + 1) % n : Nat) : Int) := by
        have : ((low : Int) + 1) = ((low + 1 : Nat) : Int) := by omega
        rw [this]; rfl
      rw [← em]; rfl
    rintro σ G ⟨lw, hlw, rfl, rfl⟩
    obtain ⟨x1, hx1, f1⟩ := sml high lw hhigh hlw
    obtain ⟨x2, hx2, f2⟩ := big high lw hhigh hlw
    obtain ⟨y1, hy1, g1⟩ := at_ x1 hx1
    obtain ⟨y2, hy2, g2⟩ := at_ x2 hx2
    exact ⟨_, rfl, _, rfl, _, rfl, _, _, rfl, r, _, _, .int (y1 : Int), rfl, rfl, SqL.of hrow2, by rw [f1]; exact g1, _, rfl, _, rfl, _, rfl, _, _, rfl, r, _, _, .int (y2 : Int), rfl, rfl, SqL.of hrow2, by rw [f2]; exact g2, by show 2 ≤ sizeLine; decide, fun t nt => pair hy1 hy2 nt⟩
end
end Hue

end
section
set_option maxRecDepth 100000
set_option maxHeartbeats 4000000
namespace Hue
open PySem PySem.Spec PyProof.Rows L2
section
variable {P : Program} {w : World} {K : PySem.W.Frag} {mg : Str → Option Value} {base : Heap} {C : Addr}
/-! ### entries -/
/-- the list that is being filled -/
structure EnI (H G : Hp) (b ga la wz : Addr) (xs : List V) (ds : List PyData) : Prop where
  sb : SB b H G
  bx : Bx G b ga la
  hw : G wz = some (.lst xs)
  al : All2 (Lf2 (hide G wz)) xs ds
theorem EnI.draw {H G G' : Hp} {b ga la wz : Addr} {xs : List V} {ds : List PyData} (e : EnI H G b ga la wz xs ds) (nw : wz ≠ b ∧ wz ≠ ga ∧ wz ≠ la) (s : SB b G G') (b' : Bx G' b ga la) : EnI H G' b ga la wz xs ds :=
  ⟨e.sb.trans s, b', s _ _ nw.1 e.hw, e.al.imp fun _ _ o => o.sb (e.bx.hid nw.1 nw.2.1 nw.2.2) (sb_hid s)⟩
theorem all2_ins {R : V → PyData → Prop} {xs : List V} {ds : List PyData} (a : All2 R xs ds) {y : V} {d : PyData} (o : R y d) : ∀ i : Nat, All2 R (xs.take i ++ y :: xs.drop i) (ds.take i ++ d :: ds.drop i) := by
  induction a with
  | nil => intro i; simp; exact .cons o .nil
  | cons h r ih =>
    intro i
    cases i with
    | zero => exact .cons o (.cons h r)
    | succ i => exact .cons h (ih i)
/-- what is put into it -/
theorem EnI.put {H G : Hp} {b ga la wz : Addr} {xs ys : List V} {ds es : List PyData} (e : EnI H G b ga la wz xs ds) (nw : wz ≠ b ∧ wz ≠ ga ∧ wz ≠ la) (hw0 : H wz = none) (al : All2 (Lf2 (hide G wz)) ys es) : EnI H (upd G wz (.lst ys)) b ga la wz ys es :=
  ⟨fun c o nc ec => by rw [upd_ne (ne_of_none ec hw0)]; exact e.sb c o nc ec, e.bx.upd nw.1 nw.2.1 nw.2.2, upd_same, al.imp fun _ _ o => o.same fun c u hc => by
    obtain ⟨ne, hc⟩ := hide_some hc
    rw [hide_ne ne, upd_ne ne]; exact hc⟩
abbrev s__law_entries : Stmt := top 29
theorem sc__law_entries : FnScope ["box", "row", "wires", "low", "high", "k", "place"] ["box", "row"] (defScope s__law_entries) := ⟨rfl, rfl, rfl, by decide +kernel, rfl, by decide +kernel, by decide +kernel⟩
-- slots of _law_entries: 0 box, 1 row, 2 wires, 3 low, 4 high, 5 k, 6 place
def spEntries : Sp := fun vs H Q _ => ∃ (b ga la r : Addr) (n : Nat) (line : List Nat), vs = [.ref b, .ref r] ∧ 1 ≤ n ∧ n ≤ 16 ∧ Bx H b ga la ∧ r ≠ b ∧ H r = some (.lst (nL line)) ∧ LineOk n line ∧ ∀ (wz : Addr) (xs : List V) (ds : List PyData) (H' : Hp), SB b H H' → Bx H' b ga la → wz ≠ b → H' wz = some (.lst xs) → All2 (Lf2 H') xs ds → xs.length ≤ 200 → Q (.ref wz) H'
theorem ok__law_entries (T : Txt K mg C) {f : Addr} {fd : FuncData} (F : Fun K "_law_entries" "_law_entries" s__law_entries f fd) (c__law_take : Cal P w K mg base "_law_take" 1 spTake) (c__law_wire : Cal P w K mg base "_law_wire" 3 spWire) : FnOk P w K mg base CX0 4 f fd ["box", "row"] spEntries := by
  refine F.ok sc__law_entries (fun vs H Q E h => ?_) (fun cdv A outer s H vs Q E hr h => ?_)
  · obtain ⟨b, ga, la, r, n, line, rfl, _⟩ := h; rfl
  · obtain ⟨b, ga, la, r, n, line, rfl, n1, n16, hb, rb, hrow, lok, q⟩ := h
    refine ⟨_, (pss_cons (ps_set (i := 2) sc__law_entries.nd rfl (by first | exact Or.inl rfl | exact Or.inr rfl) (pe_lst pa_nil))
      (pss_cons (ps_if (pt_cmpR op_eq (pe_cal c__law_take (hr.mono (by decide)) (pa_cons (pv 0) (pa_cons pe_int pa_nil))) pe_int (nomark _))
      (pss_cons (ps_for PassesOwn.never rfl (pi_range1 (by rfl) T.range (pa_cons (pe_callB (lenS_ K) (by rfl) T.len b_len (pa_cons (pv 1) pa_nil)) pa_nil)) (pg_name (i := 3) sc__law_entries.nd rfl (by first | exact Or.inl rfl | exact Or.inr rfl))
      (pss_one (ps_for PassesOwn.never rfl (pi_range1 (by rfl) T.range (pa_cons (pv 3) pa_nil)) (pg_name (i := 4) sc__law_entries.nd rfl (by first | exact Or.inl rfl | exact Or.inr rfl))
      (pss_one (ps_expr (pe_bm PySem.F.plainAttrs_list PySem.F.slot_list_insert PySem.F.type_list_insert mt_insert (pv 2) (pa_cons (pe_cal c__law_take (hr.mono (by decide)) (pa_cons (pv 0) (pa_cons (pe_op op_add (pe_callB (lenS_ K) (by rfl) T.len b_len (pa_cons (pv 2) pa_nil)) pe_int) pa_nil))) (pa_cons (pe_tup (pa_cons (pe_ix (ixL_ K) (pv 1) (pv 4) (fun _ _ => rfl)) (pa_cons (pe_ix (ixL_ K) (pv 1) (pv 3) (fun _ _ => rfl)) pa_nil))) pa_nil))))))))
      (pss_cons (ps_for PassesOwn.never rfl (pi_range1 (by rfl) T.range (pa_cons (pe_cal c__law_take (hr.mono (by decide)) (pa_cons (pv 0) (pa_cons pe_int pa_nil))) pa_nil)) (pg_name (i := 5) sc__law_entries.nd rfl (by first | exact Or.inl rfl | exact Or.inr rfl))
      (pss_cons (ps_set (i := 6) sc__law_entries.nd rfl (by first | exact Or.inl rfl | exact Or.inr rfl) (pe_cal c__law_take (hr.mono (by decide)) (pa_cons (pv 0) (pa_cons (pe_op op_add (pe_callB (lenS_ K) (by rfl) T.len b_len (pa_cons (pv 2) pa_nil)) pe_int) pa_nil))))
      (pss_one (ps_expr (pe_bm PySem.F.plainAttrs_list PySem.F.slot_list_insert PySem.F.type_list_insert mt_insert (pv 2) (pa_cons (pv 6) (pa_cons (pe_cal c__law_wire (hr.mono (by decide)) (pa_cons (pv 0) (pa_cons (pv 1) (pa_cons (pv 2) pa_nil)))) pa_nil)))))))
      (pss_one (ps_ret (pv 2))))) pss_nil)
      (pss_cons (ps_for PassesOwn.never rfl (pi_range1 (by rfl) T.range (pa_cons (pe_cal c__law_take (hr.mono (by decide)) (pa_cons (pv 0) (pa_cons pe_int pa_nil))) pa_nil)) (pg_name (i := 5) sc__law_entries.nd rfl (by first | exact Or.inl rfl | exact Or.inr rfl))
      (pss_one (ps_expr (pe_bm PySem.F.plainAttrs_list PySem.F.slot_list_append PySem.F.type_list_append mt_append (pv 2) (pa_cons (pe_cal c__law_wire (hr.mono (by decide)) (pa_cons (pv 0) (pa_cons (pv 1) (pa_cons (pv 2) pa_nil)))) pa_nil)))))
      (pss_one (ps_ret (pv 2)))))), ?_⟩
    have lr : (nL line).length = n := by rw [nL_len, lok.1]
    refine ⟨by show 0 ≤ sizeLine; decide, fun wz nwz => ?_⟩
    have nw := hb.new nwz
    have s1 : Same H (L2.upd H wz (.lst [])) := same_new nwz
    have e1 : EnI H (L2.upd H wz (.lst [])) b ga la wz [] [] := ⟨SB.of s1, hb.same s1, upd_same, .nil⟩
    generalize L2.upd H wz (.lst []) = H1 at s1 e1 ⊢
    have fin : ∀ {G : Hp} {xs : List V} {ds : List PyData}, EnI H G b ga la wz xs ds → xs.length ≤ 200 → Q (.ref wz) G := fun e l => q wz _ _ _ e.sb e.bx nw.1 e.hw (e.al.imp fun _ _ o => o.same same_hide) l
    have wr : r ≠ wz := ne_of_none hrow nwz
    refine ⟨_, rfl, b, ga, la, 8, rfl, by decide, by decide, e1.bx, fun m H2 hm s2 b2 => ⟨rfl, _, rfl, ?_⟩⟩
    have e2 := e1.draw nw s2 b2
    have at_ : ∀ i : Nat, i < n → ∃ k, k < n ∧ atI (nL line) (i : Int) = some (V.int (k : Int)) := fun i hi => by
      have il : i < line.length := by rw [lok.1]; exact hi
      exact ⟨line[i], lok.2.2 _ (List.getElem_mem il), atI_nat (nL_get (List.getElem?_eq_getElem il))⟩
    have hr_ : ∀ {G : Hp} {xs : List V} {ds : List PyData}, EnI H G b ga la wz xs ds → G r = some (.lst (nL line)) := fun e => e.sb _ _ rb hrow
    refine ite2 (fun _ => ?_) fun _ => ?_
    · have hr2 := hr_ e2
      refine ⟨_, rfl, r, _, rfl, .inl (SqL.of hr2), _, rfl, by rw [lr]; omega, by rw [lr]; omega, ?_⟩
      rw [lr, Int.toNat_natCast]
      refine for_range (fun i σ G => ∃ (v3 v4 : Option V) (xs : List V) (ds : List PyData), σ = [some (.ref b), some (.ref r), some (.ref wz), v3, v4, none, none] ∧ EnI H G b ga la wz xs ds ∧ xs.length = Tri i) ⟨_, _, [], [], rfl, e2, rfl⟩ ?_ ?_
      · rintro i σ G hi ⟨v3, v4, xs, ds, rfl, e, lx⟩
        have e0 : (0 : Int) + (i : Int) = (i : Int) := by omega
        rw [e0]
        have ti := tri16 n n16
        have tm : Tri (i + 1) ≤ Tri n := tri_mono (by omega)
        have tm : Tri i + i ≤ Tri n := tm
        refine ⟨_, rfl, _, rfl, by omega, by omega, ?_⟩
        rw [Int.toNat_natCast]
        refine for_range (fun j σ G => ∃ (v4 : Option V) (xs : List V) (ds : List PyData), σ = [some (.ref b), some (.ref r), some (.ref wz), some (.int i), v4, none, none] ∧ EnI H G b ga la wz xs ds ∧ xs.length = Tri i + j) ⟨_, xs, ds, rfl, e, lx⟩ ?_ ?_
        · rintro j σ G hj ⟨v4, xs, ds, rfl, e, lx⟩
          have e0 : (0 : Int) + (j : Int) = (j : Int) := by omega
          rw [e0]
          obtain ⟨k1, hk1, f1⟩ := at_ j (by omega)
          obtain ⟨k2, hk2, f2⟩ := at_ i hi
          refine ⟨_, rfl, .inl ⟨rfl, _, SqL.of e.hw⟩, _, rfl, _, rfl, wz, _, rfl, .inl (SqL.of e.hw), _, _, rfl, rfl, b, ga, la, xs.length + 1, rfl, by omega, by omega, e.bx, fun p G1 hp s1 b1 => ?_⟩
          have e1 := e.draw nw s1 b1
          have hr1 := hr_ e1
          refine ⟨_, rfl, _, rfl, r, _, _, _, rfl, rfl, SqL.of hr1, f1, _, rfl, _, rfl, r, _, _, _, rfl, rfl, SqL.of hr1, f2, by show 2 ≤ sizeLine; decide, fun t nt => ?_⟩
          have t1 : Same G1 (L2.upd G1 t (.tup [.int (k1 : Int), .int (k2 : Int)])) := same_new nt
          have e3 := e1.draw nw (SB.of t1) (b1.same t1)
          have ntw : t ≠ wz := (ne_of_none e1.hw nt).symm
          have ot : Lf2 (hide (L2.upd G1 t (.tup [.int (k1 : Int), .int (k2 : Int)])) wz) (.ref t) (.tuple [.int (k1 : Int), .int (k2 : Int)]) := lf_two ((hide_ne ntw).trans upd_same) (.lf (lfI (by omega) (by omega))) (.lf (lfI (by omega) (by omega)))
          generalize L2.upd G1 t (.tup [.int (k1 : Int), .int (k2 : Int)]) = G2 at t1 e3 ot ⊢
          refine ⟨wz, xs, (p : Int), .ref t, rfl, rfl, e3.hw, by rw [sizeLine_eq]; omega, by omega, by omega, ?_⟩
          rw [Int.toNat_natCast, List.append_assoc]
          exact ⟨_, _, _, rfl, e3.put nw nwz (all2_ins e3.al ot p), by rw [List.length_append, List.length_append, List.length_take, List.length_drop]; show _ + (1 + _) = _; omega⟩
        · rintro σ G ⟨v4, xs, ds, rfl, e, lx⟩
          exact ⟨_, _, xs, ds, rfl, e, lx⟩
      · rintro σ G ⟨v3, v4, xs, ds, rfl, e, lx⟩
        have ti := tri16 n n16
        refine ⟨_, rfl, b, ga, la, 4, rfl, by decide, by decide, e.bx, fun m4 G1 hm4 s1 b1 => ⟨_, rfl, by omega, by omega, ?_⟩⟩
        rw [Int.toNat_natCast]
        refine for_range (fun i σ G => ∃ (v5 v6 : Option V) (xs : List V) (ds : List PyData), σ = [some (.ref b), some (.ref r), some (.ref wz), v3, v4, v5, v6] ∧ EnI H G b ga la wz xs ds ∧ xs.length = Tri n + i) ⟨_, _, xs, ds, rfl, e.draw nw s1 b1, lx⟩ ?_ ?_
        · rintro i σ G hi ⟨v5, v6, xs, ds, rfl, e, lx⟩
          refine ⟨_, rfl, _, rfl, wz, _, rfl, .inl (SqL.of e.hw), _, _, rfl, rfl, b, ga, la, xs.length + 1, rfl, by omega, by omega, e.bx, fun p G1 hp s1 b1 => ?_⟩
          have e1 := e.draw nw s1 b1
          refine ⟨_, rfl, .inl ⟨rfl, _, SqL.of e1.hw⟩, _, rfl, _, rfl, _, rfl, _, rfl, b, ga, la, r, wz, n, line, xs, ds, rfl, n1, n16, b1, rb, nw, hr_ e1, lok, e1.hw, e1.al, by omega, fun y d G2 s2 b2 o => ?_⟩
          have e3 := e1.draw nw s2 b2
          refine ⟨wz, xs, (p : Int), y, rfl, rfl, e3.hw, by rw [sizeLine_eq]; omega, by omega, by omega, ?_⟩
          rw [Int.toNat_natCast, List.append_assoc]
          exact ⟨_, _, _, _, rfl, e3.put nw nwz (all2_ins e3.al o p), by rw [List.length_append, List.length_append, List.length_take, List.length_drop]; show _ + (1 + _) = _; omega⟩
        · rintro σ G ⟨v5, v6, xs, ds, rfl, e, lx⟩
          exact ⟨_, rfl, fin e (by omega)⟩
    · refine ⟨_, rfl, b, ga, la, 13, rfl, by decide, by decide, e2.bx, fun m4 G1 hm4 s1 b1 => ⟨_, rfl, by omega, by omega, ?_⟩⟩
      rw [Int.toNat_natCast]
      refine for_range (fun i σ G => ∃ (v5 : Option V) (xs : List V) (ds : List PyData), σ = [some (.ref b), some (.ref r), some (.ref wz), none, none, v5, none] ∧ EnI H G b ga la wz xs ds ∧ xs.length = i) ⟨_, [], [], rfl, e2.draw nw s1 b1, rfl⟩ ?_ ?_
      · rintro i σ G hi ⟨v5, xs, ds, rfl, e, lx⟩
        refine ⟨_, rfl, .inl ⟨rfl, _, SqL.of e.hw⟩, _, rfl, _, rfl, _, rfl, b, ga, la, r, wz, n, line, xs, ds, rfl, n1, n16, e.bx, rb, nw, hr_ e, lok, e.hw, e.al, by omega, fun y d G2 s2 b2 o => ?_⟩
        have e3 := e.draw nw s2 b2
        exact ⟨wz, _, _, rfl, rfl, e3.hw, by rw [sizeLine_eq]; omega, _, _, _, rfl, e3.put nw nwz (e3.al.app (.cons o .nil)), by rw [List.length_append, lx]; rfl⟩
      · rintro σ G ⟨v5, xs, ds, rfl, e, lx⟩
        exact ⟨_, rfl, fin e (by omega)⟩
abbrev s__law_lamp : Stmt := top 30
theorem sc__law_lamp : FnScope ["count", "thing"] ["count", "thing"] (defScope s__law_lamp) := ⟨rfl, rfl, rfl, by decide +kernel, rfl, by decide +kernel, by decide +kernel⟩
-- slots of _law_lamp: 0 count, 1 thing
def spLampL : Sp := fun vs H Q _ => ∃ (n : Nat) (v : V) (d : PyData), vs = [.int n, v] ∧ Lf1 H v d ∧ Q (.bl (inB 0 ((n : Int) - 1) d)) H
theorem ok__law_lamp (T : Txt K mg C) {f : Addr} {fd : FuncData} (F : Fun K "_law_lamp" "_law_lamp" s__law_lamp f fd) : FnOk P w K mg base CX0 1 f fd ["count", "thing"] spLampL := by
  refine F.ok sc__law_lamp (fun vs H Q E h => ?_) (fun cdv A outer s H vs Q E hr h => ?_)
  · obtain ⟨n, v, d, rfl, _⟩ := h; rfl
  · obtain ⟨n, v, d, rfl, od, q⟩ := h
    refine ⟨_, (pss_one (ps_ret (pe_and (pe_callB (isi_ K) (by rfl) T.isinstance b_isinstance (pa_cons (pv 1) (pa_cons (pe_bltn (v := .ty "int") (by rfl) T.int b_int rfl) pa_nil))) (pe_and (pe_not (pe_callB (isi_ K) (by rfl) T.isinstance b_isinstance (pa_cons (pv 1) (pa_cons (pe_bltn (v := .ty "bool") (by rfl) T.bool b_bool rfl) pa_nil)))) (pe_one (pe_chain op_le op_lt pe_int (pv 1) (pv 0))))))), ?_⟩
    cases od with
    | tup ht _ _ => exact ⟨_, rfl, _, _, _, _, false, rfl, .ty _, .base (.tup ht), kit_ty (by decide +kernel), false, rfl, iteF q⟩
    | lst ht _ _ => exact ⟨_, rfl, _, _, _, _, false, rfl, .ty _, .base (.lst ht), kit_ty (by decide +kernel), false, rfl, iteF q⟩
    | lf l =>
      cases l with
      | bl z => exact ⟨_, rfl, _, _, _, _, true, rfl, .ty _, .base (.bl z), kit_ty (by decide +kernel), true, rfl, iteT ⟨_, rfl, _, _, _, _, true, rfl, .ty _, .base (.bl z), kit_ty (by decide +kernel), true, rfl, false, rfl, iteF q⟩⟩
      | non => exact ⟨_, rfl, _, _, _, _, false, rfl, .ty _, .base (.non), kit_ty (by decide +kernel), false, rfl, iteF q⟩
      | str z _ _ => exact ⟨_, rfl, _, _, _, _, false, rfl, .ty _, .base (.str z), kit_ty (by decide +kernel), false, rfl, iteF q⟩
      | int i _ =>
        refine ⟨_, rfl, _, _, _, _, true, rfl, .ty _, .base (.int i), kit_ty (by decide +kernel), true, rfl, iteT ⟨_, rfl, _, _, _, _, false, rfl, .ty _, .base (.int i), kit_ty (by decide +kernel), false, rfl, true, rfl, iteT ?_⟩⟩
        refine ⟨_, rfl, _, _, rfl, rfl, _, rfl, ite2 (fun h1 => ⟨_, rfl, _, _, rfl, rfl, ?_⟩) fun h1 => ?_⟩
        · have e : inB 0 ((n : Int) - 1) (.int i) = decide (i < (n : Int)) := by
            show (decide (0 ≤ i) && decide (i ≤ (n : Int) - 1)) = _
            rw [h1, Bool.true_and]
            exact decide_eq_decide.mpr (by omega)
          rw [e] at q
          exact q
        · have e : inB 0 ((n : Int) - 1) (.int i) = false := by
            show (decide (0 ≤ i) && decide (i ≤ (n : Int) - 1)) = _
            rw [Bool.eq_false_iff.mpr h1, Bool.false_and]
          rw [e] at q
          exact q
theorem nodup_atA {α : Type} {l : List α} (nd : l.Nodup) {i j : Nat} {k : α} (h1 : l[i]? = some k) (h2 : l[j]? = some k) : i = j := by
  obtain ⟨a1, a2⟩ := List.getElem?_eq_some_iff.mp h1
  obtain ⟨b1, b2⟩ := List.getElem?_eq_some_iff.mp h2
  rcases Nat.lt_trichotomy i j with h | h | h
  · exact absurd (a2.trans b2.symm) (List.pairwise_iff_getElem.mp nd i j a1 b1 h)
  · exact h
  · exact absurd (b2.trans a2.symm) (List.pairwise_iff_getElem.mp nd j i b1 a1 h)
abbrev s__law_hang : Stmt := top 31
theorem sc__law_hang : FnScope ["under", "upper", "lower", "v", "w"] ["under", "upper", "lower"] (defScope s__law_hang) := ⟨rfl, rfl, rfl, by decide +kernel, rfl, by decide +kernel, by decide +kernel⟩
-- slots of _law_hang: 0 under, 1 upper, 2 lower, 3 v, 4 w
/-- rows of truths -/
def Mat (H : Hp) (a : Addr) (n : Nat) (R : Rel) : Prop := ∃ as : List Addr, H a = some (.lst (as.map V.ref)) ∧ as.length = n ∧ as.Nodup ∧ ∀ (i : Nat) c, as[i]? = some c → c ≠ a ∧ H c = some (.lst ((List.range n).map fun j => V.bl (R i j)))
def spHang : Sp := fun vs H Q _ => ∃ (a : Addr) (n u l : Nat) (R : Rel) (as : List Addr), vs = [.ref a, .int u, .int l] ∧ n ≤ 16 ∧ u < n ∧ l < n ∧ u ≠ l ∧ R l u = false ∧ H a = some (.lst (as.map V.ref)) ∧ as.length = n ∧ as.Nodup ∧ (∀ (i : Nat) c, as[i]? = some c → c ≠ a ∧ H c = some (.lst ((List.range n).map fun j => V.bl (R i j)))) ∧
  ∀ H' : Hp, (∀ c o, c ∉ as → H c = some o → H' c = some o) → (∀ (i : Nat) c, as[i]? = some c → H' c = some (.lst ((List.range n).map fun j => V.bl (addW R u l i j)))) → Q .non H'
theorem ok__law_hang (T : Txt K mg C) {f : Addr} {fd : FuncData} (F : Fun K "_law_hang" "_law_hang" s__law_hang f fd) : FnOk P w K mg base CX0 1 f fd ["under", "upper", "lower"] spHang := by
  refine F.ok sc__law_hang (fun vs H Q E h => ?_) (fun cdv A outer s H vs Q E hr h => ?_)
  · obtain ⟨a, n, u, l, R, as, rfl, _⟩ := h; rfl
  · obtain ⟨a, n, u, l, R, as, rfl, n16, un, ln, ne, no, ha, la, nd, rows, q⟩ := h
    refine ⟨_, (pss_one (ps_for PassesOwn.never rfl (pi_range1 (by rfl) T.range (pa_cons (pe_callB (lenS_ K) (by rfl) T.len b_len (pa_cons (pv 0) pa_nil)) pa_nil)) (pg_name (i := 3) sc__law_hang.nd rfl (by first | exact Or.inl rfl | exact Or.inr rfl))
      (pss_one (ps_if (PW.pt (pw_or (pt_cmpR op_eq (pv 3) (pv 1) (nomark _)) (pw_or1 (pt_val (pe_ix (ixL_ K) (pe_ix (ixL_ K) (pv 0) (pv 3) (fun _ _ => rfl)) (pv 1) (fun _ _ => rfl))))))
      (pss_one (ps_for PassesOwn.never rfl (pi_range1 (by rfl) T.range (pa_cons (pe_callB (lenS_ K) (by rfl) T.len b_len (pa_cons (pv 0) pa_nil)) pa_nil)) (pg_name (i := 4) sc__law_hang.nd rfl (by first | exact Or.inl rfl | exact Or.inr rfl))
      (pss_one (ps_if (PW.pt (pw_or (pt_cmpR op_eq (pv 4) (pv 2) (nomark _)) (pw_or1 (pt_val (pe_ix (ixL_ K) (pe_ix (ixL_ K) (pv 0) (pv 2) (fun _ _ => rfl)) (pv 4) (fun _ _ => rfl))))))
      (pss_one (ps_asg pe_bl (pg_sub (pe_ix (ixL_ K) (pv 0) (pv 3) (fun _ _ => rfl)) (pv 4) set_list))) pss_nil)))) pss_nil)))), ?_⟩
    have col : ∀ k, addW R u l k u = R k u := fun k => by
      rw [Bool.eq_iff_iff, addW_iff]
      refine ⟨fun z => z.elim id fun ⟨_, b⟩ => ?_, .inl⟩
      rcases b with b | b
      · exact absurd b ne
      · rw [no] at b; cases b
    have low : ∀ w, addW R u l l w = R l w := fun w => by
      rw [Bool.eq_iff_iff, addW_iff]
      refine ⟨fun z => z.elim id fun ⟨a, _⟩ => ?_, .inl⟩
      rcases a with a | a
      · exact absurd a.symm ne
      · rw [no] at a; cases a
    have la' : (as.map V.ref).length = n := by rw [List.length_map, la]
    have cellA : ∀ k : Nat, k < n → ∃ c, as[k]? = some c ∧ atI (as.map V.ref) (k : Int) = some (V.ref c) := fun k hk => by
      have kl : k < as.length := by rw [la]; exact hk
      exact ⟨as[k], List.getElem?_eq_getElem kl, atI_nat (by rw [List.getElem?_map, List.getElem?_eq_getElem kl]; rfl)⟩
    have cellR : ∀ (f : Nat → Bool) (w : Nat), w < n → atI ((List.range n).map fun j => V.bl (f j)) (w : Int) = some (V.bl (f w)) := fun f w hw => atI_nat (by rw [List.getElem?_map, List.getElem?_range hw]; rfl)
    have setR : ∀ (f : Nat → Bool) (j : Nat), j < n → ((List.range n).map fun w => V.bl (f w)).set j (V.bl true) = (List.range n).map fun w => V.bl (if w = j then true else f w) := fun f j hj => by
      refine List.ext_getElem? fun k => ?_
      rw [List.getElem?_set, List.getElem?_map, List.getElem?_map, List.length_map, List.length_range]
      by_cases e : j = k
      · subst e
        rw [if_pos rfl, if_pos hj, List.getElem?_range hj]
        show _ = some (V.bl (if j = j then true else f j))
        rw [if_pos rfl]
      · rw [if_neg e]
        cases q : (List.range n)[k]? with
        | none => rfl
        | some z =>
          obtain ⟨_, ez⟩ := List.getElem?_eq_some_iff.mp q
          rw [List.getElem_range] at ez
          show some (V.bl (f z)) = some (V.bl (if z = j then true else f z))
          rw [if_neg (by omega)]
    -- what stands after v rows and w cells of the next
    have inv : ∃ I : Nat → Nat → Hp → Prop, I = fun i j G => (∀ c o, c ∉ as → H c = some o → G c = some o) ∧ ∀ (k : Nat) c, as[k]? = some c → G c = some (.lst ((List.range n).map fun w => V.bl (if k < i ∨ (k = i ∧ w < j) then addW R u l k w else R k w))) := ⟨_, rfl⟩
    obtain ⟨I, eI⟩ := inv
    have nas : a ∉ as := fun m => by
      obtain ⟨k, hk, e⟩ := List.getElem_of_mem m
      exact (rows k a (by rw [List.getElem?_eq_getElem hk, e])).1 rfl
    have start : I 0 0 H := by
      rw [eI]
      refine ⟨fun c o _ e => e, fun k c hc => ?_⟩
      rw [(rows k c hc).2]
      congr 2
      refine List.map_congr_left fun w _ => ?_
      rw [if_neg (by omega)]
    have hA : ∀ {i j : Nat} {G : Hp}, I i j G → G a = some (.lst (as.map V.ref)) := fun h => by rw [eI] at h; exact h.1 _ _ nas ha
    refine ⟨_, rfl, a, _, rfl, .inl (SqL.of ha), _, rfl, by rw [la']; omega, by rw [la']; omega, ?_⟩
    rw [la', Int.toNat_natCast]
    refine for_range (fun i σ G => ∃ v3 v4 : Option V, σ = [some (.ref a), some (.int u), some (.int l), v3, v4] ∧ I i 0 G) ⟨_, _, rfl, start⟩ ?_ ?_
    · rintro i σ G hi ⟨v3, v4, rfl, hI⟩
      have e0 : (0 : Int) + (i : Int) = (i : Int) := by omega
      rw [e0]
      obtain ⟨c, hc, ac⟩ := cellA i hi
      obtain ⟨c2, hc2, ac2⟩ := cellA l ln
      have row_i : G c = some (.lst ((List.range n).map fun w => V.bl (R i w))) := by
        have z := hI
        rw [eI] at z
        rw [z.2 i c hc]
        congr 2
        refine List.map_congr_left fun w _ => ?_
        rw [if_neg (by omega)]
      have skip : (∀ w, addW R u l i w = R i w) → I (i + 1) 0 G := fun same => by
        have z := hI
        rw [eI] at z ⊢
        refine ⟨z.1, fun k c hc => ?_⟩
        rw [z.2 k c hc]
        congr 2
        refine List.map_congr_left fun w _ => ?_
        by_cases e1 : k < i
        · rw [if_pos (.inl e1), if_pos (.inl (by omega))]
        · by_cases e2 : k = i
          · rw [if_neg (by omega), if_pos (.inl (by omega)), e2, same w]
          · rw [if_neg (by omega), if_neg (by omega)]
      have body : (i = u ∨ R i u = true) → tFor (iRng1 (tCons (tCB (rLenS K) (tCons (tVar 0) tNil)) tNil)) (gName 4) (tIfS (tOr (tTest (tOp rEq (tVar 4) (tVar 2))) (tB (tOp (rIxL K) (tOp (rIxL K) (tVar 0) (tVar 2)) (tVar 4)))) (tAsg (tC (V.bl true)) (gSub (tOp (rIxL K) (tVar 0) (tVar 3)) (tVar 4) rSetL)) tNext)
          { nx := fun σ G => ∃ v3 v4 : Option V, σ = [some (.ref a), some (.int u), some (.int l), v3, v4] ∧ I (i + 1) 0 G, rt := Q } [some (.ref a), some (.int u), some (.int l), some (.int i), v4] G := fun c1 => by
        have il : i ≠ l := fun z => by
          rcases c1 with e | e
          · exact ne (e.symm.trans z)
          · rw [z, no] at e; cases e
        refine ⟨_, rfl, a, _, rfl, .inl (SqL.of (hA hI)), _, rfl, by rw [la']; omega, by rw [la']; omega, ?_⟩
        rw [la', Int.toNat_natCast]
        refine for_range (fun j σ G => ∃ v4 : Option V, σ = [some (.ref a), some (.int u), some (.int l), some (.int i), v4] ∧ I i j G) ⟨_, rfl, hI⟩ ?_ ?_
        · rintro j σ G hj ⟨v4, rfl, hI⟩
          have e0 : (0 : Int) + (j : Int) = (j : Int) := by omega
          rw [e0]
          have z := hI
          rw [eI] at z
          have row_l : G c2 = some (.lst ((List.range n).map fun w => V.bl (R l w))) := by
            rw [z.2 l c2 hc2]
            congr 2
            refine List.map_congr_left fun w _ => ?_
            by_cases e1 : l < i
            · rw [if_pos (.inl e1), low]
            · rw [if_neg (by omega)]
          have row_i := z.2 i c hc
          have put : (j = l ∨ R l j = true) → (gSub (tOp (rIxL K) (tVar 0) (tVar 3)) (tVar 4) rSetL) (V.bl true) [some (.ref a), some (.int u), some (.int l), some (.int i), some (.int j)] G fun σ G => ∃ v4 : Option V, σ = [some (.ref a), some (.int u), some (.int l), some (.int i), v4] ∧ I i (j + 1) G := fun c2' => by
            refine ⟨_, rfl, _, rfl, a, _, _, _, rfl, rfl, SqL.of (hA hI), ac, _, rfl, set_at row_i (ixN_nat (by rw [List.length_map, List.length_range]; exact hj)) fun G2 s2 h2 => ⟨_, rfl, ?_⟩⟩
            have ad : addW R u l i j = true := addW_iff.mpr (.inr ⟨c1, c2'⟩)
            rw [eI]
            refine ⟨fun d o nd e => s2 _ _ (fun y => nd (by rw [y]; exact List.mem_of_getElem? hc)) (z.1 d o nd e), fun k d hd => ?_⟩
            by_cases ek : k = i
            · subst ek
              rw [hc] at hd
              cases hd
              rw [h2, setR (fun w => if k < k ∨ (k = k ∧ w < j) then addW R u l k w else R k w) j hj]
              congr 2
              refine List.map_congr_left fun w _ => ?_
              by_cases ew : w = j
              · rw [if_pos ew, if_pos (by omega), ew, ad]
              · rw [if_neg ew]
                by_cases lw : w < j
                · rw [if_pos (by omega), if_pos (by omega)]
                · rw [if_neg (by omega), if_neg (by omega)]
            · have nd2 : d ≠ c := fun y => ek (nodup_atA nd hd (y ▸ hc))
              rw [s2 _ _ nd2 (z.2 k d hd)]
              congr 2
              refine List.map_congr_left fun w _ => ?_
              by_cases e1 : k < i
              · rw [if_pos (.inl e1), if_pos (.inl e1)]
              · rw [if_neg (by omega), if_neg (by omega)]
          refine ⟨_, rfl, _, rfl, rfl, _, rfl, ite2 (fun he => put (.inl (by have y := of_decide_eq_true he; injection y with y; omega))) fun hne => ?_⟩
          refine ⟨_, rfl, _, rfl, a, _, _, _, rfl, rfl, SqL.of (hA hI), ac2, _, rfl, c2, _, _, _, rfl, rfl, SqL.of row_l, cellR (R l) j hj, _, rfl, ite2 (fun hr => put (.inr hr)) fun hr => ⟨_, rfl, ?_⟩⟩
          have nj : ¬ j = l := fun y => hne (by rw [y]; exact decide_eq_true rfl)
          have ad : addW R u l i j = R i j := by
            rw [Bool.eq_iff_iff, addW_iff]
            exact ⟨fun y => y.elim id fun ⟨_, b⟩ => b.elim (fun b => absurd b nj) fun b => absurd b hr, .inl⟩
          rw [eI]
          refine ⟨z.1, fun k d hd => ?_⟩
          rw [z.2 k d hd]
          congr 2
          refine List.map_congr_left fun w _ => ?_
          by_cases e1 : k < i ∨ (k = i ∧ w < j)
          · rw [if_pos e1, if_pos (by omega)]
          · rw [if_neg e1]
            by_cases e2 : k = i ∧ w = j
            · rw [if_pos (by omega), e2.1, e2.2, ad]
            · rw [if_neg (by omega)]
        · rintro σ G ⟨v4, rfl, hI⟩
          refine ⟨_, _, rfl, ?_⟩
          have z := hI
          rw [eI] at z ⊢
          refine ⟨z.1, fun k d hd => ?_⟩
          rw [z.2 k d hd]
          congr 2
          refine List.map_congr_left fun w hw => ?_
          have wn := List.mem_range.mp hw
          by_cases e1 : k < i + 1
          · rw [if_pos (by omega), if_pos (.inl e1)]
          · rw [if_neg (by omega), if_neg (by omega)]
      refine ⟨_, rfl, _, rfl, rfl, _, rfl, ite2 (fun he => body (.inl (by have y := of_decide_eq_true he; injection y with y; omega))) fun hne => ?_⟩
      refine ⟨_, rfl, _, rfl, a, _, _, _, rfl, rfl, SqL.of (hA hI), ac, _, rfl, c, _, _, _, rfl, rfl, SqL.of row_i, cellR (R i) u un, _, rfl, ite2 (fun hr => body (.inr hr)) fun hr => ⟨_, _, rfl, skip fun w => ?_⟩⟩
      have ni : ¬ i = u := fun y => hne (by rw [y]; exact decide_eq_true rfl)
      rw [Bool.eq_iff_iff, addW_iff]
      exact ⟨fun y => y.elim id fun ⟨b, _⟩ => b.elim (fun b => absurd b ni) fun b => absurd b hr, .inl⟩
    · rintro σ G ⟨v3, v4, rfl, hI⟩
      rw [eI] at hI
      refine q G hI.1 fun k c hc => ?_
      have kn : k < n := by rw [← la]; exact (List.getElem?_eq_some_iff.mp hc).1
      rw [hI.2 k c hc]
      congr 2
      refine List.map_congr_left fun w _ => ?_
      rw [if_pos (.inl kn)]
end
end Hue

end
section
set_option maxRecDepth 100000
set_option maxHeartbeats 4000000
namespace L2
open PySem PySem.Spec PyProof.Rows
theorem hu_inD {X : Cx} (K : PySem.W.Frag) (hu : X.A.units + 65 < cLine) (hK : X.K = K := by rfl) : OpR X (compareOp .In) (rInD K) := by subst hK; exact op_inD hu
theorem Room.units65 {k : Nat} {A : Around} (r : Room k A) : A.units + 65 < cLine := by have := r.un; omega
end L2
namespace Hue
open PySem PySem.Spec PyProof.Rows L2
section
variable {P : Program} {w : World} {K : PySem.W.Frag} {mg : Str → Option Value} {base : Heap} {C : Addr}
theorem any_eqv {SS : List (List Int)} {D : List Int} : ((SS.map stD).any fun z => PyData.eqv z (stD D)) = decide (D ∈ SS) := by
  induction SS with
  | nil => rfl
  | cons S SS ih =>
    rw [List.map_cons, List.any_cons, ih, st_eqv]
    by_cases e : S = D
    · subst e; simp
    · have e2 : ¬ D = S := fun z => e z.symm
      simp [e, e2]
theorem sts_lay : ∀ SS : List (List Int), PyData.canLayAll0 (SS.map stD) = true
  | [] => by simp [PyData.canLayAll0]
  | S :: SS => by
    have z : PyData.canLay0 (stD S) = true := SeqAt.canLay_of_shaped (st_shaped S)
    simp [PyData.canLayAll0, z, sts_lay SS]
theorem stD_deep (S : List Int) : PyData.depth (stD S) ≤ 2 := by
  have := ints_deep S
  show PyData.depthAll (S.map .int) + 1 ≤ 2
  omega
theorem sts_deep : ∀ SS : List (List Int), PyData.depthAll (SS.map stD) ≤ 2
  | [] => by simp [PyData.depthAll]
  | S :: SS => by
    have := sts_deep SS
    have := stD_deep S
    simp only [List.map_cons, PyData.depthAll]
    omega
theorem sts_shaped (SS : List (List Int)) : SeqAt.shaped (.list (SS.map stD)) = true := by
  have h1 := sts_deep SS
  have h2 : PyData.depth (.list (SS.map stD)) ≤ 64 := by
    simp only [PyData.depth]
    omega
  show (PyData.canLay0 (.list (SS.map stD)) && decide (PyData.depth (.list (SS.map stD)) ≤ 64)) = true
  rw [decide_eq_true h2, Bool.and_true]
  simp only [PyData.canLay0]
  exact sts_lay SS
def pairI (p : Nat × Nat) : List Int := [(p.1 : Int), (p.2 : Int)]
theorem pairI_inj {p q : Nat × Nat} (h : pairI p = pairI q) : p = q := by
  obtain ⟨a, b⟩ := p
  obtain ⟨c, d⟩ := q
  injection h with h1 h2
  injection h2 with h2 _
  have h1 : (a : Int) = (c : Int) := h1
  have h2 : (b : Int) = (d : Int) := h2
  rw [Prod.mk.injEq]
  omega
theorem pairs_stD (ps : List (Nat × Nat)) : ps.map pairD = (ps.map pairI).map stD := by rw [List.map_map]; rfl
theorem mem_pairI {p : Nat × Nat} {ps : List (Nat × Nat)} : pairI p ∈ ps.map pairI ↔ p ∈ ps := by
  rw [List.mem_map]
  exact ⟨fun ⟨q, hq, e⟩ => by rw [← pairI_inj e]; exact hq, fun h => ⟨p, h, rfl⟩⟩
theorem all2_take {R : V → PyData → Prop} {xs : List V} {ds : List PyData} (a : All2 R xs ds) : ∀ i : Nat, All2 R (xs.take i) (ds.take i) := by
  induction a with
  | nil => intro i; simp; exact .nil
  | cons h r ih =>
    intro i
    cases i with
    | zero => exact .nil
    | succ i => exact .cons h (ih i)
theorem all2_drop {R : V → PyData → Prop} {xs : List V} {ds : List PyData} (a : All2 R xs ds) : ∀ i : Nat, All2 R (xs.drop i) (ds.drop i) := by
  induction a with
  | nil => intro i; simp; exact .nil
  | cons h r ih =>
    intro i
    cases i with
    | zero => exact .cons h r
    | succ i => exact ih i
theorem cut_takeV (xs : List V) (k : Nat) : cutV xs none (some (k : Int)) = xs.take k := by
  have z := cut_front (xs := xs) (l := xs) (g := id) (by simp) k
  simpa using z
theorem rep_bl (n : Nat) : (List.replicate ((n : Int)).toNat [V.bl false]).flatten = (List.range n).map fun _ => V.bl false := by
  rw [Int.toNat_natCast, List.map_const', List.length_range]
  induction n with
  | zero => rfl
  | succ n ih => rw [List.replicate_succ, List.flatten_cons, ih, List.replicate_succ]; rfl
abbrev s__law_fault : Stmt := top 32
theorem sc__law_fault : FnScope ["count", "wires", "under", "v", "spot", "wire", "upper", "lower"] ["count", "wires"] (defScope s__law_fault) := ⟨rfl, rfl, rfl, by decide +kernel, rfl, by decide +kernel, by decide +kernel⟩
-- slots of _law_fault: 0 count, 1 wires, 2 under, 3 v, 4 spot, 5 wire, 6 upper, 7 lower
def spFault : Sp := fun vs H Q _ => ∃ (a : Addr) (n : Nat) (xs : List V) (ds : List PyData), vs = [.int n, .ref a] ∧ 1 ≤ n ∧ n ≤ 16 ∧ H a = some (.lst xs) ∧ All2 (Lf2 H) xs ds ∧ xs.length ≤ 200 ∧
  (faultD n ds [] 0 = none → ∀ H', Same H H' → Q .non H') ∧ (∀ part i, faultD n ds [] 0 = some (part, i) → ∀ (t : Addr) (H' : Hp), Same H H' → H' t = some (.tup [.str part, .int (i : Nat)]) → Q (.ref t) H')
theorem ok__law_fault (T : Txt K mg C) {f : Addr} {fd : FuncData} (F : Fun K "_law_fault" "_law_fault" s__law_fault f fd) (c__law_lamp : Cal P w K mg base "_law_lamp" 1 spLampL) (c__law_hang : Cal P w K mg base "_law_hang" 1 spHang) : FnOk P w K mg base CX0 2 f fd ["count", "wires"] spFault := by
  refine F.ok sc__law_fault (fun vs H Q E h => ?_) (fun cdv A outer s H vs Q E hr h => ?_)
  · obtain ⟨a, n, xs, ds, rfl, _⟩ := h; rfl
  · obtain ⟨a, n, xs, ds, rfl, n1, n16, ha, al, few, qn, qs⟩ := h
    refine ⟨_, (pss_cons (ps_setLc (i := 2) (own := [("v", 3)]) (g := gName 3) (tt := tYes) rfl sc__law_fault.nd rfl rfl (sw_true rfl rfl rfl (by kernel_rfl)) (pi_range1 (by rfl) T.range (pa_cons (pv 0) pa_nil)) (blkOk_by (by kernel_rfl)) (fun _ _ _ _ _ => (pg_name (i := 3) sc__law_fault.nd rfl (by first | exact Or.inl rfl | exact Or.inr rfl))) (fun _ _ _ _ _ => pts_nil) (fun _ _ _ _ _ => (pe_op op_rep (pe_lst (pa_cons pe_bl pa_nil)) (pv 0))))
      (pss_cons (ps_for PassesOwn.never rfl (pi_range1 (by rfl) T.range (pa_cons (pe_callB (lenS_ K) (by rfl) T.len b_len (pa_cons (pv 1) pa_nil)) pa_nil)) (pg_name (i := 4) sc__law_fault.nd rfl (by first | exact Or.inl rfl | exact Or.inr rfl))
      (pss_cons (ps_set (i := 5) sc__law_fault.nd rfl (by first | exact Or.inl rfl | exact Or.inr rfl) (pe_ix (ixL_ K) (pv 1) (pv 4) (fun _ _ => rfl)))
      (pss_cons (ps_if (PW.pt (pw_or (pt_not (pt_val (pe_callB (isi_ K) (by rfl) T.isinstance b_isinstance (pa_cons (pv 5) (pa_cons (pe_bltn (v := .ty "tuple") (by rfl) T.tuple b_tuple rfl) pa_nil))))) (pw_or1 (pt_cmpR op_ne (pe_callB (lenS_ K) (by rfl) T.len b_len (pa_cons (pv 5) pa_nil)) pe_int (nomark _)))))
      (pss_one (ps_ret (pe_tup (pa_cons pe_str (pa_cons (pv 4) pa_nil))))) pss_nil)
      (pss_cons (ps_asg (pv 5) (pg_tup (by rfl) (pgs_cons (pg_name (i := 6) sc__law_fault.nd rfl (by first | exact Or.inl rfl | exact Or.inr rfl)) (pgs_cons (pg_name (i := 7) sc__law_fault.nd rfl (by first | exact Or.inl rfl | exact Or.inr rfl)) pgs_nil))))
      (pss_cons (ps_if (PW.pt (pw_or (pt_not (pt_val (pe_cal c__law_lamp (hr.mono (by decide)) (pa_cons (pv 0) (pa_cons (pv 6) pa_nil))))) (pw_or (pt_not (pt_val (pe_cal c__law_lamp (hr.mono (by decide)) (pa_cons (pv 0) (pa_cons (pv 7) pa_nil))))) (pw_or1 (pt_cmpR op_eq (pv 6) (pv 7) (nomark _))))))
      (pss_one (ps_ret (pe_tup (pa_cons pe_str (pa_cons (pv 4) pa_nil))))) pss_nil)
      (pss_cons (ps_if (pt_cmpR (hu_inD K hr.units65) (pv 5) (pe_slice (slL_ K) (pv 1) po_none (po_some (pv 4))) (by rfl))
      (pss_one (ps_ret (pe_tup (pa_cons pe_str (pa_cons (pv 4) pa_nil))))) pss_nil)
      (pss_cons (ps_if (pt_val (pe_ix (ixL_ K) (pe_ix (ixL_ K) (pv 2) (pv 7) (fun _ _ => rfl)) (pv 6) (fun _ _ => rfl)))
      (pss_one (ps_ret (pe_tup (pa_cons pe_str (pa_cons (pv 4) pa_nil))))) pss_nil)
      (pss_one (ps_expr (pe_cal c__law_hang (hr.mono (by decide)) (pa_cons (pv 2) (pa_cons (pv 6) (pa_cons (pv 7) pa_nil)))))))))))))
      (pss_one (ps_ret pe_non)))), ?_⟩
    refine ⟨_, rfl, _, rfl, by omega, by omega, fun D hD => ?_⟩
    rw [Int.toNat_natCast]
    refine lc_range (fun i G => ∃ as : List Addr, G D = some (.lst (as.map V.ref)) ∧ as.length = i ∧ as.Nodup ∧ (∀ c ∈ as, c ≠ D ∧ H c = none ∧ G c = some (.lst ((List.range n).map fun _ => V.bl false))) ∧ Same H G) ⟨[], upd_same, rfl, List.nodup_nil, fun c hc => by simp at hc, same_new hD⟩ ?_ ?_
    · rintro i G hi ⟨as, gD, la, nd, rows, sG⟩
      refine ⟨rfl, yesT ⟨by decide, fun zz nzz => ?_⟩⟩
      have t1 : Same G (L2.upd G zz (.lst [.bl false])) := same_new nzz
      refine ⟨_, rfl, zz, _, _, rfl, rfl, upd_same, by omega, by omega, ?_, fun p np => ?_⟩
      · rw [Int.toNat_natCast, sizeLine_eq]; show 1 * n ≤ _; omega
      rw [rep_bl]
      have t2 : Same G (L2.upd (L2.upd G zz (.lst [.bl false])) p (.lst ((List.range n).map fun _ => V.bl false))) := t1.trans (same_new np)
      have hp : (L2.upd (L2.upd G zz (.lst [.bl false])) p (.lst ((List.range n).map fun _ => V.bl false))) p = some (.lst ((List.range n).map fun _ => V.bl false)) := upd_same
      have np0 : H p = none := (sG.trans t1).free np
      have npD : p ≠ D := (ne_of_none (t1 _ _ gD) np).symm
      have nin : p ∉ as := fun m => by
        have z := t1 _ _ (rows p m).2.2
        rw [np] at z; cases z
      generalize L2.upd (L2.upd G zz (.lst [.bl false])) p (.lst ((List.range n).map fun _ => V.bl false)) = G2 at t2 hp ⊢
      refine ⟨_, t2 _ _ gD, by rw [List.length_map, la, sizeLine_eq]; omega, as ++ [p], by rw [upd_same, List.map_append]; rfl, by rw [List.length_append, la]; rfl, List.nodup_append.mpr ⟨nd, by simp, fun a ha c hc e => nin (by rw [List.mem_singleton.mp hc] at e; rw [← e]; exact ha)⟩, fun c hc => ?_, same_upd (sG.trans t2) hD⟩
      rcases List.mem_append.mp hc with hc | hc
      · obtain ⟨r1, r2, r3⟩ := rows c hc
        exact ⟨r1, r2, by rw [upd_ne r1]; exact t2 _ _ r3⟩
      · rw [List.mem_singleton.mp hc]
        exact ⟨npD, np0, by rw [upd_ne npD]; exact hp⟩
    rintro G ⟨as, gD, la, nd, rows, sG⟩
    have D0 : H D = none := hD
    have free0 : ∀ c ∈ as, H c = none := fun c hc => (rows c hc).2.1
    have nD : D ∉ as := fun m => (rows D m).1 rfl
    refine ⟨_, rfl, a, _, rfl, .inl (SqL.of (sG _ _ ha)), _, rfl, by omega, by omega, ?_⟩
    rw [Int.toNat_natCast]
    refine for_range (fun i σ G => ∃ (v5 v6 v7 v4 : Option V) (ps : List (Nat × Nat)), σ = [some (.int n), some (.ref a), some (.ref D), none, v4, v5, v6, v7] ∧ Same H G ∧ G D = some (.lst (as.map V.ref)) ∧ (∀ (k : Nat) c, as[k]? = some c → c ≠ D ∧ G c = some (.lst ((List.range n).map fun j => V.bl (relOf ps k j)))) ∧ ds.take i = ps.map pairD ∧ ps.length = i ∧ WsG n ps ∧ faultD n ds [] 0 = faultD n (ds.drop i) ps i)
      ⟨_, _, _, _, [], rfl, sG, gD, fun k c hc => ⟨(rows c (List.mem_of_getElem? hc)).1, (rows c (List.mem_of_getElem? hc)).2.2⟩, rfl, rfl, ⟨List.nodup_nil, fun p hp => absurd hp List.not_mem_nil, fun i => rfl⟩, rfl⟩ ?_ ?_
    · rintro i σ G hi ⟨v5, v6, v7, v4, ps, rfl, sG, gD, rows, tkd, lp, W, fl⟩
      have e0 : (0 : Int) + (i : Int) = (i : Int) := by omega
      rw [e0]
      obtain ⟨y, hy⟩ : ∃ y, xs[i]? = some y := ⟨_, List.getElem?_eq_getElem hi⟩
      obtain ⟨d, hd, od0⟩ := al.get hy
      have od := od0.same sG
      have dr : ds.drop i = d :: ds.drop (i + 1) := by
        obtain ⟨il, ed⟩ := List.getElem?_eq_some_iff.mp hd
        rw [List.drop_eq_getElem_cons il, ed]
      have tk1 : ds.take (i + 1) = ps.map pairD ++ [d] := by rw [List.take_add_one, hd, tkd]; rfl
      rw [dr, faultD_cons] at fl
      refine ⟨_, rfl, _, rfl, a, _, _, _, rfl, rfl, SqL.of (sG _ _ ha), atI_nat hy, ?_⟩
      have bad : wireD n d = none → ∀ t, G t = none → Q (.ref t) (L2.upd G t (.tup [.str "wire", .int (i : Int)])) := fun e t nt => qs _ _ (by rw [fl, e]) t _ (sG.trans (same_new nt)) upd_same
      cases od with
      | lf lv =>
        cases lv with
        | int z _ => exact ⟨_, rfl, _, _, _, _, false, rfl, .ty _, .base (.int z), kit_ty (by decide +kernel), false, rfl, iteT ⟨_, rfl, by show 2 ≤ sizeLine; decide, fun t nt => bad rfl t nt⟩⟩
        | bl z => exact ⟨_, rfl, _, _, _, _, false, rfl, .ty _, .base (.bl z), kit_ty (by decide +kernel), false, rfl, iteT ⟨_, rfl, by show 2 ≤ sizeLine; decide, fun t nt => bad rfl t nt⟩⟩
        | non => exact ⟨_, rfl, _, _, _, _, false, rfl, .ty _, .base (.non), kit_ty (by decide +kernel), false, rfl, iteT ⟨_, rfl, by show 2 ≤ sizeLine; decide, fun t nt => bad rfl t nt⟩⟩
        | str z _ _ => exact ⟨_, rfl, _, _, _, _, false, rfl, .ty _, .base (.str z), kit_ty (by decide +kernel), false, rfl, iteT ⟨_, rfl, by show 2 ≤ sizeLine; decide, fun t nt => bad rfl t nt⟩⟩
      | lst ht _ _ => exact ⟨_, rfl, _, _, _, _, false, rfl, .ty _, .base (.lst ht), kit_ty (by decide +kernel), false, rfl, iteT ⟨_, rfl, by show 2 ≤ sizeLine; decide, fun t nt => bad rfl t nt⟩⟩
      | @tup t ys es ht ay ly =>
        refine ⟨_, rfl, _, _, _, _, true, rfl, .ty _, .base (.tup ht), kit_ty (by decide +kernel), true, rfl, iteF ?_⟩
        refine ⟨_, rfl, t, _, rfl, .inr (SqT.of ht), rfl, _, rfl, ?_⟩
        have yl := ay.len
        match ys, es, ay, yl with
        | [], [], _, _ => exact iteT ⟨_, rfl, by show 2 ≤ sizeLine; decide, fun t nt => bad rfl t nt⟩
        | [_], [_], _, _ => exact iteT ⟨_, rfl, by show 2 ≤ sizeLine; decide, fun t nt => bad rfl t nt⟩
        | _ :: _ :: _ :: _, _ :: _ :: _ :: _, _, _ =>
          refine ifT ?_ ⟨_, rfl, by show 2 ≤ sizeLine; decide, fun t nt => bad rfl t nt⟩
          rw [decide_eq_false fun z => by
            injection z with z
            rw [List.length_cons, List.length_cons, List.length_cons] at z
            omega]
          rfl
        | [x, y], [d1, d2], .cons o1 (.cons o2 .nil), _ =>
          refine iteNS rfl ?_
          refine ⟨_, rfl, t, _, rfl, SqT.of ht, rfl, _, _, rfl, _, _, rfl, rfl, ?_⟩
          refine ⟨_, rfl, _, rfl, n, x, d1, rfl, o1, ?_⟩
          cases c1 : inB 0 ((n : Int) - 1) d1 with
          | false => exact ⟨false, rfl, iteT ⟨_, rfl, by show 2 ≤ sizeLine; decide, fun t nt => bad (by rw [wire2, c1]; rfl) t nt⟩⟩
          | true =>
            refine ⟨true, rfl, iteF ?_⟩
            refine ⟨_, rfl, _, rfl, n, y, d2, rfl, o2, ?_⟩
            cases c2 : inB 0 ((n : Int) - 1) d2 with
            | false => exact ⟨false, rfl, iteT ⟨_, rfl, by show 2 ≤ sizeLine; decide, fun t nt => bad (by rw [wire2, c1, c2]; rfl) t nt⟩⟩
            | true =>
              obtain ⟨u, rfl, u0, u1⟩ := inB_int c1
              obtain ⟨l, rfl, l0, l1⟩ := inB_int c2
              have ex := o1.int_
              have ey := o2.int_
              subst ex
              subst ey
              obtain ⟨u, rfl⟩ : ∃ k : Nat, u = k := ⟨u.toNat, by omega⟩
              obtain ⟨l, rfl⟩ : ∃ k : Nat, l = k := ⟨l.toNat, by omega⟩
              refine ⟨true, rfl, iteF ⟨_, rfl, _, rfl, rfl, _, rfl, ?_⟩⟩
              refine ite2 (fun he => ?_) fun hne => ?_
              · have e : (u : Int) = l := by have z := of_decide_eq_true he; injection z
                exact ⟨_, rfl, by show 2 ≤ sizeLine; decide, fun t nt => bad (by rw [wire2, c1, c2, if_pos (by rfl)]; show (if (u : Int) = l then none else some _) = none; rw [if_pos e]) t nt⟩
              have ne : ¬ (u : Int) = l := fun z => hne (by rw [z]; exact decide_eq_true rfl)
              have ew : wireD n (.tuple [.int (u : Int), .int (l : Int)]) = some (u, l) := by
                rw [wire2, c1, c2, if_pos (by rfl)]
                show (if (u : Int) = l then none else some ((u : Int).toNat, (l : Int).toNat)) = some (u, l)
                rw [if_neg ne]; rfl
              rw [ew] at fl
              simp only at fl
              have un : u < n := by omega
              have ln : l < n := by omega
              have ne2 : u ≠ l := fun z => ne (by rw [z])
              refine ⟨_, rfl, _, rfl, _, rfl, _, rfl, a, _, rfl, SqL.of (sG _ _ ha), fun cz ncz => ?_⟩
              rw [cut_takeV]
              have t1 : Same G (L2.upd G cz (.lst (xs.take i))) := same_new ncz
              have hcz : (L2.upd G cz (.lst (xs.take i))) cz = some (.lst (xs.take i)) := upd_same
              generalize L2.upd G cz (.lst (xs.take i)) = G2 at t1 hcz ⊢
              have s2 := sG.trans t1
              have gD2 := t1 _ _ gD
              have dpl : Dp K G2 (.ref cz) (.list ((ps.map pairI).map stD)) := by
                have z := all2_take al i
                rw [tkd, pairs_stD] at z
                exact .lst (SqL.of hcz) (all_dp (fun _ _ o => (o.same s2).dp) z)
              have dpv : Dp K G2 (.ref t) (stD (pairI (u, l))) := st_dp (S := pairI (u, l)) (t1 _ _ ht)
              refine ⟨_, _, dpv, dpl, st_shaped _, sts_shaped _, ?_⟩
              rw [any_eqv]
              have em : decide (pairI (u, l) ∈ ps.map pairI) = decide ((u, l) ∈ ps) := decide_eq_decide.mpr mem_pairI
              rw [em]
              refine ⟨_, rfl, ite2 (fun hm => ?_) fun hm => ?_⟩
              · have m := of_decide_eq_true hm
                rw [if_pos m] at fl
                exact ⟨_, rfl, by show 2 ≤ sizeLine; decide, fun t nt => qs _ _ fl t _ (s2.trans (same_new nt)) upd_same⟩
              have nm : (u, l) ∉ ps := fun z => hm (decide_eq_true z)
              rw [if_neg nm] at fl
              have ll : l < as.length := by rw [la]; exact ln
              obtain ⟨c2', hc2⟩ : ∃ c, as[l]? = some c := ⟨_, List.getElem?_eq_getElem ll⟩
              have hrow := t1 _ _ (rows l c2' hc2).2
              refine ⟨_, rfl, _, rfl, D, _, _, _, rfl, rfl, SqL.of gD2, atI_nat (show (as.map V.ref)[l]? = some (V.ref c2') by rw [List.getElem?_map, hc2]; rfl), _, rfl, c2', _, _, _, rfl, rfl, SqL.of hrow, atI_nat (show ((List.range n).map fun j => V.bl (relOf ps l j))[u]? = some (V.bl (relOf ps l u)) by rw [List.getElem?_map, List.getElem?_range un]; rfl), _, rfl, ?_⟩
              refine ite2 (fun hr => ?_) fun hr => ?_
              · rw [if_pos hr] at fl
                exact ⟨_, rfl, by show 2 ≤ sizeLine; decide, fun t nt => qs _ _ fl t _ (s2.trans (same_new nt)) upd_same⟩
              rw [if_neg hr] at fl
              refine ⟨_, rfl, _, rfl, _, rfl, D, n, u, l, relOf ps, as, rfl, n16, un, ln, ne2, Bool.eq_false_iff.mpr hr, gD2, la, nd, fun k c hc => ⟨(rows k c hc).1, t1 _ _ (rows k c hc).2⟩, fun G3 keep rows3 => ?_⟩
              refine ⟨_, _, _, _, ps ++ [(u, l)], rfl, fun c o e => keep c o (fun m => by rw [free0 c m] at e; cases e) (s2 _ _ e), keep _ _ nD gD2, fun k c hc => ⟨(rows k c hc).1, ?_⟩, by rw [tk1, List.map_append]; rfl, by rw [List.length_append, lp]; rfl, W.more un ln ne2 nm hr, fl⟩
              rw [rows3 k c hc, relOf_app]
    · rintro σ G ⟨v5, v6, v7, v4, ps, rfl, sG, gD, rows, tkd, lp, W, fl⟩
      rw [al.len, List.drop_length] at fl
      exact qn fl G sG
end
end Hue

end
section
set_option maxRecDepth 100000
set_option maxHeartbeats 4000000
namespace Hue
open PySem PySem.Spec PyProof.Rows L2
section
variable {P : Program} {w : World} {K : PySem.W.Frag} {mg : Str → Option Value} {base : Heap} {C CH CE C1 C2 C3 : Addr}
theorem pairs_get {H : Hp} {ts : List Addr} {ps : List (Nat × Nat)} (h : Pairs H ts ps) {i : Nat} {p : Nat × Nat} (hp : ps[i]? = some p) : ∃ t, ts[i]? = some t ∧ (ts.map V.ref)[i]? = some (V.ref t) ∧ H t = some (.tup [.int (p.1 : Int), .int (p.2 : Int)]) := by
  have l : i < ts.length := by rw [h.1]; exact (List.getElem?_eq_some_iff.mp hp).1
  exact ⟨ts[i], List.getElem?_eq_getElem l, by rw [List.getElem?_map, List.getElem?_eq_getElem l]; rfl, h.2 i _ _ (List.getElem?_eq_getElem l) hp⟩
abbrev s__law_pairs : Stmt := top 36
theorem sc__law_pairs : FnScope ["told", "due", "k"] ["told", "due"] (defScope s__law_pairs) := ⟨rfl, rfl, rfl, by decide +kernel, rfl, by decide +kernel, by decide +kernel⟩
-- slots of _law_pairs: 0 told, 1 due, 2 k
def spPairs : Sp := fun vs H Q _ => ∃ (a c : Addr) (us ts : List Addr) (ps : List (Nat × Nat)), vs = [.ref a, .ref c] ∧ H a = some (.tup (us.map V.ref)) ∧ Pairs H us ps ∧ H c = some (.lst (ts.map V.ref)) ∧ Pairs H ts ps ∧ ps.length < 1000 ∧ Q (.bl true) H
theorem ok__law_pairs (T : Txt K mg C) {f : Addr} {fd : FuncData} (F : Fun K "_law_pairs" "_law_pairs" s__law_pairs f fd) (c__law_number : Cal P w K mg base "_law_number" 1 spNumber) : FnOk P w K mg base CX0 2 f fd ["told", "due"] spPairs := by
  refine F.ok sc__law_pairs (fun vs H Q E h => ?_) (fun cdv A outer s H vs Q E hr h => ?_)
  · obtain ⟨a, c, us, ts, ps, rfl, _⟩ := h; rfl
  · obtain ⟨a, c, us, ts, ps, rfl, ha, hu, hc, ht, few, q⟩ := h
    refine ⟨_, (pss_cons (ps_if (PW.pt (pw_or (pt_not (pt_val (pe_callB (isi_ K) (by rfl) T.isinstance b_isinstance (pa_cons (pv 0) (pa_cons (pe_bltn (v := .ty "tuple") (by rfl) T.tuple b_tuple rfl) pa_nil))))) (pw_or1 (pt_cmpR op_ne (pe_callB (lenS_ K) (by rfl) T.len b_len (pa_cons (pv 0) pa_nil)) (pe_callB (lenS_ K) (by rfl) T.len b_len (pa_cons (pv 1) pa_nil)) (nomark _)))))
      (pss_one (ps_ret pe_bl)) pss_nil)
      (pss_cons (ps_for PassesOwn.never rfl (pi_range1 (by rfl) T.range (pa_cons (pe_callB (lenS_ K) (by rfl) T.len b_len (pa_cons (pv 1) pa_nil)) pa_nil)) (pg_name (i := 2) sc__law_pairs.nd rfl (by first | exact Or.inl rfl | exact Or.inr rfl))
      (pss_cons (ps_if (PW.pt (pw_or (pt_not (pt_val (pe_callB (isi_ K) (by rfl) T.isinstance b_isinstance (pa_cons (pe_ix (ixT_ K) (pv 0) (pv 2) (fun _ _ => rfl)) (pa_cons (pe_bltn (v := .ty "tuple") (by rfl) T.tuple b_tuple rfl) pa_nil))))) (pw_or1 (pt_cmpR op_ne (pe_callB (lenS_ K) (by rfl) T.len b_len (pa_cons (pe_ix (ixT_ K) (pv 0) (pv 2) (fun _ _ => rfl)) pa_nil)) pe_int (nomark _)))))
      (pss_one (ps_ret pe_bl)) pss_nil)
      (pss_one (ps_if (PW.pt (pw_or (pt_not (pt_val (pe_cal c__law_number (hr.mono (by decide)) (pa_cons (pe_ix (ixT_ K) (pe_ix (ixT_ K) (pv 0) (pv 2) (fun _ _ => rfl)) pe_int (fun _ _ => rfl)) (pa_cons (pe_ix (ixT_ K) (pe_ix (ixL_ K) (pv 1) (pv 2) (fun _ _ => rfl)) pe_int (fun _ _ => rfl)) pa_nil))))) (pw_or1 (pt_not (pt_val (pe_cal c__law_number (hr.mono (by decide)) (pa_cons (pe_ix (ixT_ K) (pe_ix (ixT_ K) (pv 0) (pv 2) (fun _ _ => rfl)) pe_int (fun _ _ => rfl)) (pa_cons (pe_ix (ixT_ K) (pe_ix (ixL_ K) (pv 1) (pv 2) (fun _ _ => rfl)) pe_int (fun _ _ => rfl)) pa_nil))))))))
      (pss_one (ps_ret pe_bl)) pss_nil))))
      (pss_one (ps_ret pe_bl)))), ?_⟩
    refine ⟨_, rfl, _, _, _, _, true, rfl, .ty _, .base (.tup ha), kit_ty (by decide +kernel), true, rfl, iteF ?_⟩
    refine ⟨_, rfl, a, _, rfl, .inr (SqT.of ha), _, rfl, c, _, rfl, .inl (SqL.of hc), rfl, _, rfl, ?_⟩
    refine ite2 (fun hn => ?_) (fun _ => ?_)
    · rw [List.length_map, List.length_map, hu.1, ht.1, decide_eq_true rfl] at hn
      cases hn
    refine ⟨_, rfl, c, _, rfl, .inl (SqL.of hc), _, rfl, by rw [List.length_map, ht.1]; omega, by rw [List.length_map, ht.1]; omega, ?_⟩
    have en : (((ts.map V.ref).length : Int)).toNat = ps.length := by rw [List.length_map, ht.1]; omega
    rw [en]
    refine for_range (fun i σ H2 => H2 = H ∧ ∃ v, σ = [some (.ref a), some (.ref c), v]) ⟨rfl, _, rfl⟩ ?_ ?_
    · rintro i σ H2 hi ⟨rfl, v, rfl⟩
      have e0 : (0 : Int) + (i : Int) = (i : Int) := by omega
      rw [e0]
      obtain ⟨p, hp⟩ : ∃ p, ps[i]? = some p := ⟨_, List.getElem?_eq_getElem hi⟩
      obtain ⟨u, hu1, hu2, hu3⟩ := pairs_get hu hp
      obtain ⟨t, ht1, ht2, ht3⟩ := pairs_get ht hp
      refine ⟨_, rfl, _, rfl, a, _, _, _, rfl, rfl, SqT.of ha, atI_nat hu2, _, _, _, _, true, rfl, .ty _, .base (.tup hu3), kit_ty (by decide +kernel), true, rfl, iteF ?_⟩
      refine ⟨_, rfl, _, rfl, a, _, _, _, rfl, rfl, SqT.of ha, atI_nat hu2, u, _, rfl, .inr (SqT.of hu3), rfl, _, rfl, ?_⟩
      refine ite2 (fun hn => ?_) (fun _ => ?_)
      · cases hn
      refine ⟨_, rfl, _, rfl, a, _, _, _, rfl, rfl, SqT.of ha, atI_nat hu2, u, _, _, _, rfl, rfl, SqT.of hu3, atI_nat (j := 0) rfl, _, rfl, _, rfl, c, _, _, _, rfl, rfl, SqL.of hc, atI_nat ht2, t, _, _, _, rfl, rfl, SqT.of ht3, atI_nat (j := 0) rfl, _, rfl, true, rfl, iteF ?_⟩
      exact ⟨_, rfl, _, rfl, a, _, _, _, rfl, rfl, SqT.of ha, atI_nat hu2, u, _, _, _, rfl, rfl, SqT.of hu3, atI_nat (j := 1) rfl, _, rfl, _, rfl, c, _, _, _, rfl, rfl, SqL.of hc, atI_nat ht2, t, _, _, _, rfl, rfl, SqT.of ht3, atI_nat (j := 1) rfl, _, rfl, true, rfl, iteF ⟨rfl, _, rfl⟩⟩
    · rintro σ H2 ⟨rfl, v, rfl⟩
      exact q

/-! ### asked, with its refusal -/
structure TxQ (K : PySem.W.Frag) (mg : Str → Option Value) (CH CE C1 C2 C3 : Addr) : Prop where
  gE : mg "HuefallError" = some (.ref CE)
  gH : mg "InvalidHouse" = some (.ref CH)
  g1 : mg "InvalidLamp" = some (.ref C1)
  g2 : mg "InvalidNumber" = some (.ref C2)
  g3 : mg "InvalidState" = some (.ref C3)
  xc : XCls K CH
  xg : XGlob K
  ex : PySem.W.exmOne K (.ref CH) (.ref CE) = some true
  exs : PySem.W.exmOne K (.ref CH) (.ref CH) = some true
  ks : PySem.W.kitOne K (.ref CH) (.ref CH) = some true
  k1 : PySem.W.kitOne K (.ref CH) (.ref C1) = some false
  k2 : PySem.W.kitOne K (.ref CH) (.ref C2) = some false
  k3 : PySem.W.kitOne K (.ref CH) (.ref C3) = some false
  kv : PySem.W.kitOne K (.ref CH) (.type "ValueError") = some true
  nl : PySem.W.findIn K (.ref CH) "part" = some none
theorem b_ValueError : bootBuiltins ("ValueError" : Str) = some (.type "ValueError") := by decide +kernel
theorem leP_anti {p q : Nat × Nat} (a : leP p q) (b : leP q p) : p = q := by
  obtain ⟨p1, p2⟩ := p
  obtain ⟨q1, q2⟩ := q
  have a' : ¬ (q1 < p1 ∨ (q1 = p1 ∧ q2 < p2)) := a
  have b' : ¬ (p1 < q1 ∨ (p1 = q1 ∧ p2 < q2)) := b
  have e1 : p1 = q1 := by omega
  have e2 : p2 = q2 := by omega
  rw [e1, e2]
theorem srt_ext : ∀ {l m : List (Nat × Nat)}, l.Pairwise leP → m.Pairwise leP → l.Nodup → m.Nodup → (∀ p, p ∈ l ↔ p ∈ m) → l = m
  | [], m, _, _, _, _, h => (List.eq_nil_iff_forall_not_mem.mpr fun p hp => by cases (h p).mpr hp).symm
  | x :: l, [], _, _, _, _, h => by cases (h x).mp List.mem_cons_self
  | x :: l, y :: m, hl, hm, nl, nm, h => by
    obtain ⟨hl1, hl2⟩ := List.pairwise_cons.mp hl
    obtain ⟨hm1, hm2⟩ := List.pairwise_cons.mp hm
    obtain ⟨nl1, nl2⟩ := List.nodup_cons.mp nl
    obtain ⟨nm1, nm2⟩ := List.nodup_cons.mp nm
    have e : x = y := by
      rcases List.mem_cons.mp ((h x).mp List.mem_cons_self) with e | e
      · exact e
      · rcases List.mem_cons.mp ((h y).mpr List.mem_cons_self) with e2 | e2
        · exact e2.symm
        · exact leP_anti (hl1 y e2) (hm1 x e)
    subst e
    rw [srt_ext hl2 hm2 nl2 nm2 fun p => ?_]
    constructor
    · intro hp
      rcases List.mem_cons.mp ((h p).mp (List.mem_cons_of_mem _ hp)) with z | z
      · rw [z] at hp; exact absurd hp nl1
      · exact z
    · intro hp
      rcases List.mem_cons.mp ((h p).mpr (List.mem_cons_of_mem _ hp)) with z | z
      · rw [z] at hp; exact absurd hp nm1
      · exact z
theorem perm_eq {qs qs2 ps ps2 : List (Nat × Nat)} (a : PermS qs ps) (b : PermS qs2 ps2) (n1 : ps.Nodup) (n2 : ps2.Nodup) : qs = qs2 ↔ ∀ p, p ∈ ps ↔ p ∈ ps2 := by
  constructor
  · intro e p
    rw [← a.1.mem_iff, ← b.1.mem_iff, e]
  · intro h
    exact srt_ext a.2 b.2 (a.1.nodup_iff.mpr n1) (b.1.nodup_iff.mpr n2) fun p => by rw [a.1.mem_iff, b.1.mem_iff]; exact h p
theorem kitAny3 {K : PySem.W.Frag} {S A B D : Addr} (a : PySem.W.kitOne K (.ref S) (.ref A) = some false) (b : PySem.W.kitOne K (.ref S) (.ref B) = some false) (c : PySem.W.kitOne K (.ref S) (.ref D) = some false) : PySem.W.kitAny K (.ref S) [.ref A, .ref B, .ref D] = some false := by
  unfold PySem.W.kitAny
  rw [a]
  show PySem.W.kitAny K (.ref S) [.ref B, .ref D] = some false
  unfold PySem.W.kitAny
  rw [b]
  show PySem.W.kitAny K (.ref S) [.ref D] = some false
  unfold PySem.W.kitAny
  rw [c]
  rfl
theorem houseAt_sm {H H' : Hp} {x : Addr} {n h : Nat} {R : Rel} (a : HouseAt C H x n h R) (s : Same H H') : HouseAt C H' x n h R := by
  obtain ⟨dx, fs, be, o, h1, h2, h3, h4, h5, h6, h7, h8, h9⟩ := a
  exact ⟨dx, fs, be, o, s _ _ h1, h2, h3, h4, h5.same s, h6, s _ _ h7, h8, h9⟩

theorem lk_part {p : Str} {i : Nat} : List.lookup ("part" : Str) [(("index" : Str), V.int (i : Nat)), (("part" : Str), V.str p)] = some (V.str p) := by
  rw [List.lookup_cons]
  rfl
theorem lk_index {p : Str} {i : Nat} : List.lookup ("index" : Str) [(("index" : Str), V.int (i : Nat)), (("part" : Str), V.str p)] = some (V.int (i : Nat)) := rfl
theorem sqA_same {H H' : Hp} {a : Addr} {xs : List V} (h : SqA K H a xs) (s : Same H H') : SqA K H' a xs := h.elim (fun h => .inl (Same.sqL s h)) fun h => .inr (Same.tup s h)
/-- a house with its wires in order -/
def HsW (C : Addr) (H : Hp) (x : Addr) (n h : Nat) (ps : List (Nat × Nat)) : Prop := HouseAt C H x n h (relOf ps) ∧ HouseX C H x n ps
abbrev s__law_asked : Stmt := top 33
theorem sc__law_asked : FnScope ["count", "hues", "wires", "house", "raised"] ["count", "hues", "wires"] (defScope s__law_asked) := ⟨rfl, rfl, rfl, by decide +kernel, rfl, by decide +kernel, by decide +kernel⟩
-- slots of _law_asked: 0 count, 1 hues, 2 wires, 3 house, 4 raised
def spAsked (K : PySem.W.Frag) (C : Addr) : Sp := fun vs H Q _ => ∃ (a : Addr) (cv hv : V) (cd hd : PyData) (xs : List V) (ds : List PyData), vs = [cv, hv, .ref a] ∧ Lf2 H cv cd ∧ Lf2 H hv hd ∧ SqA K H a xs ∧ All2 (Lf2 H) xs ds ∧ xs.length < 4900 ∧
  (∀ part i, houseD cd hd ds = some (part, i) → ∀ (t : Addr) (H' : Hp), Same H H' → H' t = some (.tup [.bl false, .str part, .int (i : Nat)]) → Q (.ref t) H') ∧
  (houseD cd hd ds = none → ∀ (n h : Nat) (ps : List (Nat × Nat)), cd = .int n → hd = .int h → 1 ≤ n → n ≤ 16 → 2 ≤ h → h ≤ 10 → ds = ps.map pairD → WsG n ps → ∀ (t x : Addr) (H' : Hp), Same H H' → H' t = some (.tup [.bl true, .ref x]) → HsW C H' x n h ps → Q (.ref t) H')
theorem ok__law_asked (T : Txt K mg C) (TE : TxQ K mg CH CE C1 C2 C3) (ni : PySem.W.findIn K (.ref CH) "index" = some none) {f : Addr} {fd : FuncData} (F : Fun K "_law_asked" "_law_asked" s__law_asked f fd) (x_House : NCalX P w K mg base C "House" 5 (spInitX K C CH)) : FnOk P w K mg base CX0 7 f fd ["count", "hues", "wires"] (spAsked K C) := by
  refine F.ok sc__law_asked (fun vs H Q E h => ?_) (fun cdv A outer s H vs Q E hr h => ?_)
  · obtain ⟨a, cv, hv, cd, hd, xs, ds, rfl, _⟩ := h; rfl
  · obtain ⟨a, cv, hv, cd, hd, xs, ds, rfl, oc, oh, ha, al, few, bad, good⟩ := h
    refine ⟨_, (pss_cons (ps_try_as (i := 4) (Wout := fun _ _ _ _ => False) rfl rfl sc__law_asked.nd rfl rfl ⟨rfl, by decide, Or.inl TE.gE⟩ takes0
        (fun W pn xe tk _ => pss_one (ps_set (i := 3) sc__law_asked.nd rfl (by first | exact Or.inl rfl | exact Or.inr rfl) (pe_ncalW x_House tk (hr.mono (by decide)) (pa_cons (pv 0) (pa_cons (pv 1) (pa_cons (pv 2) pa_nil))))))
        (fun a oe cls d pn hz hf =>
          (pss_cons (ps_if (PW.pt (pw_or (pt_not (pt_val (pe_callB (cr_isX TE.xc TE.xg hz hf) (by rfl) T.isinstance b_isinstance (pa_cons (pv 4) (pa_cons (pe_glob (v := .ref CH) (by rfl) TE.gH rfl) pa_nil))))) (pw_or1 (pt_not (pt_val (pe_callB (cr_isX TE.xc TE.xg hz hf) (by rfl) T.isinstance b_isinstance (pa_cons (pv 4) (pa_cons (pe_bltn (v := .ty "ValueError") (by rfl) T.ValueError b_ValueError rfl) pa_nil)))))))) (pss_one (ps_ret (pe_tup (pa_cons pe_bl (pa_cons pe_str (pa_cons (pe_un un_neg pe_int) pa_nil)))))) pss_nil)
          (pss_cons (ps_if (pt_val (pe_callB (cr_isX TE.xc TE.xg hz hf) (by rfl) T.isinstance b_isinstance (pa_cons (pv 4) (pa_cons (pe_tup (pa_cons (pe_glob (v := .ref C1) (by rfl) TE.g1 rfl) (pa_cons (pe_glob (v := .ref C2) (by rfl) TE.g2 rfl) (pa_cons (pe_glob (v := .ref C3) (by rfl) TE.g3 rfl) pa_nil)))) pa_nil)))) (pss_one (ps_ret (pe_tup (pa_cons pe_bl (pa_cons pe_str (pa_cons (pe_un un_neg pe_int) pa_nil)))))) pss_nil)
          (pss_one (ps_ret (pe_tup (pa_cons pe_bl (pa_cons (pe_xf TE.xc.xf TE.nl hz hf (pv 4)) (pa_cons (pe_xf TE.xc.xf ni hz hf (pv 4)) pa_nil))))))))))
      (pss_one (ps_ret (pe_tup (pa_cons pe_bl (pa_cons (pv 3) pa_nil)))))), ?_⟩
    refine ⟨_, rfl, _, rfl, _, rfl, fun x dx nx ndx ne => ?_⟩
    have s12 : Same H (L2.upd (L2.upd H dx (.own x)) x (.ins C dx [])) := fun c o e => by
      rw [upd_ne (ne_of_none e nx), upd_ne (ne_of_none e ndx)]; exact e
    refine ⟨x, dx, a, cv, hv, cd, hd, xs, ds, rfl, upd_same, oc.same s12, oh.same s12, sqA_same ha s12, al.imp fun _ _ o => o.same s12, few, fun part i hf d H' nd s hd' => ?_, fun hn n h ps e1 e2 n1 n16 h2 h10 eds W H' sb at_ xx => ⟨rfl, ?_⟩⟩
    · have sH : Same H H' := fun c o e => s c o (ne_of_none e nx) (s12 c o e)
      refine ⟨true, TE.ex, fun _ a na => ?_, fun q => Bool.noConfusion q⟩
      refine ⟨_, rfl, rfl, ⟨d, _, rfl, hd'⟩, .inl ⟨CH, true, rfl, TE.ks, true, rfl, iteF ?_⟩⟩
      refine ⟨_, rfl, rfl, ⟨d, _, rfl, hd'⟩, .inr (.inl ⟨"ValueError", true, rfl, TE.kv, true, rfl, iteF ?_⟩)⟩
      refine ⟨_, rfl, by show 3 ≤ sizeLine; decide, fun tp np => ?_⟩
      have t1 : Same H' (L2.upd H' tp (.tup [.ref C1, .ref C2, .ref C3])) := same_new np
      refine ⟨rfl, ⟨d, _, rfl, t1 _ _ hd'⟩, .inr (.inr ⟨tp, [C1, C2, C3], false, rfl, upd_same, kitAny3 TE.k1 TE.k2 TE.k3, false, rfl, iteF ?_⟩)⟩
      refine ⟨_, rfl, rfl, rfl, d, _, _, rfl, t1 _ _ hd', lk_part, ?_⟩
      refine ⟨_, rfl, rfl, rfl, d, _, _, rfl, t1 _ _ hd', lk_index, ?_⟩
      dsimp only [tNil]
      refine ⟨by show 3 ≤ sizeLine; decide, fun t nt => ?_⟩
      exact bad part i hf t _ (sH.trans (t1.trans (same_new nt))) upd_same
    · have sH : Same H H' := fun c o e => sb c o (ne_of_none e nx) (s12 c o e)
      refine ⟨_, rfl, by show 2 ≤ sizeLine; decide, fun t nt => ?_⟩
      exact good hn n h ps e1 e2 n1 n16 h2 h10 eds W t x _ (sH.trans (same_new nt)) upd_same ⟨houseAt_sm at_ (same_new nt), xx.same (same_new nt)⟩
abbrev s__law_refused : Stmt := top 34
theorem sc__law_refused : FnScope ["told", "part", "index"] ["told", "part", "index"] (defScope s__law_refused) := ⟨rfl, rfl, rfl, by decide +kernel, rfl, by decide +kernel, by decide +kernel⟩
-- slots of _law_refused: 0 told, 1 part, 2 index
def spRefusedL : Sp := fun vs H Q _ => ∃ (t : Addr) (part : Str) (i : Nat), vs = [.ref t, .str part, .int i] ∧ H t = some (.tup [.bl false, .str part, .int i]) ∧ Q (.bl true) H
theorem ok__law_refused (T : Txt K mg C) {f : Addr} {fd : FuncData} (F : Fun K "_law_refused" "_law_refused" s__law_refused f fd) (c__law_number : Cal P w K mg base "_law_number" 1 spNumber) : FnOk P w K mg base CX0 2 f fd ["told", "part", "index"] spRefusedL := by
  refine F.ok sc__law_refused (fun vs H Q E h => ?_) (fun cdv A outer s H vs Q E hr h => ?_)
  · obtain ⟨t, part, i, rfl, _⟩ := h; rfl
  · obtain ⟨t, part, i, rfl, ht, q⟩ := h
    refine ⟨_, (pss_cons (ps_if (PW.pt (pw_or (pt_val (pe_ix (ixT_ K) (pv 0) pe_int (fun _ _ => rfl))) (pw_or (pt_not (pt_val (pe_callB (isi_ K) (by rfl) T.isinstance b_isinstance (pa_cons (pe_ix (ixT_ K) (pv 0) pe_int (fun _ _ => rfl)) (pa_cons (pe_bltn (v := .ty "str") (by rfl) T.str b_str rfl) pa_nil))))) (pw_or1 (pt_not (pt_val (pe_cal c__law_number (hr.mono (by decide)) (pa_cons (pe_ix (ixT_ K) (pv 0) pe_int (fun _ _ => rfl)) (pa_cons (pv 2) pa_nil)))))))))
      (pss_one (ps_ret pe_bl)) pss_nil)
      (pss_one (ps_ret (pe_cmpR op_eq (pe_ix (ixT_ K) (pv 0) pe_int (fun _ _ => rfl)) (pv 1) (nomark _))))), ?_⟩
    refine ⟨_, rfl, t, _, _, _, rfl, rfl, SqT.of ht, atI_nat (j := 0) rfl, false, rfl, iteF ?_⟩
    refine ⟨_, rfl, t, _, _, _, rfl, rfl, SqT.of ht, atI_nat (j := 1) rfl, _, _, _, _, true, rfl, .ty _, .base (.str part), kit_ty (by decide +kernel), true, rfl, iteF ?_⟩
    refine ⟨_, rfl, t, _, _, _, rfl, rfl, SqT.of ht, atI_nat (j := 2) rfl, _, rfl, (i : Int), rfl, true, rfl, iteF ?_⟩
    refine ⟨_, rfl, t, _, _, _, rfl, rfl, SqT.of ht, atI_nat (j := 1) rfl, _, rfl, rfl, ?_⟩
    rw [decide_eq_true rfl]
    exact q
abbrev s__law_made : Stmt := top 37
theorem sc__law_made : FnScope ["told", "count", "hues", "due", "house"] ["told", "count", "hues", "due"] (defScope s__law_made) := ⟨rfl, rfl, rfl, by decide +kernel, rfl, by decide +kernel, by decide +kernel⟩
-- slots of _law_made: 0 told, 1 count, 2 hues, 3 due, 4 house
def spMade (C : Addr) : Sp := fun vs H Q _ => ∃ (t x : Addr) (d : Addr) (n h : Nat) (ps qs : List (Nat × Nat)) (ts : List Addr), vs = [.ref t, .int n, .int h, .ref d] ∧ H t = some (.tup [.bl true, .ref x]) ∧ HsW C H x n h ps ∧ H d = some (.lst (ts.map V.ref)) ∧ Pairs H ts qs ∧ PermS qs ps ∧ ps.Nodup ∧ ps.length < 1000 ∧ Q (.bl true) H
theorem ok__law_made (T : Txt K mg C) {f : Addr} {fd : FuncData} (F : Fun K "_law_made" "_law_made" s__law_made f fd) (c__law_number : Cal P w K mg base "_law_number" 1 spNumber) (c__law_pairs : Cal P w K mg base "_law_pairs" 2 spPairs) : FnOk P w K mg base CX0 3 f fd ["told", "count", "hues", "due"] (spMade C) := by
  refine F.ok sc__law_made (fun vs H Q E h => ?_) (fun cdv A outer s H vs Q E hr h => ?_)
  · obtain ⟨t, x, d, n, h, ps, qs, ts, rfl, _⟩ := h; rfl
  · obtain ⟨t, x, d, n, h, ps, qs, ts, rfl, ht, hx, hd, hp, pm, nd, few, q⟩ := h
    refine ⟨_, (pss_cons (ps_if (pt_not (pt_val (pe_ix (ixT_ K) (pv 0) pe_int (fun _ _ => rfl))))
      (pss_one (ps_ret pe_bl)) pss_nil)
      (pss_cons (ps_set (i := 4) sc__law_made.nd rfl (by first | exact Or.inl rfl | exact Or.inr rfl) (pe_ix (ixT_ K) (pv 0) pe_int (fun _ _ => rfl)))
      (pss_cons (ps_if (PW.pt (pw_or (pt_not (pt_val (pe_cal c__law_number (hr.mono (by decide)) (pa_cons (fld_ K (pv 4)) (pa_cons (pv 1) pa_nil))))) (pw_or1 (pt_not (pt_val (pe_cal c__law_number (hr.mono (by decide)) (pa_cons (fld_ K (pv 4)) (pa_cons (pv 2) pa_nil))))))))
      (pss_one (ps_ret pe_bl)) pss_nil)
      (pss_one (ps_ret (pe_cal c__law_pairs (hr.mono (by decide)) (pa_cons (fld_ K (pv 4)) (pa_cons (pv 3) pa_nil)))))))), ?_⟩
    obtain ⟨⟨dx, fs, be, o, h1, h2, h3, h4, h5, h6, h7, h8, h9⟩, ⟨dx', fs', ab, di, l, us, qs', g1, g2, g3, g4, g5, g6, g7, g8, g9, g10⟩⟩ := hx
    rw [h1] at g1
    injection g1 with g1
    injection g1 with _ g1a g1b
    subst g1b
    have eq : qs' = qs := (perm_eq g9 pm nd nd).mpr fun p => Iff.rfl
    subst eq
    refine ⟨_, rfl, t, _, _, _, rfl, rfl, SqT.of ht, atI_nat (j := 0) rfl, true, rfl, iteF ?_⟩
    refine ⟨_, rfl, t, _, _, _, rfl, rfl, SqT.of ht, atI_nat (j := 1) rfl, ?_⟩
    refine ⟨_, rfl, x, C, dx, _, _, rfl, h1, T.cl, T.nCount, h2, _, rfl, (n : Int), rfl, true, rfl, iteF ?_⟩
    refine ⟨_, rfl, x, C, dx, _, _, rfl, h1, T.cl, T.nHues, h3, _, rfl, (h : Int), rfl, true, rfl, iteF ?_⟩
    exact ⟨_, rfl, x, C, dx, _, _, rfl, h1, T.cl, T.nWires, g6, _, rfl, l, d, us, ts, qs', rfl, g7, g8, hd, hp, by rw [g9.1.length_eq]; exact few, q⟩
end
end Hue

end
section
set_option maxRecDepth 100000
set_option maxHeartbeats 4000000
namespace Hue
open PySem PySem.Spec PyProof.Rows L2
section
variable {P : Program} {w : World} {K : PySem.W.Frag} {mg : Str → Option Value} {base : Heap} {C : Addr}
/-! ### wires without a fault are pairs -/
theorem fault_none {n : Nat} : ∀ {ds : List PyData} {ps : List (Nat × Nat)} {i : Nat}, faultD n ds ps i = none → WsG n ps → ∃ qs, ds = qs.map pairD ∧ WsG n (ps ++ qs)
  | [], ps, i, _, W => ⟨[], rfl, by rw [List.append_nil]; exact W⟩
  | d :: ds, ps, i, h, W => by
    rw [faultD_cons] at h
    cases e : wireD n d with
    | none => rw [e] at h; cases h
    | some p =>
      rw [e] at h
      simp only at h
      obtain ⟨ed, l1, l2, ne⟩ := wire_some e
      by_cases m : p ∈ ps
      · rw [if_pos m] at h; cases h
      rw [if_neg m] at h
      by_cases r : relOf ps p.2 p.1 = true
      · rw [if_pos r] at h; cases h
      rw [if_neg r] at h
      obtain ⟨qs, e2, W2⟩ := fault_none h (W.more l1 l2 ne m r)
      refine ⟨p :: qs, by rw [ed, e2]; rfl, ?_⟩
      rw [List.append_assoc] at W2
      exact W2
theorem fault_pairs {n : Nat} {ds : List PyData} (h : faultD n ds [] 0 = none) : ∃ ps, ds = ps.map pairD ∧ WsG n ps := by
  obtain ⟨qs, e, W⟩ := fault_none h ⟨List.nodup_nil, fun p hp => absurd hp List.not_mem_nil, fun i => rfl⟩
  exact ⟨qs, e, W⟩
theorem pairD_inj : ∀ {ps qs : List (Nat × Nat)}, ps.map pairD = qs.map pairD → ps = qs
  | [], [], _ => rfl
  | [], _ :: _, e => by cases e
  | _ :: _, [], e => by cases e
  | p :: ps, q :: qs, e => by
    rw [List.map_cons, List.map_cons] at e
    injection e with e1 e2
    have e3 : p = q := by
      obtain ⟨a, b⟩ := p
      obtain ⟨c, d⟩ := q
      have e1 : PyData.tuple [.int (a : Int), .int (b : Int)] = .tuple [.int (c : Int), .int (d : Int)] := e1
      injection e1 with e1
      injection e1 with x y
      injection x with x
      injection y with y _
      injection y with y
      rw [Prod.mk.injEq]
      omega
    rw [e3, pairD_inj e2]
abbrev s__law_ranges_right : Stmt := top 39
theorem sc__law_ranges_right : FnScope ["box", "count", "hues", "wires", "odd", "some"] ["box", "count", "hues", "wires"] (defScope s__law_ranges_right) := ⟨rfl, rfl, rfl, by decide +kernel, rfl, by decide +kernel, by decide +kernel⟩
-- slots of _law_ranges_right: 0 box, 1 count, 2 hues, 3 wires, 4 odd, 5 some
def spRanges : Sp := fun vs H Q _ => ∃ (b ga la a : Addr) (n h : Nat) (xs : List V) (ds : List PyData), vs = [.ref b, .int n, .int h, .ref a] ∧ 1 ≤ n ∧ n ≤ 16 ∧ 2 ≤ h ∧ h ≤ 10 ∧ Bx H b ga la ∧ a ≠ b ∧ H a = some (.lst xs) ∧ All2 (Lf2 H) xs ds ∧ xs.length ≤ 200 ∧ ∀ H' : Hp, SB b H H' → Bx H' b ga la → Q (.bl true) H'
theorem ok__law_ranges_right (T : Txt K mg C) {f : Addr} {fd : FuncData} (F : Fun K "_law_ranges_right" "_law_ranges_right" s__law_ranges_right f fd) (c__law_odd : Cal P w K mg base "_law_odd" 2 spOdd) (c__law_asked : Cal P w K mg base "_law_asked" 7 (spAsked K C)) (c__law_refused : Cal P w K mg base "_law_refused" 2 spRefusedL) (c__law_made : Cal P w K mg base "_law_made" 3 (spMade C)) {E0 : Addr} (c_House0 : NCalD P w K mg base C "House" 5 (spInit K C) [.ref E0]) (hT0 : ∀ H : Hp, SqT K H E0 []) : FnOk P w K mg base CX0 8 f fd ["box", "count", "hues", "wires"] spRanges := by
  refine F.ok sc__law_ranges_right (fun vs H Q E h => ?_) (fun cdv A outer s H vs Q E hr h => ?_)
  · obtain ⟨b, ga, la, a, n, h, xs, ds, rfl, _⟩ := h; rfl
  · obtain ⟨b, ga, la, a, n, h, xs, ds, rfl, n1, n16, h2, h10, hb, ab, ha, al, few, q⟩ := h
    refine ⟨_, (pss_cons (ps_for PassesOwn.never rfl (pil_ K (pe_lst (pa_cons pe_int (pa_cons pe_int (pa_cons (pe_cal c__law_odd (hr.mono (by decide)) (pa_cons (pv 0) (pa_cons pe_int (pa_cons pe_int pa_nil)))) pa_nil))))) (pg_name (i := 4) sc__law_ranges_right.nd rfl (by first | exact Or.inl rfl | exact Or.inr rfl))
      (pss_one (ps_for PassesOwn.never rfl (pil_ K (pe_lst (pa_cons (pv 2) (pa_cons (pe_cal c__law_odd (hr.mono (by decide)) (pa_cons (pv 0) (pa_cons pe_int (pa_cons pe_int pa_nil)))) pa_nil)))) (pg_name (i := 5) sc__law_ranges_right.nd rfl (by first | exact Or.inl rfl | exact Or.inr rfl))
      (pss_one (ps_if (pt_not (pt_val (pe_cal c__law_refused (hr.mono (by decide)) (pa_cons (pe_cal c__law_asked (hr.mono (by decide)) (pa_cons (pv 4) (pa_cons (pv 5) (pa_cons (pe_callTy (lstOf_ K) (by rfl) T.list b_list (pa_cons (pv 3) pa_nil)) pa_nil)))) (pa_cons pe_str (pa_cons pe_int pa_nil))))))
      (pss_one (ps_ret pe_bl)) pss_nil)))))
      (pss_cons (ps_for PassesOwn.never rfl (pil_ K (pe_lst (pa_cons pe_int (pa_cons pe_int (pa_cons (pe_cal c__law_odd (hr.mono (by decide)) (pa_cons (pv 0) (pa_cons pe_int (pa_cons pe_int pa_nil)))) pa_nil))))) (pg_name (i := 4) sc__law_ranges_right.nd rfl (by first | exact Or.inl rfl | exact Or.inr rfl))
      (pss_cons (ps_if (pt_not (pt_val (pe_cal c__law_refused (hr.mono (by decide)) (pa_cons (pe_cal c__law_asked (hr.mono (by decide)) (pa_cons (pv 1) (pa_cons (pv 4) (pa_cons (pe_callTy (lstOf_ K) (by rfl) T.list b_list (pa_cons (pv 3) pa_nil)) pa_nil)))) (pa_cons pe_str (pa_cons pe_int pa_nil))))))
      (pss_one (ps_ret pe_bl)) pss_nil)
      (pss_one (ps_if (pt_not (pt_val (pe_cal c__law_refused (hr.mono (by decide)) (pa_cons (pe_cal c__law_asked (hr.mono (by decide)) (pa_cons (pv 1) (pa_cons (pv 4) (pa_cons (pe_callTy (tupOf_ K) (by rfl) T.tuple b_tuple (pa_cons (pv 3) pa_nil)) pa_nil)))) (pa_cons pe_str (pa_cons pe_int pa_nil))))))
      (pss_one (ps_ret pe_bl)) pss_nil))))
      (pss_cons (ps_if (pt_not (pt_val (pe_cal c__law_made (hr.mono (by decide)) (pa_cons (pe_tup (pa_cons pe_bl (pa_cons (pe_ncalD c_House0 (hr.mono (by decide)) (pa_cons pe_int (pa_cons pe_int pa_nil))) pa_nil))) (pa_cons pe_int (pa_cons pe_int (pa_cons (pe_lst pa_nil) pa_nil)))))))
      (pss_one (ps_ret pe_bl)) pss_nil)
      (pss_one (ps_ret (pe_cal c__law_made (hr.mono (by decide)) (pa_cons (pe_tup (pa_cons pe_bl (pa_cons (pe_ncalD c_House0 (hr.mono (by decide)) (pa_cons pe_int (pa_cons pe_int pa_nil))) pa_nil))) (pa_cons pe_int (pa_cons pe_int (pa_cons (pe_lst pa_nil) pa_nil)))))))))), ?_⟩
    have cnt : ∀ {d e : PyData}, inB 1 16 d = false → houseD d e ds = some (("count" : Str), 0) := fun o => by unfold houseD; rw [if_neg (by rw [o]; exact Bool.false_ne_true)]
    have nin : inB 1 16 (.int (n : Int)) = true := by
      show (decide ((1 : Int) ≤ n) && decide ((n : Int) ≤ 16)) = true
      rw [decide_eq_true (by omega), decide_eq_true (by omega)]; rfl
    have hue : ∀ {e : PyData}, inB 2 10 e = false → houseD (.int (n : Int)) e ds = some (("hues" : Str), 0) := fun o => by unfold houseD; rw [if_pos nin, if_neg (by rw [o]; exact Bool.false_ne_true)]
    have inInt : ∀ {lo hi : Int} {m : Nat}, lo ≤ m → (m : Int) ≤ hi → inB lo hi (.int (m : Int)) = true := fun l u => by
      show (decide _ && decide _) = true
      rw [decide_eq_true l, decide_eq_true u]; rfl
    have ln : Lf2 H (.int (n : Int)) (.int (n : Int)) := .lf (lfI (by omega) (by omega))
    have lh : Lf2 H (.int (h : Int)) (.int (h : Int)) := .lf (lfI (by omega) (by omega))
    -- what stands while the box is drawn from
    have keepA : ∀ {G : Hp}, SB b H G → G a = some (.lst xs) := fun s => s _ _ ab ha
    have keepL : ∀ {G : Hp}, SB b H G → All2 (Lf2 G) xs ds := fun s => al.imp fun _ _ o => o.sb hb s
    refine ⟨_, rfl, b, ga, la, 1, 16, rfl, by decide, by decide, by decide, by decide, hb, fun v d H1 s1 b1 o1 out1 => ⟨by show 3 ≤ sizeLine; decide, fun L nL_ => ?_⟩⟩
    have t1 : Same H1 (L2.upd H1 L (.lst [.int 0, .int 17, v])) := same_new nL_
    have hL : (L2.upd H1 L (.lst [.int 0, .int 17, v])) L = some (.lst [.int 0, .int 17, v]) := upd_same
    have nLb := (b1.new nL_).1
    generalize L2.upd H1 L (.lst [.int 0, .int 17, v]) = H2 at t1 hL ⊢
    have s2 := s1.trans (SB.of t1)
    have b2 := b1.same t1
    have o2 := o1.same t1
    refine ⟨L, rfl, ⟨_, SqL.of hL⟩, ?_⟩
    refine for_list (K := K) (a := L) (xs := [.int 0, .int 17, v]) (fun i σ G => ∃ v4 v5 : Option V, σ = [some (.ref b), some (.int n), some (.int h), some (.ref a), v4, v5] ∧ SB b H2 G ∧ Bx G b ga la) ⟨_, _, rfl, SB.refl _ _, b2⟩ (fun i σ G _ ⟨_, _, _, s, _⟩ => SqL.of (s _ _ nLb hL)) ?_ ?_
    · rintro i y σ G hy ⟨v4, v5, rfl, sG, bG⟩
      obtain ⟨dy, oy, outy⟩ : ∃ dy, Lf2 G y dy ∧ inB 1 16 dy = false := by
        match i, hy with
        | 0, hy => cases hy; exact ⟨_, .lf (lfI (i := 0) (by decide) (by decide)), rfl⟩
        | 1, hy => cases hy; exact ⟨_, .lf (lfI (i := 17) (by decide) (by decide)), rfl⟩
        | 2, hy => cases hy; exact ⟨_, o2.sb b2 sG, out1⟩
        | i + 3, hy => simp at hy
      refine ⟨_, rfl, _, rfl, b, ga, la, 2, 10, rfl, by decide, by decide, by decide, by decide, bG, fun v' d' H3 s3 b3 o3 out3 => ⟨by show 2 ≤ sizeLine; decide, fun M nM => ?_⟩⟩
      have t4 : Same H3 (L2.upd H3 M (.lst [.int (h : Int), v'])) := same_new nM
      have hM : (L2.upd H3 M (.lst [.int (h : Int), v'])) M = some (.lst [.int (h : Int), v']) := upd_same
      generalize L2.upd H3 M (.lst [.int (h : Int), v']) = H4 at t4 hM ⊢
      have s24 := (sG.trans s3).trans (SB.of t4)
      have b4 := b3.same t4
      have oy4 := (oy.sb bG s3).same t4
      have o4 := o3.same t4
      refine ⟨M, rfl, ⟨_, SqL.of hM⟩, ?_⟩
      refine for_list (K := K) (a := M) (xs := [.int (h : Int), v']) (fun j σ G => ∃ v5 : Option V, σ = [some (.ref b), some (.int n), some (.int h), some (.ref a), some y, v5] ∧ Same H4 G) ⟨_, rfl, Same.refl _⟩ (fun j σ G _ ⟨_, _, s⟩ => SqL.of (s _ _ hM)) ?_ ?_
      · rintro j z σ G hz ⟨v5, rfl, sG4⟩
        obtain ⟨dz, oz⟩ : ∃ dz, Lf2 G z dz := by
          match j, hz with
          | 0, hz => cases hz; exact ⟨_, .lf (lfI (i := (h : Int)) (by omega) (by omega))⟩
          | 1, hz => cases hz; exact ⟨_, o4.same sG4⟩
          | j + 2, hz => simp at hz
        have sHG := (s2.trans s24).trans (SB.of (x := b) sG4)
        refine ⟨_, rfl, _, rfl, _, rfl, a, _, rfl, .inl (SqL.of (keepA sHG)), fun hz nhz => ?_⟩
        have t5 : Same G (L2.upd G hz (.lst xs)) := same_new nhz
        refine ⟨hz, y, z, dy, dz, xs, ds, rfl, (oy4.same sG4).same t5, oz.same t5, .inl (SqL.of upd_same), (keepL sHG).imp fun _ _ o => o.same t5, by omega, fun part k hf t H' s ht => ?_, fun _ n' h' ps e1 e2 n1' n16' _ _ _ _ => ?_⟩
        · rw [cnt outy] at hf
          cases hf
          exact ⟨t, "count", 0, rfl, ht, true, rfl, iteF ⟨_, rfl, (sG4.trans t5).trans s⟩⟩
        · rw [e1, inInt (by omega) (by omega)] at outy; cases outy
      · rintro σ G ⟨v5, rfl, sG4⟩
        exact ⟨_, _, rfl, s24.trans (SB.of sG4), b4.same sG4⟩
    clear hL o1 o2 t1 nLb
    rintro σ G ⟨v4, v5, rfl, sG, bG⟩
    have sHG := s2.trans sG
    clear sG s2 b2
    refine ⟨_, rfl, b, ga, la, 2, 10, rfl, by decide, by decide, by decide, by decide, bG, fun v d H1 s1 b1 o1 out1 => ⟨by show 3 ≤ sizeLine; decide, fun L nL_ => ?_⟩⟩
    have t1 : Same H1 (L2.upd H1 L (.lst [.int 1, .int 11, v])) := same_new nL_
    have hL : (L2.upd H1 L (.lst [.int 1, .int 11, v])) L = some (.lst [.int 1, .int 11, v]) := upd_same
    generalize L2.upd H1 L (.lst [.int 1, .int 11, v]) = H2 at t1 hL ⊢
    have s2 := (sHG.trans s1).trans (SB.of t1)
    have b2 := b1.same t1
    have o2 := o1.same t1
    refine ⟨L, rfl, ⟨_, SqL.of hL⟩, ?_⟩
    refine for_list (K := K) (a := L) (xs := [.int 1, .int 11, v]) (fun i σ G => ∃ v4 : Option V, σ = [some (.ref b), some (.int n), some (.int h), some (.ref a), v4, v5] ∧ Same H2 G) ⟨_, rfl, Same.refl _⟩ (fun i σ G _ ⟨_, _, s⟩ => SqL.of (s _ _ hL)) ?_ ?_
    · rintro i y σ G hy ⟨v4, rfl, sG⟩
      obtain ⟨dy, oy, outy⟩ : ∃ dy, Lf2 G y dy ∧ inB 2 10 dy = false := by
        match i, hy with
        | 0, hy => cases hy; exact ⟨_, .lf (lfI (i := 1) (by decide) (by decide)), rfl⟩
        | 1, hy => cases hy; exact ⟨_, .lf (lfI (i := 11) (by decide) (by decide)), rfl⟩
        | 2, hy => cases hy; exact ⟨_, o2.same sG, out1⟩
        | i + 3, hy => simp at hy
      have sHG := s2.trans (SB.of (x := b) sG)
      have lnG : Lf2 G (.int (n : Int)) (.int (n : Int)) := .lf (lfI (by omega) (by omega))
      refine ⟨_, rfl, _, rfl, _, rfl, a, _, rfl, .inl (SqL.of (keepA sHG)), fun hz nhz => ?_⟩
      have t5 : Same G (L2.upd G hz (.lst xs)) := same_new nhz
      refine ⟨hz, _, y, _, dy, xs, ds, rfl, lnG.same t5, oy.same t5, .inl (SqL.of upd_same), (keepL sHG).imp fun _ _ o => o.same t5, by omega, fun part k hf t H' s ht => ?_, fun _ n' h' ps e1 e2 _ _ h2' h10' _ _ => ?_⟩
      · rw [hue outy] at hf
        cases hf
        refine ⟨t, "hues", 0, rfl, ht, true, rfl, iteF ?_⟩
        have t6 := t5.trans s
        have sH' := sHG.trans (SB.of (x := b) t6)
        refine ⟨_, rfl, _, rfl, _, rfl, a, _, rfl, .inl ⟨SqL.of (keepA sH'), fun tz ntz => ?_⟩⟩
        have t7 : Same H' (L2.upd H' tz (.tup xs)) := same_new ntz
        refine ⟨tz, _, y, _, dy, xs, ds, rfl, (lnG.same t6).same t7, (oy.same t6).same t7, .inr (SqT.of upd_same), (keepL sH').imp fun _ _ o => o.same t7, by omega, fun part k hf t2 H'' s' ht2 => ?_, fun _ n' h' ps e1 e2 _ _ h2' h10' _ _ => ?_⟩
        · rw [hue outy] at hf
          cases hf
          exact ⟨t2, "hues", 0, rfl, ht2, true, rfl, iteF ⟨_, rfl, ((sG.trans t6).trans t7).trans s'⟩⟩
        · rw [e2, inInt (by omega) (by omega)] at outy; cases outy
      · rw [e2, inInt (by omega) (by omega)] at outy; cases outy
    rintro σ G ⟨v4, rfl, sG⟩
    have sF := s2.trans (SB.of (x := b) sG)
    have bF := b2.same sG
    have pnil : ∀ G : Hp, Pairs G [] [] := fun G => ⟨rfl, fun i t p a _ => by simp at a⟩
    have wnil : ∀ (G : Hp) (m : Nat), Wires K G E0 m [] := fun G m => ⟨⟨[], .inr (hT0 _), pnil G⟩, List.nodup_nil, by decide, fun p hp => (by cases hp), fun _ => 0, fun p hp => (by cases hp)⟩
    have perm0 : PermS [] [] := ⟨List.Perm.refl _, List.Pairwise.nil⟩
    refine fun x dx nx ndx ne => ⟨x, dx, E0, 1, 2, [], rfl, upd_same, by decide, by decide, by decide, by decide, wnil _ _, fun H' s a1 a2 => ⟨rfl, ?_⟩⟩
    have sX : Same G H' := fun c o e => s c o (ne_of_none e nx) (by rw [upd_ne (ne_of_none e nx), upd_ne (ne_of_none e ndx)]; exact e)
    refine ⟨by show 2 ≤ sizeLine; decide, fun t nt => ⟨by show 0 ≤ sizeLine; decide, fun z nz => ?_⟩⟩
    have t1 : Same H' (L2.upd (L2.upd H' t (.tup [.bl true, .ref x])) z (.lst [])) := (same_new nt).trans (same_new nz)
    have ht : (L2.upd (L2.upd H' t (.tup [.bl true, .ref x])) z (.lst [])) t = some (.tup [.bl true, .ref x]) := (same_new nz) _ _ upd_same
    have hz : (L2.upd (L2.upd H' t (.tup [.bl true, .ref x])) z (.lst [])) z = some (.lst (([] : List Addr).map V.ref)) := upd_same
    generalize L2.upd (L2.upd H' t (.tup [.bl true, .ref x])) z (.lst []) = G1 at t1 ht hz ⊢
    refine ⟨t, x, z, 1, 2, [], [], [], rfl, ht, ⟨houseAt_sm a1 t1, a2.same t1⟩, hz, pnil _, perm0, List.nodup_nil, by show 0 < 1000; decide, true, rfl, iteF ?_⟩
    have sG1 := sX.trans t1
    clear nx ndx ne nt nz s a1 a2
    refine fun x dx nx ndx ne => ⟨x, dx, E0, 16, 10, [], rfl, upd_same, by decide, by decide, by decide, by decide, wnil _ _, fun H' s a1 a2 => ⟨rfl, ?_⟩⟩
    have sX : Same G1 H' := fun c o e => s c o (ne_of_none e nx) (by rw [upd_ne (ne_of_none e nx), upd_ne (ne_of_none e ndx)]; exact e)
    refine ⟨by show 2 ≤ sizeLine; decide, fun t nt => ⟨by show 0 ≤ sizeLine; decide, fun z nz => ?_⟩⟩
    have t2 : Same H' (L2.upd (L2.upd H' t (.tup [.bl true, .ref x])) z (.lst [])) := (same_new nt).trans (same_new nz)
    have ht : (L2.upd (L2.upd H' t (.tup [.bl true, .ref x])) z (.lst [])) t = some (.tup [.bl true, .ref x]) := (same_new nz) _ _ upd_same
    have hz : (L2.upd (L2.upd H' t (.tup [.bl true, .ref x])) z (.lst [])) z = some (.lst (([] : List Addr).map V.ref)) := upd_same
    have sAll := (sG1.trans sX).trans t2
    exact ⟨t, x, z, 16, 10, [], [], [], rfl, ht, ⟨houseAt_sm a1 t2, a2.same t2⟩, hz, pnil _, perm0, List.nodup_nil, by show 0 < 1000; decide, q _ (sF.trans (SB.of sAll)) (bF.same sAll)⟩
end
end Hue

end
section
set_option maxRecDepth 100000
set_option maxHeartbeats 4000000
namespace Hue
open PySem PySem.Spec PyProof.Rows L2
section
variable {P : Program} {w : World} {K : PySem.W.Frag} {mg : Str → Option Value} {base : Heap} {C : Addr}
/-! ### a house that is let -/
theorem pairs_all {H : Hp} : ∀ {ts : List Addr} {ps : List (Nat × Nat)}, Pairs H ts ps → (∀ p ∈ ps, p.1 < 1000 ∧ p.2 < 1000) → All2 (Lf2 H) (ts.map V.ref) (ps.map pairD)
  | [], [], _, _ => .nil
  | [], _ :: _, h, _ => by have := h.1; simp at this
  | _ :: _, [], h, _ => by have := h.1; simp at this
  | t :: ts, p :: ps, h, b => by
    obtain ⟨b1, b2⟩ := b p List.mem_cons_self
    exact .cons (lf_two (h.2 0 t p rfl rfl) (.lf (lfI (by omega) (by omega))) (.lf (lfI (by omega) (by omega)))) (pairs_all ⟨by have := h.1; simpa using this, fun i c r e f => h.2 (i + 1) c r e f⟩ fun q hq => b q (List.mem_cons_of_mem _ hq))
/-- a list that was frozen is no part of a house -/
theorem hsW_over {H G : Hp} {x d : Addr} {n h : Nat} {ps : List (Nat × Nat)} {od : Obj} {u : HO} (a : HsW C H x n h ps) (hd : H d = some (.frz od u)) (k : ∀ c o, c ≠ d → H c = some o → G c = some o) : HsW C G x n h ps := by
  obtain ⟨⟨dx, fs, be, oo, h1, h2, h3, h4, h5, h6, h7, h8, h9⟩, ⟨dx', fs', ab, di, l, us, qs, g1, g2, g3, g4, g5, g6, g7, g8, g9, g10⟩⟩ := a
  have lay : ∀ {c : Addr} {v : HO}, H c = some v → v ≠ .frz od u → G c = some v := fun e ne => k _ _ (ne_of e hd ne) e
  have rows : ∀ {c : Addr} {rs : List (List Nat)}, Rows H c rs → Rows G c rs := fun ⟨as, r1, r2, r3⟩ => ⟨as, lay r1 (by intro z; cases z), r2, fun i c r hc hr => lay (r3 i c r hc hr) (by intro z; cases z)⟩
  exact ⟨⟨dx, fs, be, oo, lay h1 (by intro z; cases z), h2, h3, h4, rows h5, h6, lay h7 (by intro z; cases z), h8, h9⟩, ⟨dx', fs', ab, di, l, us, qs, lay g1 (by intro z; cases z), g2, rows g3, g4, rows g5, g6, lay g7 (by intro z; cases z), ⟨g8.1, fun i t p e f => lay (g8.2 i t p e f) (by intro z; cases z)⟩, g9, g10⟩⟩
theorem eqv_sh {d : PyData} (h : SeqAt.shaped d = true) : PyData.eqv d d = true := SeqAt.eqv_refl d (SeqAt.canLay_of_shaped h)
abbrev s__law_let : Stmt := top 38
theorem sc__law_let : FnScope ["count", "hues", "wires", "due", "handed", "told"] ["count", "hues", "wires"] (defScope s__law_let) := ⟨rfl, rfl, rfl, by decide +kernel, rfl, by decide +kernel, by decide +kernel⟩
-- slots of _law_let: 0 count, 1 hues, 2 wires, 3 due, 4 handed, 5 told
def spLet : Sp := fun vs H Q _ => ∃ (a : Addr) (n h : Nat) (xs : List V) (ds : List PyData), vs = [.int n, .int h, .ref a] ∧ 1 ≤ n ∧ n ≤ 16 ∧ 2 ≤ h ∧ h ≤ 10 ∧ H a = some (.lst xs) ∧ All2 (Lf2 H) xs ds ∧ xs.length ≤ 200 ∧ faultD n ds [] 0 = none ∧ ∀ H' : Hp, Same H H' → Q (.bl true) H'
theorem ok__law_let (T : Txt K mg C) {f : Addr} {fd : FuncData} (F : Fun K "_law_let" "_law_let" s__law_let f fd) (c__law_asked : Cal P w K mg base "_law_asked" 7 (spAsked K C)) (c__law_made : Cal P w K mg base "_law_made" 3 (spMade C)) {E0 : Addr} (c_House0 : NCalD P w K mg base C "House" 5 (spInit K C) [.ref E0]) (hT0 : ∀ H : Hp, SqT K H E0 []) : FnOk P w K mg base CX0 8 f fd ["count", "hues", "wires"] spLet := by
  refine F.ok sc__law_let (fun vs H Q E h => ?_) (fun cdv A outer s H vs Q E hr h => ?_)
  · obtain ⟨a, n, h, xs, ds, rfl, _⟩ := h; rfl
  · obtain ⟨a, n, h, xs, ds, rfl, n1, n16, h2, h10, ha, al, few, hf, q⟩ := h
    obtain ⟨ps, eds, W⟩ := fault_pairs hf
    subst eds
    obtain ⟨ts, rfl, hps⟩ := pairs_of al
    have few : ps.length ≤ 200 := by rw [← hps.1]; rw [List.length_map] at few; exact few
    have small : ∀ p ∈ ps, p.1 < 1000 ∧ p.2 < 1000 := fun p hp => by have := W.lt p hp; omega
    refine ⟨_, (pss_cons (ps_set (i := 3) sc__law_let.nd rfl (by first | exact Or.inl rfl | exact Or.inr rfl) (pe_callB (sortPS_ K) (by rfl) T.sorted b_sorted (pa_cons (pv 2) pa_nil)))
      (pss_cons (ps_set (i := 4) sc__law_let.nd rfl (by first | exact Or.inl rfl | exact Or.inr rfl) (pe_callTy (lstOf_ K) (by rfl) T.list b_list (pa_cons (pv 2) pa_nil)))
      (pss_cons (ps_set (i := 5) sc__law_let.nd rfl (by first | exact Or.inl rfl | exact Or.inr rfl) (pe_lock (pe_cal c__law_asked (hr.mono (by decide)) (pa_cons (pv 0) (pa_cons (pv 1) (pa_cons (pv 4) pa_nil))))))
      (pss_cons (ps_if (PW.pt (pw_or (pt_cmpR (hu_neD K hr.units) (pv 4) (pv 2) (nomark _)) (pw_or1 (pt_not (pt_val (pe_cal c__law_made (hr.mono (by decide)) (pa_cons (pv 5) (pa_cons (pv 0) (pa_cons (pv 1) (pa_cons (pv 3) pa_nil))))))))))
      (pss_one (ps_ret pe_bl)) pss_nil)
      (pss_cons (ps_expr (pe_bm PySem.F.plainAttrs_list PySem.F.slot_list_append PySem.F.type_list_append mt_append (pv 4) (pa_cons (pe_tup (pa_cons pe_int (pa_cons pe_int pa_nil))) pa_nil)))
      (pss_cons (ps_expr (pe_bm0 PySem.F.plainAttrs_list PySem.F.slot_list_reverse PySem.F.type_list_reverse mt_reverse (pv 4)))
      (pss_cons (ps_if (pt_not (pt_val (pe_cal c__law_made (hr.mono (by decide)) (pa_cons (pv 5) (pa_cons (pv 0) (pa_cons (pv 1) (pa_cons (pv 3) pa_nil)))))))
      (pss_one (ps_ret pe_bl)) pss_nil)
      (pss_cons (ps_if (pt_not (pt_val (pe_cal c__law_made (hr.mono (by decide)) (pa_cons (pe_cal c__law_asked (hr.mono (by decide)) (pa_cons (pv 0) (pa_cons (pv 1) (pa_cons (pe_callTy (tupOf_ K) (by rfl) T.tuple b_tuple (pa_cons (pv 2) pa_nil)) pa_nil)))) (pa_cons (pv 0) (pa_cons (pv 1) (pa_cons (pv 3) pa_nil)))))))
      (pss_one (ps_ret pe_bl)) pss_nil)
      (pss_one (ps_ret (pe_cal c__law_made (hr.mono (by decide)) (pa_cons (pe_tup (pa_cons pe_bl (pa_cons (pe_ncalD c_House0 (hr.mono (by decide)) (pa_cons (pv 0) (pa_cons (pv 1) pa_nil))) pa_nil))) (pa_cons (pv 0) (pa_cons (pv 1) (pa_cons (pe_lst pa_nil) pa_nil))))))))))))))), ?_⟩
    refine ⟨_, rfl, a, ts.map V.ref, kOf H, rfl, .inl (SqL.of ha), fun y hy => ?_, fun ys c perm so nc => ?_⟩
    · obtain ⟨t, ht, rfl⟩ := List.mem_map.mp hy
      obtain ⟨j, hj, e⟩ := List.getElem_of_mem ht
      have jl : j < ps.length := by rw [← hps.1]; exact hj
      have e2 := hps.2 j t ps[j] (by rw [List.getElem?_eq_getElem hj, e]) (List.getElem?_eq_getElem jl)
      exact ⟨t, rfl, by rw [kOf_ref e2]; exact e2⟩
    obtain ⟨us, qs, eys, hus, pqs⟩ := pairs_perm hps perm
    have kq : ∀ (i : Nat) t r, us[i]? = some t → qs[i]? = some r → kOf H (.ref t) = ((r.1 : Int), (r.2 : Int)) := fun i t r e1 e2 => kOf_ref (hus.2 i t r e1 e2)
    have pqs : PermS qs ps := ⟨pqs, by
      rw [List.pairwise_iff_getElem]
      intro i j hi hj ij
      have li : i < us.length := by rw [hus.1]; exact hi
      have lj : j < us.length := by rw [hus.1]; exact hj
      rw [eys, List.pairwise_map, List.pairwise_iff_getElem] at so
      have z := so i j li lj ij
      rw [kq i _ _ (List.getElem?_eq_getElem li) (List.getElem?_eq_getElem hi), kq j _ _ (List.getElem?_eq_getElem lj) (List.getElem?_eq_getElem hj)] at z
      show ¬ (qs[j].1 < qs[i].1 ∨ (qs[j].1 = qs[i].1 ∧ qs[j].2 < qs[i].2))
      intro y
      refine z ?_
      show ((qs[j].1 : Int) < (qs[i].1 : Int) ∨ ((qs[j].1 : Int) = (qs[i].1 : Int) ∧ (qs[j].2 : Int) < (qs[i].2 : Int)))
      omega⟩
    rw [eys]
    have s1 : Same H (L2.upd H c (.lst (us.map V.ref))) := same_new nc
    have hc1 : (L2.upd H c (.lst (us.map V.ref))) c = some (.lst (us.map V.ref)) := upd_same
    generalize L2.upd H c (.lst (us.map V.ref)) = H1 at s1 hc1 ⊢
    refine ⟨_, rfl, a, _, rfl, .inl (SqL.of (s1 _ _ ha)), fun hz nhz => ?_⟩
    have t2 : Same H1 (L2.upd H1 hz (.lst (ts.map V.ref))) := same_new nhz
    have hh2 : (L2.upd H1 hz (.lst (ts.map V.ref))) hz = some (.lst (ts.map V.ref)) := upd_same
    have hz0 : H hz = none := s1.free nhz
    generalize L2.upd H1 hz (.lst (ts.map V.ref)) = H2 at t2 hh2 ⊢
    have s2 := s1.trans t2
    have inInt : ∀ {lo hi : Int} {m : Nat}, lo ≤ m → (m : Int) ≤ hi → inB lo hi (.int (m : Int)) = true := fun l u => by
      show (decide _ && decide _) = true
      rw [decide_eq_true l, decide_eq_true u]; rfl
    have hd0 : houseD (.int (n : Int)) (.int (h : Int)) (ps.map pairD) = none := by
      unfold houseD
      rw [if_pos (inInt (by omega) (by omega)), if_pos (inInt (by omega) (by omega))]
      exact hf
    have ln : ∀ G : Hp, Lf2 G (.int (n : Int)) (.int (n : Int)) := fun G => .lf (lfI (by omega) (by omega))
    have lh : ∀ G : Hp, Lf2 G (.int (h : Int)) (.int (h : Int)) := fun G => .lf (lfI (by omega) (by omega))
    have nch : c ≠ hz := ne_of_none hc1 nhz
    have nah : a ≠ hz := ne_of_none ha hz0
    refine ⟨hz, .lst (ts.map V.ref), hh2, trivial, fun od => ?_⟩
    have kF : ∀ c o, c ≠ hz → H2 c = some o → (L2.upd H2 hz (.frz od (.lst (ts.map V.ref)))) c = some o := fun c o ne e => by rw [upd_ne ne]; exact e
    have hF : (L2.upd H2 hz (.frz od (.lst (ts.map V.ref)))) hz = some (.frz od (.lst (ts.map V.ref))) := upd_same
    generalize L2.upd H2 hz (.frz od (.lst (ts.map V.ref))) = HF at kF hF ⊢
    have pF : Pairs HF ts ps := ⟨hps.1, fun i t p e f => by
      have z := s2 _ _ (hps.2 i t p e f)
      exact kF _ _ (ne_of z hh2 (by intro z; cases z)) z⟩
    refine ⟨_, rfl, _, rfl, _, rfl, hz, _, _, _, _, ts.map V.ref, ps.map pairD, rfl, ln _, lh _, .inl (.inl (.inr ⟨od, hF⟩)), pairs_all pF small, by rw [List.length_map, hps.1]; omega, fun part i hb t H' s ht => ?_, fun _ n' h' ps' e1 e2 _ _ _ _ eds W' t x H' sF ht hx => ?_⟩
    · rw [hd0] at hb; cases hb
    have en : n' = n := by injection e1 with e1; omega
    have eh : h' = h := by injection e2 with e2; omega
    have ep : ps' = ps := (pairD_inj eds).symm
    subst en eh ep
    have hz' := sF _ _ hF
    refine ⟨hz', ?_⟩
    -- what stands whatever becomes of the list that was handed
    have base : ∀ {G : Hp}, (∀ c o, c ≠ hz → H' c = some o → G c = some o) → Same H G ∧ G t = some (.tup [.bl true, .ref x]) ∧ HsW C G x n' h' ps' ∧ G c = some (.lst (us.map V.ref)) ∧ Pairs G us qs ∧ G a = some (.lst (ts.map V.ref)) ∧ Pairs G ts ps' := fun k => by
      have kk : ∀ c o, c ≠ hz → H2 c = some o → _ := fun c o ne e => k c o ne (sF _ _ (kF c o ne e))
      have sH : Same H _ := fun c o e => kk c o (ne_of_none e hz0) (s2 _ _ e)
      exact ⟨sH, k _ _ (ne_of ht hz' (by intro z; cases z)) ht, hsW_over hx hz' k, kk _ _ nch (t2 _ _ hc1), ⟨hus.1, fun i t p e f => sH _ _ (hus.2 i t p e f)⟩, sH _ _ ha, hps.same sH⟩
    have k3 : ∀ c o, c ≠ hz → H' c = some o → (L2.upd H' hz (.lst (ts.map V.ref))) c = some o := fun c o ne e => by rw [upd_ne ne]; exact e
    have hh3 : (L2.upd H' hz (.lst (ts.map V.ref))) hz = some (.lst (ts.map V.ref)) := upd_same
    generalize L2.upd H' hz (.lst (ts.map V.ref)) = H3 at k3 hh3 ⊢
    obtain ⟨s3, ht3, hx3, hc3, hu3, ha3, hp3⟩ := base k3
    have all3 : All2 (Lf2 H3) (ts.map V.ref) ((ps'.map pairI).map stD) := by rw [← pairs_stD]; exact pairs_all hp3 small
    refine ⟨_, rfl, _, rfl, _, _, .lst (SqL.of hh3) (all_dp (fun _ _ o => o.dp) all3), .lst (SqL.of ha3) (all_dp (fun _ _ o => o.dp) all3), sts_shaped _, sts_shaped _, ?_⟩
    rw [eqv_sh (sts_shaped _)]
    refine ⟨_, rfl, iteF ?_⟩
    refine ⟨_, rfl, _, rfl, _, rfl, _, rfl, t, x, c, n', h', ps', qs, us, rfl, ht3, hx3, hc3, hu3, pqs, W.nd, by omega, true, rfl, iteF ?_⟩
    refine ⟨_, rfl, .inl ⟨rfl, _, SqL.of hh3⟩, by show 2 ≤ sizeLine; decide, fun tq ntq => ?_⟩
    have t4 : Same H3 (L2.upd H3 tq (.tup [.int 0, .int 0])) := same_new ntq
    generalize L2.upd H3 tq (.tup [.int 0, .int 0]) = H4 at t4 ⊢
    refine ⟨hz, _, _, rfl, rfl, t4 _ _ hh3, by rw [List.length_map, hps.1, sizeLine_eq]; omega, ?_⟩
    have k5 : ∀ c o, c ≠ hz → H' c = some o → (L2.upd H4 hz (.lst (ts.map V.ref ++ [V.ref tq]))) c = some o := fun c o ne e => by rw [upd_ne ne]; exact t4 _ _ (k3 c o ne e)
    have hh5 : (L2.upd H4 hz (.lst (ts.map V.ref ++ [V.ref tq]))) hz = some (.lst (ts.map V.ref ++ [V.ref tq])) := upd_same
    generalize L2.upd H4 hz (.lst (ts.map V.ref ++ [V.ref tq])) = H5 at k5 hh5 ⊢
    refine ⟨_, rfl, .inl ⟨rfl, _, SqL.of hh5⟩, hz, _, rfl, rfl, hh5, ?_⟩
    have k6 : ∀ c o, c ≠ hz → H' c = some o → (L2.upd H5 hz (.lst (ts.map V.ref ++ [V.ref tq]).reverse)) c = some o := fun c o ne e => by rw [upd_ne ne]; exact k5 c o ne e
    generalize L2.upd H5 hz (.lst (ts.map V.ref ++ [V.ref tq]).reverse) = H6 at k6 ⊢
    obtain ⟨s6, ht6, hx6, hc6, hu6, ha6, hp6⟩ := base k6
    refine ⟨_, rfl, _, rfl, _, rfl, _, rfl, t, x, c, n', h', ps', qs, us, rfl, ht6, hx6, hc6, hu6, pqs, W.nd, by omega, true, rfl, iteF ?_⟩
    refine ⟨_, rfl, _, rfl, _, rfl, a, _, rfl, .inl ⟨SqL.of ha6, fun tz ntz => ?_⟩⟩
    have t7 : Same H6 (L2.upd H6 tz (.tup (ts.map V.ref))) := same_new ntz
    have htz : (L2.upd H6 tz (.tup (ts.map V.ref))) tz = some (.tup (ts.map V.ref)) := upd_same
    generalize L2.upd H6 tz (.tup (ts.map V.ref)) = H7 at t7 htz ⊢
    refine ⟨tz, _, _, _, _, ts.map V.ref, ps'.map pairD, rfl, ln _, lh _, .inr (SqT.of htz), pairs_all (hp6.same t7) small, by rw [List.length_map, hps.1]; omega, fun part i hb t H' s ht => ?_, fun _ n2 h2' ps2 e1 e2 _ _ _ _ eds W2 t2' x2 H8 s8 ht8 hx8 => ?_⟩
    · rw [hd0] at hb; cases hb
    have en : n2 = n' := by injection e1 with e1; omega
    have eh : h2' = h' := by injection e2 with e2; omega
    have ep : ps2 = ps' := (pairD_inj eds).symm
    subst en eh ep
    have t8 := t7.trans s8
    refine ⟨_, rfl, _, rfl, _, rfl, t2', x2, c, n2, h2', ps2, qs, us, rfl, ht8, hx8, t8 _ _ hc6, hu6.same t8, pqs, W.nd, by omega, true, rfl, iteF ?_⟩
    have pnil : ∀ G : Hp, Pairs G [] [] := fun G => ⟨rfl, fun i t p a _ => by simp at a⟩
    have wnil : ∀ (G : Hp) (m : Nat), Wires K G E0 m [] := fun G m => ⟨⟨[], .inr (hT0 _), pnil G⟩, List.nodup_nil, by decide, fun p hp => (by cases hp), fun _ => 0, fun p hp => (by cases hp)⟩
    have perm0 : PermS [] [] := ⟨List.Perm.refl _, List.Pairwise.nil⟩
    refine ⟨_, rfl, _, rfl, fun x dx nx ndx ne => ⟨x, dx, E0, n2, h2', [], rfl, upd_same, n1, n16, h2, h10, wnil _ _, fun H9 s a1 a2 => ⟨rfl, ?_⟩⟩⟩
    have sX : Same H8 H9 := fun c o e => s c o (ne_of_none e nx) (by rw [upd_ne (ne_of_none e nx), upd_ne (ne_of_none e ndx)]; exact e)
    refine ⟨by show 2 ≤ sizeLine; decide, fun t nt => ⟨_, rfl, _, rfl, by show 0 ≤ sizeLine; decide, fun z nz => ?_⟩⟩
    have tA : Same H9 (L2.upd (L2.upd H9 t (.tup [.bl true, .ref x])) z (.lst [])) := (same_new nt).trans (same_new nz)
    have ht : (L2.upd (L2.upd H9 t (.tup [.bl true, .ref x])) z (.lst [])) t = some (.tup [.bl true, .ref x]) := (same_new nz) _ _ upd_same
    have hz : (L2.upd (L2.upd H9 t (.tup [.bl true, .ref x])) z (.lst [])) z = some (.lst (([] : List Addr).map V.ref)) := upd_same
    exact ⟨t, x, z, n2, h2', [], [], [], rfl, ht, ⟨houseAt_sm a1 tA, a2.same tA⟩, hz, pnil _, perm0, List.nodup_nil, by show 0 < 1000; decide, q _ (((s6.trans t8).trans sX).trans tA)⟩
end
end Hue

end
section
set_option maxRecDepth 100000
set_option maxHeartbeats 8000000
namespace Hue
open PySem PySem.Spec PyProof.Rows L2
section
variable {P : Program} {w : World} {K : PySem.W.Frag} {mg : Str → Option Value} {base : Heap} {C : Addr}
theorem b_repr : bootBuiltins ("repr" : Str) = some (.builtin "repr") := by decide +kernel
theorem _root_.L2.Room.u100 {k : Nat} {A : Around} (r : Room k A) : A.units + 100 < cLine := by have := r.un; omega
/-! ### the law -/
theorem wires_repr {H : Hp} {a : Addr} {xs : List V} {ds : List PyData} (ha : SqL K H a xs) (al : All2 (Lf2 H) xs ds) (few : xs.length ≤ 200) {Q : VK} (q : Q (.str (PyData.list ds).shown) H) : rRepr K [.ref a] H Q := by
  obtain ⟨h1, h2, h3, h4, h5⟩ := all_ok (fun _ _ z => Lf2.ok z) al
  have h6 : xs.length * (1812 + 1) ≤ 200 * (1812 + 1) := Nat.mul_le_mul_right _ few
  have ls : PyData.leavesShort 40 (.list ds) = true := by simp only [PyData.leavesShort]; exact h1
  have l := PyData.shown_le 40 (by decide) (.list ds) ls
  have wt : PyData.weight (.list ds) ≤ 363000 := by simp only [PyData.weight]; omega
  have m : (40 + 2) * PyData.weight (.list ds) ≤ (40 + 2) * 363000 := Nat.mul_le_mul_left _ wt
  exact ⟨.ref a, .list ds, rfl, .lst ha (all_dp (fun _ _ z => z.dp) al), by simp only [PyData.showable]; exact h2, by simp only [PyData.hasDict]; exact h3, by simp only [PyData.depth]; omega, by rw [sizeLine_eq]; omega, q⟩
theorem fault_lt {n : Nat} : ∀ {ds : List PyData} {ps : List (Nat × Nat)} {i : Nat} {part : Str} {k : Nat}, faultD n ds ps i = some (part, k) → k < i + ds.length
  | [], _, _, _, _, h => by cases h
  | d :: ds, ps, i, part, k, h => by
    rw [faultD_cons] at h
    rw [List.length_cons]
    cases e : wireD n d with
    | none =>
      rw [e] at h
      injection h with h
      injection h with _ h
      omega
    | some p =>
      rw [e] at h
      simp only at h
      by_cases m : p ∈ ps
      · rw [if_pos m] at h
        injection h with h
        injection h with _ h
        omega
      rw [if_neg m] at h
      by_cases r : relOf ps p.2 p.1 = true
      · rw [if_pos r] at h
        injection h with h
        injection h with _ h
        omega
      rw [if_neg r] at h
      have := fault_lt h
      omega
theorem cut_from {xs : List V} (k : Nat) (h : k ≤ xs.length) : cutV xs (some (k : Int)) none = xs.drop k := by
  unfold cutV
  rw [HT.sIx_none, HT.sIx_nat, Nat.min_eq_left h, List.take_of_length_le (by rw [List.length_drop]; exact Nat.le_refl _)]
abbrev s_law : Stmt := top 40
theorem sc_law : FnScope ["script", "box", "count", "hues", "wires", "k", "fault", "handed", "kept"] ["script"] (defScope s_law) := ⟨rfl, rfl, rfl, by decide +kernel, rfl, by decide +kernel, by decide +kernel⟩
-- slots of law: 0 script, 1 box, 2 count, 3 hues, 4 wires, 5 k, 6 fault, 7 handed, 8 kept
def spLaw (K : PySem.W.Frag) : Sp := fun vs H Q _ => ∃ (a : Addr) (ns : List Int), vs = [.ref a] ∧ SqL K H a (ns.map V.int) ∧ ns.length ≤ 63 ∧ ∀ H', Q (.bl true) H'
theorem ok_law (T : Txt K mg C) {f : Addr} {fd : FuncData} (F : Fun K "law" "law" s_law f fd) (c__law_box : Cal P w K mg base "_law_box" 1 (spBox K)) (c__law_sizes : Cal P w K mg base "_law_sizes" 2 spSizes) (c__law_row : Cal P w K mg base "_law_row" 2 spRow) (c__law_entries : Cal P w K mg base "_law_entries" 4 spEntries) (c__law_ranges_right : Cal P w K mg base "_law_ranges_right" 8 spRanges) (c__law_fault : Cal P w K mg base "_law_fault" 2 spFault) (c__law_asked : Cal P w K mg base "_law_asked" 7 (spAsked K C)) (c__law_refused : Cal P w K mg base "_law_refused" 2 spRefusedL) (c__law_let : Cal P w K mg base "_law_let" 8 spLet) : GOk P w K mg base CX0 9 f fd ["script"] (spLaw K) := by
  refine F.okG sc_law (fun vs H Q E h => ?_) (fun cdv A gA outer s H vs Q E hr h => ?_)
  · obtain ⟨a, ns, rfl, _⟩ := h; rfl
  · obtain ⟨a, ns, rfl, ha, few, q⟩ := h
    refine ⟨_, (pss_cons (ps_set (i := 1) sc_law.nd rfl (by first | exact Or.inl rfl | exact Or.inr rfl) (pe_cal c__law_box (hr.mono (by decide)) (pa_cons (pv 0) pa_nil)))
      (pss_cons (ps_asg (pe_cal c__law_sizes (hr.mono (by decide)) (pa_cons (pv 1) pa_nil)) (pg_tup (by rfl) (pgs_cons (pg_name (i := 2) sc_law.nd rfl (by first | exact Or.inl rfl | exact Or.inr rfl)) (pgs_cons (pg_name (i := 3) sc_law.nd rfl (by first | exact Or.inl rfl | exact Or.inr rfl)) pgs_nil))))
      (pss_cons (ps_set (i := 4) sc_law.nd rfl (by first | exact Or.inl rfl | exact Or.inr rfl) (pe_cal c__law_entries (hr.mono (by decide)) (pa_cons (pv 1) (pa_cons (pe_cal c__law_row (hr.mono (by decide)) (pa_cons (pv 1) (pa_cons (pv 2) pa_nil))) pa_nil))))
      (pss_cons (ps_if (pt_not (pt_val (pe_cal c__law_ranges_right (hr.mono (by decide)) (pa_cons (pv 1) (pa_cons (pv 2) (pa_cons (pv 3) (pa_cons (pv 4) pa_nil)))))))
      (pss_one (ps_ret pe_bl)) pss_nil)
      (pss_cons (ps_for PassesOwn.never rfl (pi_range1 (by rfl) T.range (pa_cons (pe_callB (lenS_ K) (by rfl) T.len b_len (pa_cons (pv 4) pa_nil)) pa_nil)) (pg_name (i := 5) sc_law.nd rfl (by first | exact Or.inl rfl | exact Or.inr rfl))
      (pss_cons (ps_set (i := 6) sc_law.nd rfl (by first | exact Or.inl rfl | exact Or.inr rfl) (pe_cal c__law_fault (hr.mono (by decide)) (pa_cons (pv 2) (pa_cons (pv 4) pa_nil))))
      (pss_cons (ps_if (pt_cmpR op_isN (pv 6) pe_non (nomark _))
      (pss_one ps_break) pss_nil)
      (pss_cons (ps_set (i := 7) sc_law.nd rfl (by first | exact Or.inl rfl | exact Or.inr rfl) (pe_callTy (lstOf_ K) (by rfl) T.list b_list (pa_cons (pv 4) pa_nil)))
      (pss_cons (ps_set (i := 8) sc_law.nd rfl (by first | exact Or.inl rfl | exact Or.inr rfl) (pe_callB (cr_repr gA hr.u100) (by rfl) T.repr b_repr (pa_cons (pv 4) pa_nil)))
      (pss_cons (ps_if (PW.pt (pw_or (pt_not (pt_val (pe_cal c__law_refused (hr.mono (by decide)) (pa_cons (pe_cal c__law_asked (hr.mono (by decide)) (pa_cons (pv 2) (pa_cons (pv 3) (pa_cons (pv 7) pa_nil)))) (pa_cons (pe_ix (ixT_ K) (pv 6) pe_int (fun _ _ => rfl)) (pa_cons (pe_ix (ixT_ K) (pv 6) pe_int (fun _ _ => rfl)) pa_nil)))))) (pw_or1 (pt_cmpR op_ne (pe_callB (cr_repr gA hr.u100) (by rfl) T.repr b_repr (pa_cons (pv 7) pa_nil)) (pv 8) (nomark _)))))
      (pss_one (ps_ret pe_bl)) pss_nil)
      (pss_cons (ps_if (pt_not (pt_val (pe_cal c__law_refused (hr.mono (by decide)) (pa_cons (pe_cal c__law_asked (hr.mono (by decide)) (pa_cons (pv 2) (pa_cons (pv 3) (pa_cons (pe_callTy (tupOf_ K) (by rfl) T.tuple b_tuple (pa_cons (pv 4) pa_nil)) pa_nil)))) (pa_cons (pe_ix (ixT_ K) (pv 6) pe_int (fun _ _ => rfl)) (pa_cons (pe_ix (ixT_ K) (pv 6) pe_int (fun _ _ => rfl)) pa_nil))))))
      (pss_one (ps_ret pe_bl)) pss_nil)
      (pss_one (ps_set (i := 4) sc_law.nd rfl (by first | exact Or.inl rfl | exact Or.inr rfl) (pe_op op_cat (pe_slice (slL_ K) (pv 4) po_none (po_some (pe_ix (ixT_ K) (pv 6) pe_int (fun _ _ => rfl)))) (pe_slice (slL_ K) (pv 4) (po_some (pe_op op_add (pe_ix (ixT_ K) (pv 6) pe_int (fun _ _ => rfl)) pe_int)) po_none)))))))))))
      (pss_one (ps_ret (pe_cal c__law_let (hr.mono (by decide)) (pa_cons (pv 2) (pa_cons (pv 3) (pa_cons (pv 4) pa_nil))))))))))), ?_⟩
    refine ⟨_, rfl, a, ns, rfl, ha, few, fun H1 b ga la _ _ _ _ b1 => ?_⟩
    refine ⟨_, rfl, b, ga, la, rfl, b1, fun n h t H2 n1 n16 h2 h10 s2 b2 ht => ?_⟩
    refine ⟨t, _, rfl, SqT.of ht, rfl, _, _, rfl, _, _, rfl, rfl, ?_⟩
    refine ⟨_, rfl, _, rfl, _, rfl, b, ga, la, n, rfl, n16, b2, fun line r1 H3 lok s3 b3 nr hr1 => ?_⟩
    have r1b := (b2.new nr).1
    refine ⟨b, ga, la, r1, n, line, rfl, n1, n16, b3, r1b, hr1, lok, fun wz xs ds H4 s4 b4 nw hw al fw => ?_⟩
    refine ⟨_, rfl, _, rfl, _, rfl, _, rfl, b, ga, la, wz, n, h, xs, ds, rfl, n1, n16, h2, h10, b4, nw, hw, al, fw, fun H5 s5 b5 => ⟨true, rfl, iteF ?_⟩⟩
    have hw5 := s5 _ _ nw hw
    have al5 : All2 (Lf2 H5) xs ds := al.imp fun _ _ o => o.sb b4 s5
    clear hw al s5 b4 s4
    refine ⟨_, rfl, wz, _, rfl, .inl (SqL.of hw5), _, rfl, by omega, by omega, ?_⟩
    rw [Int.toNat_natCast]
    refine for_range (fun i σ G => ∃ (wz : Addr) (xs' : List V) (ds' : List PyData) (v5 v6 v7 v8 : Option V), σ = [some (.ref a), some (.ref b), some (.int (n : Nat)), some (.int (h : Nat)), some (.ref wz), v5, v6, v7, v8] ∧ G wz = some (.lst xs') ∧ All2 (Lf2 G) xs' ds' ∧ xs'.length + i = xs.length)
      ⟨wz, xs, ds, _, _, _, _, rfl, hw5, al5, rfl⟩ ?_ ?_
    · clear hw5 al5
      rintro i σ G hi ⟨wz, ys, es, v5, v6, v7, v8, rfl, hw, al, ly⟩
      have fy : ys.length ≤ 200 := by omega
      refine ⟨_, rfl, _, rfl, wz, n, ys, es, rfl, n1, n16, hw, al, fy, fun hn G1 s1 => ?_, fun part k hf t G1 s1 ht => ?_⟩
      · refine ⟨_, rfl, rfl, _, rfl, iteT ?_⟩
        exact ⟨_, rfl, _, rfl, _, rfl, wz, n, h, ys, es, rfl, n1, n16, h2, h10, s1 _ _ hw, al.imp fun _ _ o => o.same s1, fy, hn, fun H' _ => q H'⟩
      · have al1 : All2 (Lf2 G1) ys es := al.imp fun _ _ o => o.same s1
        have hw1 := s1 _ _ hw
        have kl : k < ys.length := by have := fault_lt hf; rw [al.len]; omega
        refine ⟨_, rfl, rfl, _, rfl, iteF ?_⟩
        refine ⟨_, rfl, wz, _, rfl, .inl (SqL.of hw1), fun hz nhz => ?_⟩
        have t2 : Same G1 (L2.upd G1 hz (.lst ys)) := same_new nhz
        have hh2 : (L2.upd G1 hz (.lst ys)) hz = some (.lst ys) := upd_same
        generalize L2.upd G1 hz (.lst ys) = G2 at t2 hh2 ⊢
        refine ⟨_, rfl, ?_⟩
        dsimp only [tNil]
        refine wires_repr (SqL.of (t2 _ _ hw1)) (al1.imp fun _ _ o => o.same t2) fy ?_
        have ln : ∀ G : Hp, Lf2 G (.int (n : Int)) (.int (n : Int)) := fun G => .lf (lfI (by omega) (by omega))
        have lh : ∀ G : Hp, Lf2 G (.int (h : Int)) (.int (h : Int)) := fun G => .lf (lfI (by omega) (by omega))
        have inInt : ∀ {lo hi : Int} {m : Nat}, lo ≤ m → (m : Int) ≤ hi → inB lo hi (.int (m : Int)) = true := fun l u => by
          show (decide _ && decide _) = true
          rw [decide_eq_true l, decide_eq_true u]; rfl
        have hd0 : houseD (.int (n : Int)) (.int (h : Int)) es = some (part, k) := by
          unfold houseD
          rw [if_pos (inInt (by omega) (by omega)), if_pos (inInt (by omega) (by omega))]
          exact hf
        refine ⟨_, rfl, _, rfl, _, rfl, hz, _, _, _, _, ys, es, rfl, ln _, lh _, .inl (SqL.of hh2), al1.imp fun _ _ o => o.same t2, by omega, fun part' k' hb t' G3 s3 ht3 => ?_, fun hb => ?_⟩
        · rw [hd0] at hb
          injection hb with hb
          injection hb with e1 e2
          subst e1 e2
          have t23 := t2.trans s3
          refine ⟨_, rfl, t, _, _, _, rfl, rfl, SqT.of (t23 _ _ ht), atI_nat (j := 0) rfl, _, rfl, t, _, _, _, rfl, rfl, SqT.of (t23 _ _ ht), atI_nat (j := 1) rfl, ?_⟩
          refine ⟨t', part, k, rfl, ht3, true, rfl, iteF ?_⟩
          refine ⟨_, rfl, ?_⟩
          dsimp only [tNil]
          have al3 : All2 (Lf2 G3) ys es := al1.imp fun _ _ o => o.same t23
          refine wires_repr (SqL.of (s3 _ _ hh2)) al3 fy ?_
          refine ⟨_, rfl, rfl, _, rfl, ?_⟩
          rw [decide_eq_true rfl]
          refine iteF ?_
          have hw3 := s3 _ _ (t2 _ _ hw1)
          have ht_3 := t23 _ _ ht
          refine ⟨_, rfl, _, rfl, _, rfl, wz, _, rfl, .inl ⟨SqL.of hw3, fun tz ntz => ?_⟩⟩
          have t4 : Same G3 (L2.upd G3 tz (.tup ys)) := same_new ntz
          have htz : (L2.upd G3 tz (.tup ys)) tz = some (.tup ys) := upd_same
          generalize L2.upd G3 tz (.tup ys) = G4 at t4 htz ⊢
          refine ⟨tz, _, _, _, _, ys, es, rfl, ln _, lh _, .inr (SqT.of htz), al3.imp fun _ _ o => o.same t4, by omega, fun part' k' hb t5 G5 s5 ht5 => ?_, fun hb => ?_⟩
          · rw [hd0] at hb
            injection hb with hb
            injection hb with e1 e2
            subst e1 e2
            have s45 := t4.trans s5
            have ht_5 := s45 _ _ ht_3
            have hw5 := s45 _ _ hw3
            refine ⟨_, rfl, t, _, _, _, rfl, rfl, SqT.of ht_5, atI_nat (j := 0) rfl, _, rfl, t, _, _, _, rfl, rfl, SqT.of ht_5, atI_nat (j := 1) rfl, ?_⟩
            refine ⟨t5, part, k, rfl, ht5, true, rfl, iteF ?_⟩
            refine ⟨_, rfl, _, rfl, t, _, _, _, rfl, rfl, SqT.of ht_5, atI_nat (j := 1) rfl, _, rfl, wz, _, rfl, SqL.of hw5, fun c6 nc6 => ?_⟩
            rw [cut_takeV]
            have t6 : Same G5 (L2.upd G5 c6 (.lst (ys.take k))) := same_new nc6
            have hc6 : (L2.upd G5 c6 (.lst (ys.take k))) c6 = some (.lst (ys.take k)) := upd_same
            generalize L2.upd G5 c6 (.lst (ys.take k)) = G6 at t6 hc6 ⊢
            refine ⟨_, rfl, _, rfl, t, _, _, _, rfl, rfl, SqT.of (t6 _ _ ht_5), atI_nat (j := 1) rfl, _, _, rfl, rfl, _, rfl, wz, _, rfl, SqL.of (t6 _ _ hw5), fun c7 nc7 => ?_⟩
            rw [show ((k : Int) + 1) = ((k + 1 : Nat) : Int) by omega, cut_from (k + 1) kl]
            have t7 : Same G6 (L2.upd G6 c7 (.lst (ys.drop (k + 1)))) := same_new nc7
            have hc7 : (L2.upd G6 c7 (.lst (ys.drop (k + 1)))) c7 = some (.lst (ys.drop (k + 1))) := upd_same
            generalize L2.upd G6 c7 (.lst (ys.drop (k + 1))) = G7 at t7 hc7 ⊢
            refine ⟨c6, c7, _, _, rfl, rfl, t7 _ _ hc6, hc7, by rw [List.length_take, List.length_drop, sizeLine_eq]; omega, fun c8 nc8 => ?_⟩
            have t8 : Same G7 (L2.upd G7 c8 (.lst (ys.take k ++ ys.drop (k + 1)))) := same_new nc8
            have al8 : All2 (Lf2 (L2.upd G7 c8 (.lst (ys.take k ++ ys.drop (k + 1))))) ys es := al3.imp fun _ _ o => o.same (((s45.trans t6).trans t7).trans t8)
            exact ⟨c8, _, es.take k ++ es.drop (k + 1), _, _, _, _, rfl, upd_same, (all2_take al8 k).app (all2_drop al8 (k + 1)), by rw [List.length_append, List.length_take, List.length_drop]; omega⟩
          · rw [hd0] at hb; cases hb
        · rw [hd0] at hb; cases hb
    · rintro σ G ⟨wz, ys, es, v5, v6, v7, v8, rfl, hw, al, ly⟩
      have y0 : ys = [] := List.eq_nil_of_length_eq_zero (by omega)
      have e0 : es = [] := List.eq_nil_of_length_eq_zero (by rw [← al.len, y0]; rfl)
      exact ⟨_, rfl, _, rfl, _, rfl, wz, n, h, ys, es, rfl, n1, n16, h2, h10, hw, al, by omega, by rw [e0]; rfl, fun H' _ => q H'⟩
end
end Hue

end
section
set_option maxRecDepth 100000
set_option maxHeartbeats 4000000
namespace Hue
open PySem PySem.Spec PyProof.Rows L2
/-! ### the end: what the top has written, and the head -/
theorem binds_init {K : PySem.W.Frag} {T E : Addr} {ocT : Value} {odT : Option Addr} {itT : Value} {nT : Nat} {slT : Array (Option Value)} (lT : K.lookup T = some ⟨ocT, odT, .seq #[itT] nT, slT⟩) {kV dc pm cd ct : Value} {an : Option Addr} :
    Binds K (PySem.W.fnOf "__init__" "House.__init__" (defArgs s_House___init__) (defBody s_House___init__) (defScope s_House___init__) (.ref T) kV dc pm an cd ct) ["self", "count", "hues", "wires"] [] := fun s us X hl => by
  rw [List.append_nil] at hl ⊢
  match us, hl with
  | [a, b, c, d], _ =>
    refine BindsTo.of_looks fun M => ?_
    have e : ∃ k, bindArgs (PySem.W.fnOf "__init__" "House.__init__" (defArgs s_House___init__) (defBody s_House___init__) (defScope s_House___init__) (.ref T) kV dc pm an cd ct) ⟨[a, b, c, d], []⟩ = seqItems? (.ref T) >>= k ∧ k (some #[itT]) = pure ((["self", "count", "hues", "wires"] : List Str).zip [a, b, c, d]) := ⟨_, rfl, rfl⟩
    obtain ⟨k, e1, e2⟩ := e
    rw [e1]
    exact looks_items X lT rfl (.of_pure e2)
theorem binds_init0 {K : PySem.W.Frag} {T : Addr} {ocT : Value} {odT : Option Addr} {itT : Value} {nT : Nat} {slT : Array (Option Value)} (lT : K.lookup T = some ⟨ocT, odT, .seq #[itT] nT, slT⟩) {kV dc pm cd ct : Value} {an : Option Addr} :
    Binds K (PySem.W.fnOf "__init__" "House.__init__" (defArgs s_House___init__) (defBody s_House___init__) (defScope s_House___init__) (.ref T) kV dc pm an cd ct) ["self", "count", "hues", "wires"] [itT] := fun s us X hl => by
  have l3 : us.length = 3 := by
    rw [List.length_append] at hl
    exact Nat.succ.inj hl
  match us, l3 with
  | [a, b, c], _ =>
    refine BindsTo.of_looks fun M => ?_
    have e : ∃ k, bindArgs (PySem.W.fnOf "__init__" "House.__init__" (defArgs s_House___init__) (defBody s_House___init__) (defScope s_House___init__) (.ref T) kV dc pm an cd ct) ⟨[a, b, c], []⟩ = seqItems? (.ref T) >>= k ∧ k (some #[itT]) = pure ((["self", "count", "hues", "wires"] : List Str).zip [a, b, c, itT]) := ⟨_, rfl, rfl⟩
    obtain ⟨k, e1, e2⟩ := e
    rw [e1]
    exact looks_items X lT rfl (.of_pure e2)
theorem exm_of {K : PySem.W.Frag} {S E : Addr} {b : Bool} (h1 : PySem.W.subIn K (.ref E) (.type "BaseException") = some true) (h2 : PySem.W.isClsIn K E = true) (h3 : PySem.W.typeIn K (.ref E) = some (.type "type")) (h4 : PySem.W.subIn K (.ref S) (.ref E) = some b) : PySem.W.exmOne K (.ref S) (.ref E) = some b := by
  have e1 : (PySem.W.subIn K (.ref E) (.type "BaseException") == some true) = true := by rw [h1] <;> rfl
  have e2 : ((PySem.W.clsIn K E).isSome && PySem.W.typeIn K (.ref E) == some (.type "type")) = true := by
    have h2' : (PySem.W.clsIn K E).isSome = true := h2
    rw [h2', h3] <;> rfl
  show (if (PySem.W.subIn K (.ref E) (.type "BaseException") == some true) = true then (if ((PySem.W.clsIn K E).isSome && PySem.W.typeIn K (.ref E) == some (.type "type")) = true then PySem.W.subIn K (.ref S) (.ref E) else none) else none) = some b
  rw [if_pos e1, if_pos e2]
  exact h4
theorem kit_self {K : PySem.W.Frag} {S : Addr} : PySem.W.kitOne K (.ref S) (.ref S) = some true := by
  show (if ((Value.ref S) == (Value.ref S)) = true then some true else _) = some true
  rw [if_pos (beq_iff_eq.mpr rfl)]
theorem kit_yes {K : PySem.W.Frag} {S E : Addr} (h2 : PySem.W.isClsIn K E = true) (h3 : PySem.W.typeIn K (.ref E) = some (.type "type")) (h4 : PySem.W.subIn K (.ref S) (.ref E) = some true) : PySem.W.kitOne K (.ref S) (.ref E) = some true := by
  have e2 : ((PySem.W.clsIn K E).isSome && PySem.W.typeIn K (.ref E) == some (.type "type")) = true := by
    have h2' : (PySem.W.clsIn K E).isSome = true := h2
    rw [h2', h3] <;> rfl
  show (if ((Value.ref S) == (Value.ref E)) = true then some true else (if ((PySem.W.clsIn K E).isSome && PySem.W.typeIn K (.ref E) == some (.type "type")) = true then PySem.W.subIn K (.ref S) (.ref E) else none)) = some true
  by_cases z : ((Value.ref S) == (Value.ref E)) = true
  · rw [if_pos z]
  · rw [if_neg z, if_pos e2]
    exact h4
theorem kit_no {K : PySem.W.Frag} {S E : Addr} (h2 : PySem.W.isClsIn K E = true) (h3 : PySem.W.typeIn K (.ref E) = some (.type "type")) (h4 : PySem.W.subIn K (.ref S) (.ref E) = some false) (h5 : PySem.W.subIn K (.ref S) (.ref S) = some true) : PySem.W.kitOne K (.ref S) (.ref E) = some false := by
  have ne : ¬ ((Value.ref S) == (Value.ref E)) = true := fun z => by
    have e := beq_iff_eq.mp z
    rw [← e, h5] at h4
    cases h4
  have e2 : ((PySem.W.clsIn K E).isSome && PySem.W.typeIn K (.ref E) == some (.type "type")) = true := by
    have h2' : (PySem.W.clsIn K E).isSome = true := h2
    rw [h2', h3] <;> rfl
  show (if ((Value.ref S) == (Value.ref E)) = true then some true else (if ((PySem.W.clsIn K E).isSome && PySem.W.typeIn K (.ref E) == some (.type "type")) = true then PySem.W.subIn K (.ref S) (.ref E) else none)) = some false
  rw [if_neg ne, if_pos e2]
  exact h4
theorem kit_tyV {K : PySem.W.Frag} {S : Addr} (h : PySem.W.subIn K (.ref S) (.type "ValueError") = some true) : PySem.W.kitOne K (.ref S) (.type "ValueError") = some true := by
  have ne : ¬ ((Value.ref S) == (Value.type "ValueError")) = true := fun z => by
    have e := beq_iff_eq.mp z
    cases e
  show (if ((Value.ref S) == (Value.type "ValueError")) = true then some true else (if PySem.W.kitMeta "ValueError" = true then PySem.W.subIn K (.ref S) (.type "ValueError") else none)) = some true
  rw [if_neg ne, if_pos (by decide +kernel)]
  exact h
theorem kit_no3 {K : PySem.W.Frag} {S A B D : Addr} (a : PySem.W.kitOne K (.ref S) (.ref A) = some false) (b : PySem.W.kitOne K (.ref S) (.ref B) = some false) (c : PySem.W.kitOne K (.ref S) (.ref D) = some false) : PySem.W.kitAny K (.ref S) [.ref A, .ref B, .ref D] = some false := by
  unfold PySem.W.kitAny
  rw [a]
  show PySem.W.kitAny K (.ref S) [.ref B, .ref D] = some false
  unfold PySem.W.kitAny
  rw [b]
  show PySem.W.kitAny K (.ref S) [.ref D] = some false
  unfold PySem.W.kitAny
  rw [c]
  rfl
theorem all_mk {l : PySem.W.OpenLaw} {w : World} {K : PySem.W.Frag} {h : Heap} {mg : Str → Option Value} {fa : Addr} (X : K.In h) (G : h.Ns mainGlobals mg) (hfa : mg "law" = some (.ref fa))
    {f0 : Addr} {od0 an0 : Option Addr} {sl0 : Array (Option Value)} {oc0 kV0 dc0 pm0 cd0 ct0 : Value}
    {f1 : Addr} {od1 an1 : Option Addr} {sl1 : Array (Option Value)} {oc1 kV1 dc1 pm1 cd1 ct1 : Value}
    {f2 : Addr} {od2 an2 : Option Addr} {sl2 : Array (Option Value)} {oc2 kV2 dc2 pm2 cd2 ct2 : Value}
    {f3 : Addr} {od3 an3 : Option Addr} {sl3 : Array (Option Value)} {oc3 kV3 dc3 pm3 cd3 ct3 : Value}
    {f4 : Addr} {od4 an4 : Option Addr} {sl4 : Array (Option Value)} {oc4 kV4 dc4 pm4 cd4 ct4 : Value}
    {f5 : Addr} {od5 an5 : Option Addr} {sl5 : Array (Option Value)} {oc5 kV5 dc5 pm5 cd5 ct5 : Value}
    {f6 : Addr} {od6 an6 : Option Addr} {sl6 : Array (Option Value)} {oc6 kV6 dc6 pm6 cd6 ct6 : Value}
    {f7 : Addr} {od7 an7 : Option Addr} {sl7 : Array (Option Value)} {oc7 kV7 dc7 pm7 cd7 ct7 : Value}
    {f8 : Addr} {od8 an8 : Option Addr} {sl8 : Array (Option Value)} {oc8 kV8 dc8 pm8 cd8 ct8 : Value}
    {f9 : Addr} {od9 an9 : Option Addr} {sl9 : Array (Option Value)} {oc9 kV9 dc9 pm9 cd9 ct9 : Value}
    {f10 : Addr} {od10 an10 : Option Addr} {sl10 : Array (Option Value)} {oc10 kV10 dc10 pm10 cd10 ct10 : Value}
    {f11 : Addr} {od11 an11 : Option Addr} {sl11 : Array (Option Value)} {oc11 kV11 dc11 pm11 cd11 ct11 : Value}
    {f12 : Addr} {od12 an12 : Option Addr} {sl12 : Array (Option Value)} {oc12 kV12 dc12 pm12 cd12 ct12 : Value}
    {f13 : Addr} {od13 an13 : Option Addr} {sl13 : Array (Option Value)} {oc13 kV13 dc13 pm13 cd13 ct13 : Value}
    {f14 : Addr} {od14 an14 : Option Addr} {sl14 : Array (Option Value)} {oc14 kV14 dc14 pm14 cd14 ct14 : Value}
    {f15 : Addr} {od15 an15 : Option Addr} {sl15 : Array (Option Value)} {oc15 kV15 dc15 pm15 cd15 ct15 : Value}
    {f16 : Addr} {od16 an16 : Option Addr} {sl16 : Array (Option Value)} {oc16 kV16 dc16 pm16 cd16 ct16 : Value}
    {f17 : Addr} {od17 an17 : Option Addr} {sl17 : Array (Option Value)} {oc17 kV17 dc17 pm17 cd17 ct17 : Value}
    {f18 : Addr} {od18 an18 : Option Addr} {sl18 : Array (Option Value)} {oc18 kV18 dc18 pm18 cd18 ct18 : Value}
    {f19 : Addr} {od19 an19 : Option Addr} {sl19 : Array (Option Value)} {oc19 kV19 dc19 pm19 cd19 ct19 : Value}
    {f20 : Addr} {od20 an20 : Option Addr} {sl20 : Array (Option Value)} {oc20 kV20 dc20 pm20 cd20 ct20 : Value}
    {f21 : Addr} {od21 an21 : Option Addr} {sl21 : Array (Option Value)} {oc21 kV21 dc21 pm21 cd21 ct21 : Value}
    {f22 : Addr} {od22 an22 : Option Addr} {sl22 : Array (Option Value)} {oc22 kV22 dc22 pm22 cd22 ct22 : Value}
    {f23 : Addr} {od23 an23 : Option Addr} {sl23 : Array (Option Value)} {oc23 kV23 dc23 pm23 cd23 ct23 : Value}
    {f24 : Addr} {od24 an24 : Option Addr} {sl24 : Array (Option Value)} {oc24 kV24 dc24 pm24 cd24 ct24 : Value}
    {f25 : Addr} {od25 an25 : Option Addr} {sl25 : Array (Option Value)} {oc25 kV25 dc25 pm25 cd25 ct25 : Value}
    {f26 : Addr} {od26 an26 : Option Addr} {sl26 : Array (Option Value)} {oc26 kV26 dc26 pm26 cd26 ct26 : Value}
    {f27 : Addr} {od27 an27 : Option Addr} {sl27 : Array (Option Value)} {oc27 kV27 dc27 pm27 cd27 ct27 : Value}
    {C T0 E0 : Addr} {ocT ocE : Value} {odT odE : Option Addr} {nT nE : Nat} {slT slE : Array (Option Value)} {u1 u2 : Value}
    {fI : Addr} {odI anI : Option Addr} {slI : Array (Option Value)} {ocI kVI dcI pmI cdI ctI : Value}
    {CE CH CZ1 CZ2 CZ3 : Addr}
    {NLH fXH : Addr} {nmLH qLH : Str} {bsLH : List Value} {snLH : List Str} {subLH : List Value} {abLH : Bool} {colLH : Option Bool} {ddLH : Option Addr} {m0LH m1LH m2LH m3LH m5LH : Option Value} {odXH anXH : Option Addr} {slXH : Array (Option Value)} {ocXH kVXH dcXH pmXH cdXH ctXH : Value}
    (aC : PySem.W.nsIn K mainGlobals "House" = some (some (.ref C)))
    (a0 : PySem.W.nsIn K mainGlobals "is_whole" = some (some (.ref f0))) (l0 : K.lookup f0 = some ⟨oc0, od0, .func (PySem.W.fnOf "is_whole" "is_whole" (defArgs s_is_whole) (defBody s_is_whole) (defScope s_is_whole) .none kV0 dc0 pm0 an0 cd0 ct0), sl0⟩) (c0 : PySem.W.codeIn K cd0 "is_whole" = true) (k0 : PySem.W.keepIn K (.ref f0) = true)
    (a1 : PySem.W.nsIn K mainGlobals "is_whole_in" = some (some (.ref f1))) (l1 : K.lookup f1 = some ⟨oc1, od1, .func (PySem.W.fnOf "is_whole_in" "is_whole_in" (defArgs s_is_whole_in) (defBody s_is_whole_in) (defScope s_is_whole_in) .none kV1 dc1 pm1 an1 cd1 ct1), sl1⟩) (c1 : PySem.W.codeIn K cd1 "is_whole_in" = true) (k1 : PySem.W.keepIn K (.ref f1) = true)
    (a2 : PySem.W.nsIn K mainGlobals "check_count" = some (some (.ref f2))) (l2 : K.lookup f2 = some ⟨oc2, od2, .func (PySem.W.fnOf "check_count" "check_count" (defArgs s_check_count) (defBody s_check_count) (defScope s_check_count) .none kV2 dc2 pm2 an2 cd2 ct2), sl2⟩) (c2 : PySem.W.codeIn K cd2 "check_count" = true) (k2 : PySem.W.keepIn K (.ref f2) = true)
    (a3 : PySem.W.nsIn K mainGlobals "check_hues" = some (some (.ref f3))) (l3 : K.lookup f3 = some ⟨oc3, od3, .func (PySem.W.fnOf "check_hues" "check_hues" (defArgs s_check_hues) (defBody s_check_hues) (defScope s_check_hues) .none kV3 dc3 pm3 an3 cd3 ct3), sl3⟩) (c3 : PySem.W.codeIn K cd3 "check_hues" = true) (k3 : PySem.W.keepIn K (.ref f3) = true)
    (a4 : PySem.W.nsIn K mainGlobals "is_wire" = some (some (.ref f4))) (l4 : K.lookup f4 = some ⟨oc4, od4, .func (PySem.W.fnOf "is_wire" "is_wire" (defArgs s_is_wire) (defBody s_is_wire) (defScope s_is_wire) .none kV4 dc4 pm4 an4 cd4 ct4), sl4⟩) (c4 : PySem.W.codeIn K cd4 "is_wire" = true) (k4 : PySem.W.keepIn K (.ref f4) = true)
    (a5 : PySem.W.nsIn K mainGlobals "with_wire" = some (some (.ref f5))) (l5 : K.lookup f5 = some ⟨oc5, od5, .func (PySem.W.fnOf "with_wire" "with_wire" (defArgs s_with_wire) (defBody s_with_wire) (defScope s_with_wire) .none kV5 dc5 pm5 an5 cd5 ct5), sl5⟩) (c5 : PySem.W.codeIn K cd5 "with_wire" = true) (k5 : PySem.W.keepIn K (.ref f5) = true)
    (a6 : PySem.W.nsIn K mainGlobals "lamps_beneath" = some (some (.ref f6))) (l6 : K.lookup f6 = some ⟨oc6, od6, .func (PySem.W.fnOf "lamps_beneath" "lamps_beneath" (defArgs s_lamps_beneath) (defBody s_lamps_beneath) (defScope s_lamps_beneath) .none kV6 dc6 pm6 an6 cd6 ct6), sl6⟩) (c6 : PySem.W.codeIn K cd6 "lamps_beneath" = true) (k6 : PySem.W.keepIn K (.ref f6) = true)
    (a7 : PySem.W.nsIn K mainGlobals "is_next" = some (some (.ref f7))) (l7 : K.lookup f7 = some ⟨oc7, od7, .func (PySem.W.fnOf "is_next" "is_next" (defArgs s_is_next) (defBody s_is_next) (defScope s_is_next) .none kV7 dc7 pm7 an7 cd7 ct7), sl7⟩) (c7 : PySem.W.codeIn K cd7 "is_next" = true) (k7 : PySem.W.keepIn K (.ref f7) = true)
    (a8 : PySem.W.nsIn K mainGlobals "order_list" = some (some (.ref f8))) (l8 : K.lookup f8 = some ⟨oc8, od8, .func (PySem.W.fnOf "order_list" "order_list" (defArgs s_order_list) (defBody s_order_list) (defScope s_order_list) .none kV8 dc8 pm8 an8 cd8 ct8), sl8⟩) (c8 : PySem.W.codeIn K cd8 "order_list" = true) (k8 : PySem.W.keepIn K (.ref f8) = true)
    (a9 : PySem.W.nsIn K mainGlobals "_law_box" = some (some (.ref f9))) (l9 : K.lookup f9 = some ⟨oc9, od9, .func (PySem.W.fnOf "_law_box" "_law_box" (defArgs s__law_box) (defBody s__law_box) (defScope s__law_box) .none kV9 dc9 pm9 an9 cd9 ct9), sl9⟩) (c9 : PySem.W.codeIn K cd9 "_law_box" = true) (k9 : PySem.W.keepIn K (.ref f9) = true)
    (a10 : PySem.W.nsIn K mainGlobals "_law_take" = some (some (.ref f10))) (l10 : K.lookup f10 = some ⟨oc10, od10, .func (PySem.W.fnOf "_law_take" "_law_take" (defArgs s__law_take) (defBody s__law_take) (defScope s__law_take) .none kV10 dc10 pm10 an10 cd10 ct10), sl10⟩) (c10 : PySem.W.codeIn K cd10 "_law_take" = true) (k10 : PySem.W.keepIn K (.ref f10) = true)
    (a11 : PySem.W.nsIn K mainGlobals "_law_sizes" = some (some (.ref f11))) (l11 : K.lookup f11 = some ⟨oc11, od11, .func (PySem.W.fnOf "_law_sizes" "_law_sizes" (defArgs s__law_sizes) (defBody s__law_sizes) (defScope s__law_sizes) .none kV11 dc11 pm11 an11 cd11 ct11), sl11⟩) (c11 : PySem.W.codeIn K cd11 "_law_sizes" = true) (k11 : PySem.W.keepIn K (.ref f11) = true)
    (a12 : PySem.W.nsIn K mainGlobals "_law_row" = some (some (.ref f12))) (l12 : K.lookup f12 = some ⟨oc12, od12, .func (PySem.W.fnOf "_law_row" "_law_row" (defArgs s__law_row) (defBody s__law_row) (defScope s__law_row) .none kV12 dc12 pm12 an12 cd12 ct12), sl12⟩) (c12 : PySem.W.codeIn K cd12 "_law_row" = true) (k12 : PySem.W.keepIn K (.ref f12) = true)
    (a13 : PySem.W.nsIn K mainGlobals "_law_number" = some (some (.ref f13))) (l13 : K.lookup f13 = some ⟨oc13, od13, .func (PySem.W.fnOf "_law_number" "_law_number" (defArgs s__law_number) (defBody s__law_number) (defScope s__law_number) .none kV13 dc13 pm13 an13 cd13 ct13), sl13⟩) (c13 : PySem.W.codeIn K cd13 "_law_number" = true) (k13 : PySem.W.keepIn K (.ref f13) = true)
    (a14 : PySem.W.nsIn K mainGlobals "_law_odd" = some (some (.ref f14))) (l14 : K.lookup f14 = some ⟨oc14, od14, .func (PySem.W.fnOf "_law_odd" "_law_odd" (defArgs s__law_odd) (defBody s__law_odd) (defScope s__law_odd) .none kV14 dc14 pm14 an14 cd14 ct14), sl14⟩) (c14 : PySem.W.codeIn K cd14 "_law_odd" = true) (k14 : PySem.W.keepIn K (.ref f14) = true)
    (a15 : PySem.W.nsIn K mainGlobals "_law_odd_wire" = some (some (.ref f15))) (l15 : K.lookup f15 = some ⟨oc15, od15, .func (PySem.W.fnOf "_law_odd_wire" "_law_odd_wire" (defArgs s__law_odd_wire) (defBody s__law_odd_wire) (defScope s__law_odd_wire) .none kV15 dc15 pm15 an15 cd15 ct15), sl15⟩) (c15 : PySem.W.codeIn K cd15 "_law_odd_wire" = true) (k15 : PySem.W.keepIn K (.ref f15) = true)
    (a16 : PySem.W.nsIn K mainGlobals "_law_wire" = some (some (.ref f16))) (l16 : K.lookup f16 = some ⟨oc16, od16, .func (PySem.W.fnOf "_law_wire" "_law_wire" (defArgs s__law_wire) (defBody s__law_wire) (defScope s__law_wire) .none kV16 dc16 pm16 an16 cd16 ct16), sl16⟩) (c16 : PySem.W.codeIn K cd16 "_law_wire" = true) (k16 : PySem.W.keepIn K (.ref f16) = true)
    (a17 : PySem.W.nsIn K mainGlobals "_law_entries" = some (some (.ref f17))) (l17 : K.lookup f17 = some ⟨oc17, od17, .func (PySem.W.fnOf "_law_entries" "_law_entries" (defArgs s__law_entries) (defBody s__law_entries) (defScope s__law_entries) .none kV17 dc17 pm17 an17 cd17 ct17), sl17⟩) (c17 : PySem.W.codeIn K cd17 "_law_entries" = true) (k17 : PySem.W.keepIn K (.ref f17) = true)
    (a18 : PySem.W.nsIn K mainGlobals "_law_lamp" = some (some (.ref f18))) (l18 : K.lookup f18 = some ⟨oc18, od18, .func (PySem.W.fnOf "_law_lamp" "_law_lamp" (defArgs s__law_lamp) (defBody s__law_lamp) (defScope s__law_lamp) .none kV18 dc18 pm18 an18 cd18 ct18), sl18⟩) (c18 : PySem.W.codeIn K cd18 "_law_lamp" = true) (k18 : PySem.W.keepIn K (.ref f18) = true)
    (a19 : PySem.W.nsIn K mainGlobals "_law_hang" = some (some (.ref f19))) (l19 : K.lookup f19 = some ⟨oc19, od19, .func (PySem.W.fnOf "_law_hang" "_law_hang" (defArgs s__law_hang) (defBody s__law_hang) (defScope s__law_hang) .none kV19 dc19 pm19 an19 cd19 ct19), sl19⟩) (c19 : PySem.W.codeIn K cd19 "_law_hang" = true) (k19 : PySem.W.keepIn K (.ref f19) = true)
    (a20 : PySem.W.nsIn K mainGlobals "_law_fault" = some (some (.ref f20))) (l20 : K.lookup f20 = some ⟨oc20, od20, .func (PySem.W.fnOf "_law_fault" "_law_fault" (defArgs s__law_fault) (defBody s__law_fault) (defScope s__law_fault) .none kV20 dc20 pm20 an20 cd20 ct20), sl20⟩) (c20 : PySem.W.codeIn K cd20 "_law_fault" = true) (k20 : PySem.W.keepIn K (.ref f20) = true)
    (a21 : PySem.W.nsIn K mainGlobals "_law_pairs" = some (some (.ref f21))) (l21 : K.lookup f21 = some ⟨oc21, od21, .func (PySem.W.fnOf "_law_pairs" "_law_pairs" (defArgs s__law_pairs) (defBody s__law_pairs) (defScope s__law_pairs) .none kV21 dc21 pm21 an21 cd21 ct21), sl21⟩) (c21 : PySem.W.codeIn K cd21 "_law_pairs" = true) (k21 : PySem.W.keepIn K (.ref f21) = true)
    (a22 : PySem.W.nsIn K mainGlobals "_law_asked" = some (some (.ref f22))) (l22 : K.lookup f22 = some ⟨oc22, od22, .func (PySem.W.fnOf "_law_asked" "_law_asked" (defArgs s__law_asked) (defBody s__law_asked) (defScope s__law_asked) .none kV22 dc22 pm22 an22 cd22 ct22), sl22⟩) (c22 : PySem.W.codeIn K cd22 "_law_asked" = true) (k22 : PySem.W.keepIn K (.ref f22) = true)
    (a23 : PySem.W.nsIn K mainGlobals "_law_refused" = some (some (.ref f23))) (l23 : K.lookup f23 = some ⟨oc23, od23, .func (PySem.W.fnOf "_law_refused" "_law_refused" (defArgs s__law_refused) (defBody s__law_refused) (defScope s__law_refused) .none kV23 dc23 pm23 an23 cd23 ct23), sl23⟩) (c23 : PySem.W.codeIn K cd23 "_law_refused" = true) (k23 : PySem.W.keepIn K (.ref f23) = true)
    (a24 : PySem.W.nsIn K mainGlobals "_law_made" = some (some (.ref f24))) (l24 : K.lookup f24 = some ⟨oc24, od24, .func (PySem.W.fnOf "_law_made" "_law_made" (defArgs s__law_made) (defBody s__law_made) (defScope s__law_made) .none kV24 dc24 pm24 an24 cd24 ct24), sl24⟩) (c24 : PySem.W.codeIn K cd24 "_law_made" = true) (k24 : PySem.W.keepIn K (.ref f24) = true)
    (a25 : PySem.W.nsIn K mainGlobals "_law_let" = some (some (.ref f25))) (l25 : K.lookup f25 = some ⟨oc25, od25, .func (PySem.W.fnOf "_law_let" "_law_let" (defArgs s__law_let) (defBody s__law_let) (defScope s__law_let) .none kV25 dc25 pm25 an25 cd25 ct25), sl25⟩) (c25 : PySem.W.codeIn K cd25 "_law_let" = true) (k25 : PySem.W.keepIn K (.ref f25) = true)
    (a26 : PySem.W.nsIn K mainGlobals "_law_ranges_right" = some (some (.ref f26))) (l26 : K.lookup f26 = some ⟨oc26, od26, .func (PySem.W.fnOf "_law_ranges_right" "_law_ranges_right" (defArgs s__law_ranges_right) (defBody s__law_ranges_right) (defScope s__law_ranges_right) .none kV26 dc26 pm26 an26 cd26 ct26), sl26⟩) (c26 : PySem.W.codeIn K cd26 "_law_ranges_right" = true) (k26 : PySem.W.keepIn K (.ref f26) = true)
    (a27 : PySem.W.nsIn K mainGlobals "law" = some (some (.ref f27))) (l27 : K.lookup f27 = some ⟨oc27, od27, .func (PySem.W.fnOf "law" "law" (defArgs s_law) (defBody s_law) (defScope s_law) .none kV27 dc27 pm27 an27 cd27 ct27), sl27⟩) (c27 : PySem.W.codeIn K cd27 "law" = true) (k27 : PySem.W.keepIn K (.ref f27) = true)
    (aI : PySem.W.findIn K (.ref C) "__init__" = some (some (.ref fI))) (iI : PySem.W.isFn K (.ref fI) = true) (lI : K.lookup fI = some ⟨ocI, odI, .func (PySem.W.fnOf "__init__" "House.__init__" (defArgs s_House___init__) (defBody s_House___init__) (defScope s_House___init__) (.ref T0) kVI dcI pmI anI cdI ctI), slI⟩) (cI : PySem.W.codeIn K cdI "House.__init__" = true) (kI : PySem.W.keepIn K (.ref fI) = true)
    (lT : K.lookup T0 = some ⟨ocT, odT, .seq #[.ref E0] nT, slT⟩) (lE : K.lookup E0 = some ⟨ocE, odE, .seq #[] nE, slE⟩) (eE : ocE = .type "tuple")
    (pg : PySem.W.plainGet K C Str.empty = true) (hd : PySem.W.hasDictIn K C = true) (po : PySem.W.plainOver K C = true) (sa : PySem.W.findIn K (.ref C) "__setattr__" = some (some (.builtin "object.__setattr__"))) (mk : PySem.W.makesIn K C = true) (kc : PySem.W.keepIn K (.ref C) = true)
    (nCount : PySem.W.findIn K (.ref C) "count" = some none)
    (nHues : PySem.W.findIn K (.ref C) "hues" = some none)
    (nBen : PySem.W.findIn K (.ref C) "_beneath" = some none)
    (nWires : PySem.W.findIn K (.ref C) "wires" = some none)
    (nAbove : PySem.W.findIn K (.ref C) "_above" = some none)
    (nDirect : PySem.W.findIn K (.ref C) "_direct" = some none)
    (nOrder : PySem.W.findIn K (.ref C) "_order" = some none)
    (rd : PySem.W.readsIn K C (.type "type") = true) (ga : PySem.W.specialIn K (.ref C) "__getattribute__" = some (some (.builtin "type.__getattribute__"))) (v1 : PySem.W.findCls K (.ref C) (.type "type") "MOST_LAMPS" = some (.val u1)) (r1 : ∃ t, u1 = .int 16 t) (v2 : PySem.W.findCls K (.ref C) (.type "type") "MOST_HUES" = some (.val u2)) (r2 : ∃ t, u2 = .int 10 t)
    (b_len : PySem.W.nsIn K mainGlobals "len" = some none)
    (b_range : PySem.W.nsIn K mainGlobals "range" = some none)
    (b_isinstance : PySem.W.nsIn K mainGlobals "isinstance" = some none)
    (b_int : PySem.W.nsIn K mainGlobals "int" = some none)
    (b_bool : PySem.W.nsIn K mainGlobals "bool" = some none)
    (b_tuple : PySem.W.nsIn K mainGlobals "tuple" = some none)
    (b_list : PySem.W.nsIn K mainGlobals "list" = some none)
    (b_set : PySem.W.nsIn K mainGlobals "set" = some none)
    (b_enumerate : PySem.W.nsIn K mainGlobals "enumerate" = some none)
    (b_sorted : PySem.W.nsIn K mainGlobals "sorted" = some none)
    (b_min : PySem.W.nsIn K mainGlobals "min" = some none)
    (b_all : PySem.W.nsIn K mainGlobals "all" = some none)
    (b_abs : PySem.W.nsIn K mainGlobals "abs" = some none)
    (b_reversed : PySem.W.nsIn K mainGlobals "reversed" = some none)
    (b_max : PySem.W.nsIn K mainGlobals "max" = some none)
    (b_str : PySem.W.nsIn K mainGlobals "str" = some none)
    (b_repr : PySem.W.nsIn K mainGlobals "repr" = some none)
    (b_ValueError : PySem.W.nsIn K mainGlobals "ValueError" = some none)
    (xaE : PySem.W.nsIn K mainGlobals "HuefallError" = some (some (.ref CE))) (xeE : PySem.W.subIn K (.ref CE) (.type "BaseException") = some true) (xiE : PySem.W.isClsIn K CE = true) (xtE : PySem.W.typeIn K (.ref CE) = some (.type "type")) (xa_CH : PySem.W.nsIn K mainGlobals "InvalidHouse" = some (some (.ref CH))) (xi_CH : PySem.W.isClsIn K CH = true) (xt_CH : PySem.W.typeIn K (.ref CH) = some (.type "type")) (xa_CZ1 : PySem.W.nsIn K mainGlobals "InvalidLamp" = some (some (.ref CZ1))) (xi_CZ1 : PySem.W.isClsIn K CZ1 = true) (xt_CZ1 : PySem.W.typeIn K (.ref CZ1) = some (.type "type")) (xa_CZ2 : PySem.W.nsIn K mainGlobals "InvalidNumber" = some (some (.ref CZ2))) (xi_CZ2 : PySem.W.isClsIn K CZ2 = true) (xt_CZ2 : PySem.W.typeIn K (.ref CZ2) = some (.type "type")) (xa_CZ3 : PySem.W.nsIn K mainGlobals "InvalidState" = some (some (.ref CZ3))) (xi_CZ3 : PySem.W.isClsIn K CZ3 = true) (xt_CZ3 : PySem.W.typeIn K (.ref CZ3) = some (.type "type")) (xlH : K.lookup CH = some (excClassObj nmLH qLH CH NLH bsLH [.ref CE, .type "ValueError", .type "Exception", .type "BaseException", .type "object"] true snLH subLH abLH colLH ddLH m0LH m1LH m2LH m3LH m5LH "ValueError.__new__")) (xsaH : PySem.W.findIn K (.ref CH) "__setattr__" = some (some (.builtin "object.__setattr__"))) (xgaH : PySem.W.findIn K (.ref CH) "__getattribute__" = some (some (.builtin "BaseException.__getattribute__"))) (xggH : PySem.W.findIn K (.ref CH) "__getattr__" = some none) (xcaH : PySem.W.findIn K (.ref CH) "__class__" = some (some (.builtin "object.__class__"))) (xnlH : PySem.W.findIn K (.ref CH) "part" = some none) (xinH : PySem.W.findIn K (.ref CH) "__init__" = some (some (.ref fXH))) (xtyH : PySem.W.typeIn K (.ref fXH) = some (.type "function")) (xlxH : K.lookup fXH = some ⟨ocXH, odXH, .func (PySem.W.fnOf "__init__" "InvalidHouse.__init__" (defArgs s_InvalidHouse___init__) (defBody s_InvalidHouse___init__) (defScope s_InvalidHouse___init__) .none kVXH dcXH pmXH anXH cdXH ctXH), slXH⟩) (xcxH : PySem.W.codeIn K cdXH "InvalidHouse.__init__" = true) (xkxH : PySem.W.keepIn K (.ref fXH) = true) (xkcH : PySem.W.keepIn K (.ref CH) = true) (xebH : PySem.W.subIn K (.ref CH) (.type "BaseException") = some true) (xhdH : PySem.W.hasDictIn K CH = true) (xmrH : PySem.W.mroIn K CH (.type "object") = some true) (xssH : PySem.W.subIn K (.ref CH) (.ref CH) = some true) (xseH : PySem.W.subIn K (.ref CH) (.ref CE) = some true) (xn2H : PySem.W.findIn K (.ref CH) "index" = some none) (xkv : PySem.W.subIn K (.ref CH) (.type "ValueError") = some true) (xsH0 : PySem.W.subIn K (.ref CH) (.ref CZ1) = some false) (xsH1 : PySem.W.subIn K (.ref CH) (.ref CZ2) = some false) (xsH2 : PySem.W.subIn K (.ref CH) (.ref CZ3) = some false) (xgs : PySem.W.specialIn K (.builtin "object.__class__") "__get__" = some (some (.builtin "getset_descriptor.__get__"))) (xtk : PySem.W.takesIn K (.builtin "object.__class__") = some true)
    : ∃ fd : FuncData, (∀ (s : Shared) (v : Value), BindsTo s fd ⟨[v], []⟩ [("script", v)]) ∧ ∀ base : Heap, K.In base → base.Ns mainGlobals mg → GOk l.prog w K mg base CX0 9 fa fd ["script"] (spLaw K) := by
  have e := hfa.symm.trans (PySem.W.mg_of X G a27)
  cases e
  have T : Txt K mg C := { cl := ⟨pg, hd, po, sa⟩, nCount := nCount, nHues := nHues, nBen := nBen, nWires := nWires, nAbove := nAbove, nDirect := nDirect, nOrder := nOrder, mgC := PySem.W.mg_of X G aC, con := ⟨.type "type", ⟨rd, ga⟩, ⟨u1, v1, r1⟩, ⟨u2, v2, r2⟩⟩, len := PySem.W.mg_none_of X G b_len, range := PySem.W.mg_none_of X G b_range, isinstance := PySem.W.mg_none_of X G b_isinstance, int := PySem.W.mg_none_of X G b_int, bool := PySem.W.mg_none_of X G b_bool, tuple := PySem.W.mg_none_of X G b_tuple, list := PySem.W.mg_none_of X G b_list, set := PySem.W.mg_none_of X G b_set, enumerate := PySem.W.mg_none_of X G b_enumerate, sorted := PySem.W.mg_none_of X G b_sorted, min := PySem.W.mg_none_of X G b_min, all := PySem.W.mg_none_of X G b_all, abs := PySem.W.mg_none_of X G b_abs, reversed := PySem.W.mg_none_of X G b_reversed, max := PySem.W.mg_none_of X G b_max, str := PySem.W.mg_none_of X G b_str, repr := PySem.W.mg_none_of X G b_repr, ValueError := PySem.W.mg_none_of X G b_ValueError }
  refine ⟨PySem.W.fnOf "law" "law" (defArgs s_law) (defBody s_law) (defScope s_law) .none kV27 dc27 pm27 an27 cd27 ct27, fun s v => .of_eq rfl, fun base _ _ => ?_⟩
  have XCH : XCls K CH := ⟨⟨⟨_, _, _, _, _, _, _, _, _, _, _, _, _, _, _, xlH, by rfl⟩, xsaH, xebH, xt_CH, xkcH⟩, ⟨xgaH, xggH, xebH, xhdH⟩, xcaH, xmrH⟩
  have TEH : TxQ K mg CH CE CZ1 CZ2 CZ3 := ⟨PySem.W.mg_of X G xaE, PySem.W.mg_of X G xa_CH, PySem.W.mg_of X G xa_CZ1, PySem.W.mg_of X G xa_CZ2, PySem.W.mg_of X G xa_CZ3, XCH, ⟨xgs, xtk⟩, exm_of xeE xiE xtE xseH, exm_of xebH xi_CH xt_CH xssH, kit_self, kit_no xi_CZ1 xt_CZ1 xsH0 xssH, kit_no xi_CZ2 xt_CZ2 xsH1 xssH, kit_no xi_CZ3 xt_CZ3 xsH2 xssH, kit_tyV xkv, xnlH⟩
  have F_xH : Fun K "__init__" "InvalidHouse.__init__" s_InvalidHouse___init__ fXH _ := fun_mk (st := s_InvalidHouse___init__) xlxH xcxH xkxH
  have M_house : XMk2 l.prog w K mg base CH "InvalidHouse" "part" "index" := ⟨⟨_, _, _, ok_InvalidHouse F_xH, F_xH.binds fun _ _ _ _ _ _ us hl => match us, hl with | [_, _, _], _ => rfl, xinH, xtyH⟩, PySem.W.mg_of X G xa_CH, XCH, xnlH, xn2H⟩
  have F_is_whole := fun_mk (st := s_is_whole) l0 c0 k0
  have c_is_whole : Cal l.prog w K mg base "is_whole" 1 spWholeV := ⟨⟨_, _, _, ok_is_whole T F_is_whole, PySem.W.mg_of X G a0, k0, F_is_whole.binds fun _ _ _ _ _ _ us hl => match us, hl with | [_], _ => rfl⟩⟩
  have F_is_whole_in := fun_mk (st := s_is_whole_in) l1 c1 k1
  have c_is_whole_in : Cal l.prog w K mg base "is_whole_in" 2 spWholeInV := ⟨⟨_, _, _, ok_is_whole_in T F_is_whole_in c_is_whole, PySem.W.mg_of X G a1, k1, F_is_whole_in.binds fun _ _ _ _ _ _ us hl => match us, hl with | [_, _, _], _ => rfl⟩⟩
  have c_int : Cal l.prog w K mg base "is_whole_in" 2 spWholeIn := c_is_whole_in.imp whole_in_int
  have F_check_count := fun_mk (st := s_check_count) l2 c2 k2
  have c_check_count : Cal l.prog w K mg base "check_count" 3 spCheckCount := ⟨⟨_, _, _, ok_check_count T F_check_count c_int, PySem.W.mg_of X G a2, k2, F_check_count.binds fun _ _ _ _ _ _ us hl => match us, hl with | [_], _ => rfl⟩⟩
  have F_check_hues := fun_mk (st := s_check_hues) l3 c3 k3
  have c_check_hues : Cal l.prog w K mg base "check_hues" 3 spCheckHues := ⟨⟨_, _, _, ok_check_hues T F_check_hues c_int, PySem.W.mg_of X G a3, k3, F_check_hues.binds fun _ _ _ _ _ _ us hl => match us, hl with | [_], _ => rfl⟩⟩
  have F_is_wire := fun_mk (st := s_is_wire) l4 c4 k4
  have c_is_wire : Cal l.prog w K mg base "is_wire" 3 spIsWire := ⟨⟨_, _, _, ok_is_wire T F_is_wire c_int, PySem.W.mg_of X G a4, k4, F_is_wire.binds fun _ _ _ _ _ _ us hl => match us, hl with | [_, _], _ => rfl⟩⟩
  have F_with_wire := fun_mk (st := s_with_wire) l5 c5 k5
  have c_with_wire : Cal l.prog w K mg base "with_wire" 1 spWithWire := ⟨⟨_, _, _, ok_with_wire T F_with_wire, PySem.W.mg_of X G a5, k5, F_with_wire.binds fun _ _ _ _ _ _ us hl => match us, hl with | [_, _, _], _ => rfl⟩⟩
  have F_lamps_beneath := fun_mk (st := s_lamps_beneath) l6 c6 k6
  have c_lamps_beneath : Cal l.prog w K mg base "lamps_beneath" 4 (spLampsBeneath K) := ⟨⟨_, _, _, ok_lamps_beneath T F_lamps_beneath c_is_wire c_with_wire, PySem.W.mg_of X G a6, k6, F_lamps_beneath.binds fun _ _ _ _ _ _ us hl => match us, hl with | [_, _], _ => rfl⟩⟩
  have F_is_next := fun_mk (st := s_is_next) l7 c7 k7
  have c_is_next : Cal l.prog w K mg base "is_next" 1 spIsNext := ⟨⟨_, _, _, ok_is_next T F_is_next, PySem.W.mg_of X G a7, k7, F_is_next.binds fun _ _ _ _ _ _ us hl => match us, hl with | [_, _, _], _ => rfl⟩⟩
  have F_order_list := fun_mk (st := s_order_list) l8 c8 k8
  have c_order_list : Cal l.prog w K mg base "order_list" 2 spOrderList := ⟨⟨_, _, _, ok_order_list T F_order_list c_is_next, PySem.W.mg_of X G a8, k8, F_order_list.binds fun _ _ _ _ _ _ us hl => match us, hl with | [_], _ => rfl⟩⟩
  have F_init : FunV K "__init__" "House.__init__" s_House___init__ fI _ := ⟨⟨_, _, _, _, _, _, _, _, _, _, rfl, lI, cI⟩, kI⟩
  have i_ok := ok_init T F_init c_check_count c_check_hues c_lamps_beneath c_order_list
  have c_House : NCal l.prog w K mg base C "House" 5 (spInit K C) := ⟨⟨_, _, _, i_ok, ⟨mk, aI, iI, kc⟩, binds_init (E := 0) lT⟩, PySem.W.mg_of X G aC⟩
  have c_House0 : NCalD l.prog w K mg base C "House" 5 (spInit K C) [.ref E0] := ⟨⟨_, _, _, _, i_ok, ⟨mk, aI, iI, kc⟩, binds_init0 lT, .cons rfl .nil⟩, PySem.W.mg_of X G aC⟩
  have hT0 : ∀ H : Hp, SqT K H E0 [] := fun H => .inr ⟨_, _, _, lE, eE, rfl, Nat.zero_le _, .nil⟩
  have F__law_box := fun_mk (st := s__law_box) l9 c9 k9
  have c__law_box : Cal l.prog w K mg base "_law_box" 1 (spBox K) := ⟨⟨_, _, _, ok__law_box T F__law_box, PySem.W.mg_of X G a9, k9, F__law_box.binds fun _ _ _ _ _ _ us hl => match us, hl with | [_], _ => rfl⟩⟩
  have x_check_count : CalX l.prog w K mg base "check_count" 3 (spCheckCountX CH) := ⟨⟨_, _, _, ok_check_countX T M_house F_check_count c_is_whole_in, PySem.W.mg_of X G a2, k2, F_check_count.binds fun _ _ _ _ _ _ us hl => match us, hl with | [_], _ => rfl⟩⟩
  have x_check_hues : CalX l.prog w K mg base "check_hues" 3 (spCheckHuesX CH) := ⟨⟨_, _, _, ok_check_huesX T M_house F_check_hues c_is_whole_in, PySem.W.mg_of X G a3, k3, F_check_hues.binds fun _ _ _ _ _ _ us hl => match us, hl with | [_], _ => rfl⟩⟩
  have v_is_wire : Cal l.prog w K mg base "is_wire" 3 spIsWireV := ⟨⟨_, _, _, ok_is_wireV T F_is_wire c_is_whole_in, PySem.W.mg_of X G a4, k4, F_is_wire.binds fun _ _ _ _ _ _ us hl => match us, hl with | [_, _], _ => rfl⟩⟩
  have x_lamps_beneath : CalX l.prog w K mg base "lamps_beneath" 4 (spLampsX K CH) := ⟨⟨_, _, _, ok_lamps_beneathX T M_house F_lamps_beneath v_is_wire c_with_wire, PySem.W.mg_of X G a6, k6, F_lamps_beneath.binds fun _ _ _ _ _ _ us hl => match us, hl with | [_, _], _ => rfl⟩⟩
  have x_House : NCalX l.prog w K mg base C "House" 5 (spInitX K C CH) := ⟨⟨_, _, _, ok_initX T F_init x_check_count x_check_hues x_lamps_beneath c_order_list, ⟨mk, aI, iI, kc⟩, binds_init (E := 0) lT⟩, PySem.W.mg_of X G aC⟩
  have F__law_take := fun_mk (st := s__law_take) l10 c10 k10
  have c__law_take : Cal l.prog w K mg base "_law_take" 1 spTake := ⟨⟨_, _, _, ok__law_take T F__law_take, PySem.W.mg_of X G a10, k10, F__law_take.binds fun _ _ _ _ _ _ us hl => match us, hl with | [_, _], _ => rfl⟩⟩
  have F__law_sizes := fun_mk (st := s__law_sizes) l11 c11 k11
  have c__law_sizes : Cal l.prog w K mg base "_law_sizes" 2 spSizes := ⟨⟨_, _, _, ok__law_sizes T F__law_sizes c__law_take, PySem.W.mg_of X G a11, k11, F__law_sizes.binds fun _ _ _ _ _ _ us hl => match us, hl with | [_], _ => rfl⟩⟩
  have F__law_row := fun_mk (st := s__law_row) l12 c12 k12
  have c__law_row : Cal l.prog w K mg base "_law_row" 2 spRow := ⟨⟨_, _, _, ok__law_row T F__law_row c__law_take, PySem.W.mg_of X G a12, k12, F__law_row.binds fun _ _ _ _ _ _ us hl => match us, hl with | [_, _], _ => rfl⟩⟩
  have F__law_number := fun_mk (st := s__law_number) l13 c13 k13
  have c__law_number : Cal l.prog w K mg base "_law_number" 1 spNumber := ⟨⟨_, _, _, ok__law_number T F__law_number, PySem.W.mg_of X G a13, k13, F__law_number.binds fun _ _ _ _ _ _ us hl => match us, hl with | [_, _], _ => rfl⟩⟩
  have F__law_odd := fun_mk (st := s__law_odd) l14 c14 k14
  have c__law_odd : Cal l.prog w K mg base "_law_odd" 2 spOdd := ⟨⟨_, _, _, ok__law_odd T F__law_odd c__law_take, PySem.W.mg_of X G a14, k14, F__law_odd.binds fun _ _ _ _ _ _ us hl => match us, hl with | [_, _, _], _ => rfl⟩⟩
  have F__law_odd_wire := fun_mk (st := s__law_odd_wire) l15 c15 k15
  have c__law_odd_wire : Cal l.prog w K mg base "_law_odd_wire" 2 (Off spOddW) := ⟨⟨_, _, _, (ok__law_odd_wire T F__law_odd_wire c__law_take).off, PySem.W.mg_of X G a15, k15, F__law_odd_wire.binds fun _ _ _ _ _ _ us hl => match us, hl with | [_, _, _, _], _ => rfl⟩⟩
  have F__law_wire := fun_mk (st := s__law_wire) l16 c16 k16
  have c__law_wire : Cal l.prog w K mg base "_law_wire" 3 spWire := ⟨⟨_, _, _, ok__law_wire T F__law_wire c__law_take c__law_odd_wire, PySem.W.mg_of X G a16, k16, F__law_wire.binds fun _ _ _ _ _ _ us hl => match us, hl with | [_, _, _], _ => rfl⟩⟩
  have F__law_entries := fun_mk (st := s__law_entries) l17 c17 k17
  have c__law_entries : Cal l.prog w K mg base "_law_entries" 4 spEntries := ⟨⟨_, _, _, ok__law_entries T F__law_entries c__law_take c__law_wire, PySem.W.mg_of X G a17, k17, F__law_entries.binds fun _ _ _ _ _ _ us hl => match us, hl with | [_, _], _ => rfl⟩⟩
  have F__law_lamp := fun_mk (st := s__law_lamp) l18 c18 k18
  have c__law_lamp : Cal l.prog w K mg base "_law_lamp" 1 spLampL := ⟨⟨_, _, _, ok__law_lamp T F__law_lamp, PySem.W.mg_of X G a18, k18, F__law_lamp.binds fun _ _ _ _ _ _ us hl => match us, hl with | [_, _], _ => rfl⟩⟩
  have F__law_hang := fun_mk (st := s__law_hang) l19 c19 k19
  have c__law_hang : Cal l.prog w K mg base "_law_hang" 1 spHang := ⟨⟨_, _, _, ok__law_hang T F__law_hang, PySem.W.mg_of X G a19, k19, F__law_hang.binds fun _ _ _ _ _ _ us hl => match us, hl with | [_, _, _], _ => rfl⟩⟩
  have F__law_fault := fun_mk (st := s__law_fault) l20 c20 k20
  have c__law_fault : Cal l.prog w K mg base "_law_fault" 2 spFault := ⟨⟨_, _, _, ok__law_fault T F__law_fault c__law_lamp c__law_hang, PySem.W.mg_of X G a20, k20, F__law_fault.binds fun _ _ _ _ _ _ us hl => match us, hl with | [_, _], _ => rfl⟩⟩
  have F__law_pairs := fun_mk (st := s__law_pairs) l21 c21 k21
  have c__law_pairs : Cal l.prog w K mg base "_law_pairs" 2 spPairs := ⟨⟨_, _, _, ok__law_pairs T F__law_pairs c__law_number, PySem.W.mg_of X G a21, k21, F__law_pairs.binds fun _ _ _ _ _ _ us hl => match us, hl with | [_, _], _ => rfl⟩⟩
  have F__law_asked := fun_mk (st := s__law_asked) l22 c22 k22
  have c__law_asked : Cal l.prog w K mg base "_law_asked" 7 (spAsked K C) := ⟨⟨_, _, _, ok__law_asked T TEH xn2H F__law_asked x_House, PySem.W.mg_of X G a22, k22, F__law_asked.binds fun _ _ _ _ _ _ us hl => match us, hl with | [_, _, _], _ => rfl⟩⟩
  have F__law_refused := fun_mk (st := s__law_refused) l23 c23 k23
  have c__law_refused : Cal l.prog w K mg base "_law_refused" 2 spRefusedL := ⟨⟨_, _, _, ok__law_refused T F__law_refused c__law_number, PySem.W.mg_of X G a23, k23, F__law_refused.binds fun _ _ _ _ _ _ us hl => match us, hl with | [_, _, _], _ => rfl⟩⟩
  have F__law_made := fun_mk (st := s__law_made) l24 c24 k24
  have c__law_made : Cal l.prog w K mg base "_law_made" 3 (spMade C) := ⟨⟨_, _, _, ok__law_made T F__law_made c__law_number c__law_pairs, PySem.W.mg_of X G a24, k24, F__law_made.binds fun _ _ _ _ _ _ us hl => match us, hl with | [_, _, _, _], _ => rfl⟩⟩
  have F__law_let := fun_mk (st := s__law_let) l25 c25 k25
  have c__law_let : Cal l.prog w K mg base "_law_let" 8 spLet := ⟨⟨_, _, _, ok__law_let T F__law_let c__law_asked c__law_made c_House0 hT0, PySem.W.mg_of X G a25, k25, F__law_let.binds fun _ _ _ _ _ _ us hl => match us, hl with | [_, _, _], _ => rfl⟩⟩
  have F__law_ranges_right := fun_mk (st := s__law_ranges_right) l26 c26 k26
  have c__law_ranges_right : Cal l.prog w K mg base "_law_ranges_right" 8 spRanges := ⟨⟨_, _, _, ok__law_ranges_right T F__law_ranges_right c__law_odd c__law_asked c__law_refused c__law_made c_House0 hT0, PySem.W.mg_of X G a26, k26, F__law_ranges_right.binds fun _ _ _ _ _ _ us hl => match us, hl with | [_, _, _, _], _ => rfl⟩⟩
  exact ok_law T (fun_mk (st := s_law) l27 c27 k27) c__law_box c__law_sizes c__law_row c__law_entries c__law_ranges_right c__law_fault c__law_asked c__law_refused c__law_let
theorem walk {l : PySem.W.OpenLaw} {q : Program} {loose : List Str} {XP : (Str → Option Value) → Heap → Prop} {YP : World → Heap → Prop} {d : DefRec} {K : Params → PySem.W.Frag} (hn : l.most = some 63) (hdf : d.params.defaults = [])
    (hY : ∀ (w : World) (h : Heap), YP w h → (K w.params).In h)
    (F : ∀ (w : World) (mg : Str → Option Value) (fa : Addr) (h : Heap), (K w.params).In h → h.Ns mainGlobals mg → mg d.name = some (.ref fa) →
      ∃ fd : FuncData, (∀ (s : Shared) (u : Value), BindsTo s fd ⟨[u], []⟩ [("script", u)]) ∧ ∀ base : Heap, (K w.params).In base → base.Ns mainGlobals mg → GOk l.prog w (K w.params) mg base CX0 9 fa fd ["script"] (spLaw (K w.params))) :
    PySem.W.WalkO q loose XP YP l.row.toRowW d [] (fun f vs => PySem.call f vs) :=
  L2.walk_ofG (n := 63) (k := 9) (x := "script") (sp := fun w => spLaw (K w.params)) hn (by decide) hdf ⟨rfl, by decide, by decide⟩ hY F (fun _ _ a ns hl _ hS => ⟨a, ns, rfl, hS, hl, fun _ => rfl⟩)
end Hue

end
section


open PySem PySem.W PyProof.Rows in
set_option maxRecDepth 100000 in
set_option maxHeartbeats 0 in
theorem PySem.Challenge.cw_huefall_k00_house_faults_holds : PySem.Challenge.rw_huefall_k00_house_faults.Holds := by
  w_on; o_law; k_head; (case hw => w_witness2)
  k_fill
  refine Hue.walk (l := PySem.Challenge.rw_huefall_k00_house_faults) rfl rfl (fun w h Y => PySem.W.kIn_of Y) ?F
  case F =>
    intro w mg fa h KX G hmg
    refine' Hue.all_mk KX G hmg ?aC ?a0 ?l0 ?c0 ?k0 ?a1 ?l1 ?c1 ?k1 ?a2 ?l2 ?c2 ?k2 ?a3 ?l3 ?c3 ?k3 ?a4 ?l4 ?c4 ?k4 ?a5 ?l5 ?c5 ?k5 ?a6 ?l6 ?c6 ?k6 ?a7 ?l7 ?c7 ?k7 ?a8 ?l8 ?c8 ?k8 ?a9 ?l9 ?c9 ?k9 ?a10 ?l10 ?c10 ?k10 ?a11 ?l11 ?c11 ?k11 ?a12 ?l12 ?c12 ?k12 ?a13 ?l13 ?c13 ?k13 ?a14 ?l14 ?c14 ?k14 ?a15 ?l15 ?c15 ?k15 ?a16 ?l16 ?c16 ?k16 ?a17 ?l17 ?c17 ?k17 ?a18 ?l18 ?c18 ?k18 ?a19 ?l19 ?c19 ?k19 ?a20 ?l20 ?c20 ?k20 ?a21 ?l21 ?c21 ?k21 ?a22 ?l22 ?c22 ?k22 ?a23 ?l23 ?c23 ?k23 ?a24 ?l24 ?c24 ?k24 ?a25 ?l25 ?c25 ?k25 ?a26 ?l26 ?c26 ?k26 ?a27 ?l27 ?c27 ?k27 ?aI ?iI ?lI ?cI ?kI ?lT ?lE ?eE ?pg ?hd ?po ?sa ?mk ?kc ?nCount ?nHues ?nBen ?nWires ?nAbove ?nDirect ?nOrder ?rd ?ga ?v1 ?r1 ?v2 ?r2 ?b_len ?b_range ?b_isinstance ?b_int ?b_bool ?b_tuple ?b_list ?b_set ?b_enumerate ?b_sorted ?b_min ?b_all ?b_abs ?b_reversed ?b_max ?b_str ?b_repr ?b_ValueError ?xaE ?xeE ?xiE ?xtE ?xa_CH ?xi_CH ?xt_CH ?xa_CZ1 ?xi_CZ1 ?xt_CZ1 ?xa_CZ2 ?xi_CZ2 ?xt_CZ2 ?xa_CZ3 ?xi_CZ3 ?xt_CZ3 ?xlH ?xsaH ?xgaH ?xggH ?xcaH ?xnlH ?xinH ?xtyH ?xlxH ?xcxH ?xkxH ?xkcH ?xebH ?xhdH ?xmrH ?xssH ?xseH ?xn2H ?xkv ?xsH0 ?xsH1 ?xsH2 ?xgs ?xtk
    (case aC => k_is)
    (case a0 => k_is)
    (case l0 => k_is)
    (case c0 => k_is)
    (case k0 => k_is)
    (case a1 => k_is)
    (case l1 => k_is)
    (case c1 => k_is)
    (case k1 => k_is)
    (case a2 => k_is)
    (case l2 => k_is)
    (case c2 => k_is)
    (case k2 => k_is)
    (case a3 => k_is)
    (case l3 => k_is)
    (case c3 => k_is)
    (case k3 => k_is)
    (case a4 => k_is)
    (case l4 => k_is)
    (case c4 => k_is)
    (case k4 => k_is)
    (case a5 => k_is)
    (case l5 => k_is)
    (case c5 => k_is)
    (case k5 => k_is)
    (case a6 => k_is)
    (case l6 => k_is)
    (case c6 => k_is)
    (case k6 => k_is)
    (case a7 => k_is)
    (case l7 => k_is)
    (case c7 => k_is)
    (case k7 => k_is)
    (case a8 => k_is)
    (case l8 => k_is)
    (case c8 => k_is)
    (case k8 => k_is)
    (case a9 => k_is)
    (case l9 => k_is)
    (case c9 => k_is)
    (case k9 => k_is)
    (case a10 => k_is)
    (case l10 => k_is)
    (case c10 => k_is)
    (case k10 => k_is)
    (case a11 => k_is)
    (case l11 => k_is)
    (case c11 => k_is)
    (case k11 => k_is)
    (case a12 => k_is)
    (case l12 => k_is)
    (case c12 => k_is)
    (case k12 => k_is)
    (case a13 => k_is)
    (case l13 => k_is)
    (case c13 => k_is)
    (case k13 => k_is)
    (case a14 => k_is)
    (case l14 => k_is)
    (case c14 => k_is)
    (case k14 => k_is)
    (case a15 => k_is)
    (case l15 => k_is)
    (case c15 => k_is)
    (case k15 => k_is)
    (case a16 => k_is)
    (case l16 => k_is)
    (case c16 => k_is)
    (case k16 => k_is)
    (case a17 => k_is)
    (case l17 => k_is)
    (case c17 => k_is)
    (case k17 => k_is)
    (case a18 => k_is)
    (case l18 => k_is)
    (case c18 => k_is)
    (case k18 => k_is)
    (case a19 => k_is)
    (case l19 => k_is)
    (case c19 => k_is)
    (case k19 => k_is)
    (case a20 => k_is)
    (case l20 => k_is)
    (case c20 => k_is)
    (case k20 => k_is)
    (case a21 => k_is)
    (case l21 => k_is)
    (case c21 => k_is)
    (case k21 => k_is)
    (case a22 => k_is)
    (case l22 => k_is)
    (case c22 => k_is)
    (case k22 => k_is)
    (case a23 => k_is)
    (case l23 => k_is)
    (case c23 => k_is)
    (case k23 => k_is)
    (case a24 => k_is)
    (case l24 => k_is)
    (case c24 => k_is)
    (case k24 => k_is)
    (case a25 => k_is)
    (case l25 => k_is)
    (case c25 => k_is)
    (case k25 => k_is)
    (case a26 => k_is)
    (case l26 => k_is)
    (case c26 => k_is)
    (case k26 => k_is)
    (case a27 => k_is)
    (case l27 => k_is)
    (case c27 => k_is)
    (case k27 => k_is)
    (case aI => k_is)
    (case iI => k_is)
    (case lI => k_is)
    (case cI => k_is)
    (case kI => k_is)
    (case lT => k_is)
    (case lE => k_is)
    (case eE => rfl)
    (case pg => k_is)
    (case hd => k_is)
    (case po => k_is)
    (case sa => k_is)
    (case mk => k_is)
    (case kc => k_is)
    (case nCount => k_is)
    (case nHues => k_is)
    (case nBen => k_is)
    (case nWires => k_is)
    (case nAbove => k_is)
    (case nDirect => k_is)
    (case nOrder => k_is)
    (case rd => k_is)
    (case ga => k_is)
    (case v1 => k_is)
    (case r1 => exact ⟨_, rfl⟩)
    (case v2 => k_is)
    (case r2 => exact ⟨_, rfl⟩)
    (case b_len => k_is)
    (case b_range => k_is)
    (case b_isinstance => k_is)
    (case b_int => k_is)
    (case b_bool => k_is)
    (case b_tuple => k_is)
    (case b_list => k_is)
    (case b_set => k_is)
    (case b_enumerate => k_is)
    (case b_sorted => k_is)
    (case b_min => k_is)
    (case b_all => k_is)
    (case b_abs => k_is)
    (case b_reversed => k_is)
    (case b_max => k_is)
    (case b_str => k_is)
    (case b_repr => k_is)
    (case b_ValueError => k_is)
    (case xaE => first | k_is | rfl)
    (case xeE => first | k_is | rfl)
    (case xiE => first | k_is | rfl)
    (case xtE => first | k_is | rfl)
    (case xa_CH => first | k_is | rfl)
    (case xi_CH => first | k_is | rfl)
    (case xt_CH => first | k_is | rfl)
    (case xa_CZ1 => first | k_is | rfl)
    (case xi_CZ1 => first | k_is | rfl)
    (case xt_CZ1 => first | k_is | rfl)
    (case xa_CZ2 => first | k_is | rfl)
    (case xi_CZ2 => first | k_is | rfl)
    (case xt_CZ2 => first | k_is | rfl)
    (case xa_CZ3 => first | k_is | rfl)
    (case xi_CZ3 => first | k_is | rfl)
    (case xt_CZ3 => first | k_is | rfl)
    (case xlH => first | k_is | rfl)
    (case xsaH => first | k_is | rfl)
    (case xgaH => first | k_is | rfl)
    (case xggH => first | k_is | rfl)
    (case xcaH => first | k_is | rfl)
    (case xnlH => first | k_is | rfl)
    (case xinH => first | k_is | rfl)
    (case xtyH => first | k_is | rfl)
    (case xlxH => first | k_is | rfl)
    (case xcxH => first | k_is | rfl)
    (case xkxH => first | k_is | rfl)
    (case xkcH => first | k_is | rfl)
    (case xebH => first | k_is | rfl)
    (case xhdH => first | k_is | rfl)
    (case xmrH => first | k_is | rfl)
    (case xssH => first | k_is | rfl)
    (case xseH => first | k_is | rfl)
    (case xn2H => first | k_is | rfl)
    (case xkv => first | k_is | rfl)
    (case xsH0 => first | k_is | rfl)
    (case xsH1 => first | k_is | rfl)
    (case xsH2 => first | k_is | rfl)
    (case xgs => first | k_is | rfl)
    (case xtk => first | k_is | rfl)

end
