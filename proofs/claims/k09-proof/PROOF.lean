import PyProof.Rows.All
import Wide.All
import OpenK.AllK
import Wide.FinOn
import HandS.TupSets
import HandS.Sort
import HandS.SetFor
import HandS.Strs
import HandS.ForMost
import HandS.Flow
import HandS.Style
import HandS.IsInst
import HandS.Conv
import HandS.ClsMeth
import HandS.SortRule
import HandS.TupLen
import HandS.Star
import HandS.TupAny
import HandS.Codes
import HandS.SortInts
import HandS.Walk
import KE.GoesEnum
import HandS.Iter
import PyProof.TupleOfSeq
import HandS.Defaults
import PySem.Challenge.RW_huefall_k09_states_before
set_option Elab.async false
set_option linter.all false
section
set_option maxRecDepth 100000
set_option maxHeartbeats 2000000
namespace L2
open PySem PySem.Spec PyProof.Rows
/-! ### ranges as values, walked by their name -/
section
variable {X : Cx} {tg e : Expr} {te : TE}
theorem hu_cr_range1 : CallR X (.type "range") (fun vs H Q => ∃ j, vs = [V.int j] ∧ ∀ p, H p = none → Q (.ref p) (upd H p (.rng 0 j))) := by
  intro pins s σ H vs us Q I r h
  obtain ⟨j, rfl, q⟩ := h
  cases r with
  | cons rj rr =>
    cases rr
    obtain ⟨t, rfl⟩ := rj
    have lay := I.laid (a := s.heap.objs.size) (o := .rng 0 j) (t' := s.toks + 1 + 1) (h' := s.heap.push { cls := .type "range", data := .fields #[.int 0 s.toks, .int j t, .int 1 (s.toks + 1)] })
      (fun b o ho => Heap.get?_push_of_some _ ho) (Nat.le_refl _) ⟨s.toks, t, s.toks + 1, Heap.get?_push_size _ rfl⟩
    exact call_range_1 ⟨.ref s.heap.objs.size, _, lay, rfl, q _ (I.hok.fresh (Nat.le_refl _))⟩
def iHuRng (te : TE) : TI := fun σ H R => te σ H fun v H1 => ∃ a lo hi, v = .ref a ∧ H1 a = some (.rng lo hi) ∧ (-(2 ^ 62) ≤ lo ∧ lo < 2 ^ 62 ∧ -(2 ^ 62) ≤ hi ∧ hi < 2 ^ 62) ∧ R (Itr lo (hi - lo).toNat) H1
theorem hu_pi_rng (he : PE X e te) : PI X tg e (iHuRng te) := by
  refine ⟨fun pins s σ H R I h => ?_⟩
  refine thn (he.run pins s σ H _ I h) fun v s1 ⟨x, H1, I1, r1, q1⟩ => ?_
  obtain ⟨a, lo, hi, rfl, ha, ⟨b1, b2, b3, b4⟩, q⟩ := q1
  cases r1
  obtain ⟨t, u, w, ho⟩ := I1.hok a _ ha
  have ho' : IsRange s1.heap a lo hi 1 t u w := ho
  refine wpAny_pyIter_range ho' (small_one b1 b2 b3 b4) ?_
  refine ⟨s1.heap.objs.size, [s1.heap.objs.size], _, _, H1, rfl, I1.kept (t' := s1.toks) fun b o eo => Heap.get?_push_of_some _ eo, turn_range _ lo (hi - lo).toNat, ?_, fun b hb => ?_, q⟩
  · have z1 : lo + ((0 : Nat) : Int) * 1 = lo := by simp
    have z2 : (((hi - lo).toNat : Nat) : Int) - ((0 : Nat) : Int) = Builtin.Range.rangeSize lo hi 1 := by
      rw [rangeSize_one]; split <;> omega
    show IsRangeIter _ _ (lo + ((0 : Nat) : Int) * 1) ((((hi - lo).toNat : Nat) : Int) - ((0 : Nat) : Int)) 1
    rw [z1, z2]
    exact Heap.get?_push_size _ rfl
  · obtain rfl : b = s1.heap.objs.size := by simpa using hb
    exact I1.fpOk (Nat.le_refl _) (I1.hok.fresh (Nat.le_refl _))
end
/-! ### set(xs), xs a list of ints -/
section
variable {P : Program} {w : World} {A : Around} {E : Value → Shared → Prop} {s : Shared}
/-- the new set's record -/
abbrev newSetO (w : World) : Obj := { cls := .type "set", dict := none, data := .set #[] 0 (.fresh 0 0 (!w.params.followText "set-order")) }
set_option maxHeartbeats 3200000 in
theorem hu_call_set_list {l : Addr} {its : Array Value} (ns : List Int) {Q : Value → Shared → Prop} (nh : A.handled = none) (isl : s.heap.IsList l its) (hin : IntsAre its.toList ns) (small : ns.length + 1 < scanBound)
    (fin : ∀ (g : Heap) (tk c : Nat), SetR w g s.heap.objs.size (fun j => decide (j ∈ ns)) c → c ≤ ns.length → (∀ b o, s.heap.get? b = some o → g.get? b = some o) → Q (.ref s.heap.objs.size) { s with heap := g, toks := tk }) :
    wpAny (model P w) A (call (.type "set") [.ref l]) Q E s := by
  have size_eq : its.size = ns.length := by
    have z := IntsAre.length hin
    rwa [Array.length_toList] at z
  obtain ⟨c, tl, hmro⟩ := F.called_set.mro
  have made := F.called_set.made
  have sub := F.called_set.sub
  refine wpAny_call (codeAny_of_tree ?_)
  show wpAny _ _ (callAny (.type "set") _) _ _ _
  refine wpAny_pure ⟨Code.quiet_builtin _ (by decide +kernel), codeAny_builtin F.entry_type_call ?_⟩
  rw [Around.under_plain (weight_type_call_type "set" [.ref l] []) rfl]
  have nt := F.called_set.notType
  have cc := F.called_set.canCreate
  have tc := F.typeCall_set_1 (.ref l)
  repeat (any_goals (first | assumption | wp_step))
  refine codeAny_mono (code_set_led1 (.ref l) (E := E) (Q₁ := fun obj s1 => obj = .ref s.heap.objs.size ∧ s1 = { s with heap := s.heap.push (newSetO w) }) ⟨rfl, rfl⟩) fun r s1 hr => ?_
  cases r with
  | error e => exact hr
  | ok fl =>
    cases fl with
    | ret obj =>
      obtain ⟨rfl, rfl⟩ := hr
      have gS : (s.heap.push (newSetO w)).get? s.heap.objs.size = some (newSetO w) := Heap.get?_push_size _ rfl
      have tS : Shared.TypeIs { s with heap := s.heap.push (newSetO w) } (.ref s.heap.objs.size) "set" := ⟨_, gS, rfl⟩
      have il := F.called_set.init.lookup
      have ib := F.called_set.init.bind (.ref s.heap.objs.size)
      repeat (any_goals (first | assumption | wp_step))
      refine codeAny_mono (codeAny_call_builtin (R := wants (fun r s2 => r = .none ∧ ∃ g tk c, s2 = { s with heap := g, toks := tk } ∧ SetR w g s.heap.objs.size (fun j => decide (j ∈ ns)) c ∧ c ≤ ns.length ∧
          (∀ b o, s.heap.get? b = some o → g.get? b = some o)) E) F.called_set.init.plain F.entry_set_init (check_set_init_1 tS ?_)) fun r2 s2 hr2 => ?_
      · obtain ⟨⟨oc, od, odat, osl⟩, hol, hcl, nl, hdl⟩ := isl
        simp only at hcl hdl
        subst hcl; subst hdl
        have hol1 : (s.heap.push (newSetO w)).get? l = some { cls := .type "list", dict := od, data := .seq its nl, slots := osl } := Heap.get?_push_of_some _ hol
        have k1 := F.sub_list_set
        have k2 := F.sub_list_frozenset
        have k3 : (Value.type "list" == Value.type "dict") = false := by decide
        have isl1 : (s.heap.push (newSetO w)).IsList l its := ⟨_, hol1, rfl, nl, rfl⟩
        unfold Builtin.«set.__init__» noKeywords Builtin.Frozenset.updateFrom
        generalize hPI : pyIter = PI
        wp_walk
        subst hPI
        refine wpAny_pyIter_list isl1 ?_
        refine wpAny_bind (wpAny_runValue ?_)
        have lt : l < s.heap.objs.size := Heap.lt_size hol
        have nh3 : A.in1.in1.in1.handled = none := by simp [nh]
        have ne1 : l ≠ (s.heap.push (newSetO w)).objs.size := by
          rw [Heap.size_push]; exact Nat.ne_of_lt (Nat.lt_succ_of_lt lt)
        have nin : s.heap.objs.size ∉ [(s.heap.push (newSetO w)).objs.size, l] := by
          rw [Heap.size_push]
          simp only [List.mem_cons, List.mem_singleton, List.not_mem_nil, or_false, not_or]
          exact ⟨Nat.ne_of_lt (Nat.lt_succ_self _), Nat.ne_of_gt lt⟩
        have val : ∀ (i : Nat) (v : Value), its[i]? = some v → ∃ k t, ns[i]? = some k ∧ v = .int k t := fun i v hv => by
          have hi : i < ns.length := by rw [← size_eq]; exact (Array.getElem?_eq_some_iff.mp hv).1
          obtain ⟨t, e⟩ := PyProof.Rows.IntsAre.int_at hin i v (by rw [Array.getElem?_toList]; exact hv)
          refine ⟨ns[i], t, List.getElem?_eq_getElem hi, ?_⟩
          rw [e, List.getD_eq_getElem?_getD, List.getElem?_eq_getElem hi] <;> rfl
        refine set_update_ints ((Walks.list nh3 _ l ne1 its).toS) s.heap.objs.size nin ns size_eq small val (its.size - 0) 0 _ (by omega) (Nat.zero_le _)
          ⟨⟨_, Heap.get?_push_size _ rfl, rfl, rfl⟩, (isl1.push _)⟩ ?start ?ends
        case start =>
          exact ⟨0, Nat.le_refl 0, setR_new_at (Heap.get?_push_of_some _ gS)⟩
        case ends =>
          intro s3 c3 mv hc3 hS3
          obtain ⟨g3, gn3, d3, tk3, os3⟩ := s3
          obtain rfl : gn3 = s.gens := mv.gens
          obtain rfl : d3 = s.drawn := mv.drawn
          obtain rfl : os3 = s.os := mv.os
          show wpAny _ _ _ _ _ _
          refine wpAny_pure ?_
          show wpAny _ _ (ret Value.none) _ _ _
          rw [size_eq] at hc3
          refine wpAny_pure ⟨rfl, g3, tk3, c3, rfl, hS3, hc3, fun b o e => ?_⟩
          have b0 : b < s.heap.objs.size := Heap.lt_size e
          have b2 : b ≠ (s.heap.push (newSetO w)).objs.size := by
            rw [Heap.size_push]; exact Nat.ne_of_lt (Nat.lt_succ_of_lt b0)
          refine mv.heap b o ?_ (Heap.get?_push_of_some _ (Heap.get?_push_of_some _ e))
          simp only [List.mem_cons, List.mem_singleton, List.not_mem_nil, or_false, not_or]
          exact ⟨Nat.ne_of_lt b0, b2⟩
      · cases r2 with
        | error e => exact hr2
        | ok fl2 =>
          cases fl2 with
          | ret r =>
            obtain ⟨rfl, g, tk, c, rfl, hS, hc, hk⟩ := hr2
            repeat (any_goals (first | assumption | wp_step))
            exact fin _ _ _ hS hc hk
          | _ => exact hr2.elim
    | _ => exact hr.elim
end
section
variable {X : Cx}
/-- set(xs) of a list of ints -/
def rHuSetL (K : PySem.W.Frag) (w : World) : List V → Hp → VK → Prop := fun vs H Q => ∃ (a : Addr) (ns : List Int), vs = [V.ref a] ∧ SqL K H a (ns.map V.int) ∧ ns.length ≤ 1000 ∧
  ∀ p c, H p = none → c ≤ ns.length → Q (.ref p) (upd H p (SetO w p (fun j => decide (j ∈ ns)) c))
theorem hu_cr_setL (hc : X.calm = true) : CallR X (.type "set") (rHuSetL X.K X.w) := by
  intro pins s σ H vs us Q I r h
  obtain ⟨a, ns, rfl, hl, hn, q⟩ := h
  rw [Vals.ref1 r]
  obtain ⟨its, rv, pl, hz⟩ := I.list hl
  refine hu_call_set_list (P := X.prog) (w := X.w) ns (I.ok.hd hc) pl.isList (by simpa using rv.ints) (by unfold scanBound; omega) fun g tk c hS hle hk => ?_
  exact ⟨.ref s.heap.objs.size, _, I.laid (t' := tk) hk (Nat.le_refl _) (setO_new hS), rfl, q _ c (I.hok.fresh (Nat.le_refl _)) hle⟩
end
end L2

end
section
set_option maxRecDepth 100000
set_option maxHeartbeats 2000000
namespace L2
open PySem PySem.Spec PyProof.Rows
/-! ### sets of tuples of ints: in, add, set() -/
section
variable {P : Program} {w : World} {A : Around} {E : Value → Shared → Prop} {s : Shared}
variable {a : Addr} {L : List (Addr × List Int)} {es : Array (Int × Value)} {ep : Nat} {t : SetTable}
/-- the c-th place that a search for the hash comes to -/
abbrev pAt (m : Nat) (h : Int) (c : Nat) : SetTable.Probe := nth m (runAt m (SetTable.bits h % (m + 1)) (SetTable.bits h)) c
theorem pAt_dummy (m : Nat) (h : Int) (c : Nat) : (pAt m h c).dummy = none := by
  have all : ∀ (n : Nat) (p : SetTable.Probe), p.dummy = none → (nth m p n).dummy = none := by
    intro n
    induction n with
    | zero => exact fun p hp => hp
    | succ n ih =>
      intro p hp
      refine ih (adv m p) ?_
      unfold adv
      split <;> exact hp
  exact all c _ rfl
theorem pAt_on (m : Nat) (h : Int) (c q : Nat) : nth m (pAt m h c) q = pAt m h (c + q) := (nth_add m c _ q).symm
/-- a search that only asks -/
theorem find_from (R : SetTR P w s.heap a L es ep t) {x : Addr} {k : List Int} (hx : IsT P w s.heap k x) (hu : A.units < cLine) {K : Nat} (fuelK : K < 10 * SetTable.turns t.mask)
    (freeK : way t.mask (thash P w k) K ∉ t.place.toList) (below : ∀ c, c < K → way t.mask (thash P w k) c ∈ t.place.toList) {Q : SetFound → Shared → Prop}
    (yes : ∀ i, k ∈ L.map (·.2) → Q (.there (some i)) s) (no : k ∉ L.map (·.2) → Q (.free (way t.mask (thash P w k) K) false) s) :
    ∀ (f c : Nat) (stand : Option SetTable.Probe), stand.getD (t.probeStart (thash P w k)) = pAt t.mask (thash P w k) c → c ≤ K → K - c < f →
      (∀ (i : Nat) p, L[i]? = some p → p.2 = k → ∃ d, c ≤ d ∧ d < K ∧ t.place.toList[i]? = some (way t.mask (thash P w k) d)) →
      wpAny (model P w) A (setSearchFrom a (.ref x) (thash P w k) false f stand) Q E s
  | 0, _, _, _, _, lt, _ => absurd lt (Nat.not_lt_zero _)
  | f + 1, c, stand, st, cK, lt, left => by
    obtain ⟨o, ho, hex, hd⟩ := R.ob
    rw [setSearchFrom_succ]
    refine wpAny_bind (wpAny_setState_of ho hd R.fits ?_)
    dsimp only
    refine wp_if_neg R.gw ?_
    try refine wpAny_bind (wpAny_pure ?_)
    have jq : ∀ q, (nth t.mask (pAt t.mask (thash P w k) c) q).j = way t.mask (thash P w k) (c + q) := fun q => congrArg SetTable.Probe.j (pAt_on ..)
    have hashAt : ∀ (i : Nat) p, L[i]? = some p → (es[i]?.map (·.1)).getD 0 = thash P w p.2 := fun i p hp => by
      rw [R.entry hp] <;> rfl
    rcases go_spec t R.tab.ris R.tab.dm (fun i => (es[i]?.map (·.1)).getD 0) (thash P w k) (10 * SetTable.turns t.mask) (K - c) _ (pAt_dummy t.mask (thash P w k) c) (by omega)
      (fun q hq => by rw [jq]; exact below (c + q) (by omega)) (by rw [jq, show c + (K - c) = K by omega]; exact freeK) with ⟨q, i, hq, hi, hh, hno, hpr⟩ | ⟨hno, hpr⟩
    · have pr : t.probe (fun i => (es[i]?.map (·.1)).getD 0) (thash P w k) (stand.getD (t.probeStart (thash P w k))) = some (.candidate (way t.mask (thash P w k) (c + q)) i (pAt t.mask (thash P w k) (c + (q + 1)))) := by
        rw [st, ← jq, ← pAt_on]
        exact hpr
      rw [pr]
      dsimp only
      rw [jq] at hi
      have il : i < L.length := by
        have z1 : i < t.place.toList.length := (List.getElem?_eq_some_iff.mp hi).1
        have z2 := R.tab.sz
        rw [List.length_map] at z2
        rw [Array.length_toList] at z1
        omega
      obtain ⟨p, hp⟩ : ∃ p, L[i]? = some p := ⟨_, List.getElem?_eq_getElem il⟩
      have mem : p ∈ L := List.mem_of_getElem? hp
      have live : t.slot (way t.mask (thash P w k) (c + q)) = .live i := slot_live R.tab.ris hi
      have cont : wpAny (model P w) A (searchRest a (.ref x) (thash P w k) false f es t (way t.mask (thash P w k) (c + q)) i (pAt t.mask (thash P w k) (c + (q + 1)))) Q E s := by
        unfold searchRest
        rw [R.entry hp]
        dsimp only
        refine wpAny_bind (wpAny_holding (wpAny_eqBool_tuple hu (R.tup p mem) hx ?_))
        refine wpAny_bind (wpAny_setState_of ho hd R.fits ?_)
        dsimp only
        refine wp_if_neg (by simp) ?_
        try refine wpAny_bind (wpAny_pure ?_)
        rw [sameMem]
        dsimp only
        simp only [if_true, live, R.entry hp]
        refine wpAny_bind (wpAny_isSame_ref_self (wpAny_bind (wpAny_pure ?_)))
        simp only [if_true]
        by_cases kk : p.2 = k
        · refine wp_if_pos (by simp [kk]) ?_
          exact wpAny_pure (yes i (List.mem_map.mpr ⟨p, mem, kk⟩))
        · refine wp_if_neg (by simp [kk]) ?_
          refine find_from R hx hu fuelK freeK below yes no f (c + (q + 1)) _ rfl (by omega) (by omega) fun i0 p0 h0 k0 => ?_
          obtain ⟨d, d1, d2, d3⟩ := left i0 p0 h0 k0
          refine ⟨d, ?_, d2, d3⟩
          have e0 : (es[i0]?.map (·.1)).getD 0 = thash P w k := (hashAt i0 p0 h0).trans (congrArg (thash P w) k0)
          rcases Nat.lt_trichotomy d (c + q) with z | z | z
          · exact absurd e0 (hno (d - c) i0 (by omega) (by rw [jq, show c + (d - c) = d by omega]; exact d3))
          · exfalso
            rw [z] at d3
            have live0 := slot_live R.tab.ris d3
            rw [live] at live0
            injection live0 with ei
            rw [← ei, hp] at h0
            exact kk ((congrArg Prod.snd (Option.some.inj h0)).trans k0)
          · omega
      by_cases led : t.led = true
      · refine wp_if_neg (by simp [led]) ?_
        try refine wpAny_bind (wpAny_pure ?_)
        exact cont
      · refine wp_if_pos (by simp [led]) ?_
        refine wpAny_bind (seen_tup hx (fun y hy => ?_) ?_)
        · obtain ⟨e, he, ee⟩ := List.mem_map.mp hy
          have he1 : e ∈ es ∧ e.1 = thash P w k := by simpa using he
          have he2 : e ∈ es.toList := by simpa using he1.1
          rw [R.rows] at he2
          obtain ⟨p2, hp2, e2⟩ := List.mem_map.mp he2
          exact ⟨p2.2, p2.1, by rw [← ee, ← e2], R.tup p2 hp2⟩
        · refine wp_if_neg (by decide) ?_
          try refine wpAny_bind (wpAny_pure ?_)
          exact cont
    · have pr : t.probe (fun i => (es[i]?.map (·.1)).getD 0) (thash P w k) (stand.getD (t.probeStart (thash P w k))) = some (.empty (way t.mask (thash P w k) K) none) := by
        have eK : way t.mask (thash P w k) K = (nth t.mask (pAt t.mask (thash P w k) c) (K - c)).j := by
          rw [jq, show c + (K - c) = K by omega]
        rw [st, eK]
        exact hpr
      rw [pr]
      dsimp only
      refine wpAny_pure (no fun hm => ?_)
      obtain ⟨p0, h0, k0⟩ := List.mem_map.mp hm
      obtain ⟨i0, hi0, e0⟩ := List.getElem_of_mem h0
      have at0 : L[i0]? = some p0 := by rw [List.getElem?_eq_getElem hi0, e0]
      obtain ⟨d, d1, d2, d3⟩ := left i0 p0 at0 k0
      exact hno (d - c) i0 (by omega) (by rw [jq, show c + (d - c) = d by omega]; exact d3) ((hashAt i0 p0 at0).trans (congrArg (thash P w) k0))
/-- x in the set -/
theorem find_at (R : SetTR P w s.heap a L es ep t) {x : Addr} {k : List Int} (hx : IsT P w s.heap k x) (hu : A.units < cLine) {Q : Option Nat → Shared → Prop}
    (h : ∀ r : Option Nat, r.isSome = decide (k ∈ L.map (·.2)) → Q r s) : wpAny (model P w) A (setFind a (.ref x) (thash P w k)) Q E s := by
  obtain ⟨o, ho, hex, hd⟩ := R.ob
  have room := R.room
  obtain ⟨K, fuelK, freeK, below⟩ := R.tab.first (by rw [List.length_map]; omega) (thash P w k)
  have big : K < 100000 := by
    have z : 10 * SetTable.turns t.mask ≤ 1420 := by
      unfold SetTable.turns
      rcases R.tab.mok with e | e | e <;> omega
    omega
  unfold setFind
  rw [show (100000 : Nat) = 99999 + 1 from rfl]
  unfold setFindIn
  refine wpAny_bind (wpAny_setState_of ho hd R.fits ?_)
  dsimp only
  refine wp_if_neg (by simp [byScan, Value.scannable]) ?_
  try refine wpAny_bind (wpAny_pure ?_)
  unfold setSearch
  refine wpAny_bind (find_from R hx hu fuelK freeK below (fun i hm => ?_) (fun hm => ?_) 100000 0 none rfl (Nat.zero_le _) (by omega) fun i p hp hk => ?_)
  · exact wpAny_pure (h _ (by rw [decide_eq_true hm] <;> rfl))
  · exact wpAny_pure (h _ (by rw [decide_eq_false hm] <;> rfl))
  · have hi : (L.map fun p => thash P w p.2)[i]? = some (thash P w k) := by rw [List.getElem?_map, hp, ← hk] <;> rfl
    have il : i < t.place.toList.length := by
      have z1 : i < L.length := (List.getElem?_eq_some_iff.mp hp).1
      have z2 := R.tab.sz
      rw [List.length_map] at z2
      rw [Array.length_toList]
      omega
    have hj := List.getElem?_eq_getElem il
    obtain ⟨c, hc, e⟩ := R.tab.before freeK hi hj
    exact ⟨c, Nat.zero_le _, hc, by rw [hj, e]⟩
theorem SetTR.typ (R : SetTR P w s.heap a L es ep t) : s.TypeIs (.ref a) "set" := let ⟨o, ho, hex, _⟩ := R.ob; ⟨o, ho, hex.1⟩
theorem in_tupset (R : SetTR P w s.heap a L es ep t) {x : Addr} {k : List Int} (hx : IsT P w s.heap k x) (hu : A.units + 64 < cLine) {Q : Value → Shared → Prop}
    (h : ∀ tk, Q (.bool (decide (k ∈ L.map (·.2)))) { s with toks := tk }) : wpAny (model P w) A (compareOp .In (.ref x) (.ref a)) Q E s := by
  show wpAny _ _ (do return .bool (← contains (.ref a) (.ref x))) Q E s
  refine wpAny_bind ?_
  unfold contains
  try with_reducible refine wpAny_holding ?_
  refine wpAny_bind (wpAny_specialOf R.typ F.slot_set_contains.lookup ?_)
  show wpAny _ _ (if (some (Value.builtin "set.__contains__") == some Value.none) = true then _ else _) _ E s
  rw [if_neg (by rw [beq_builtin_none]; exact Bool.false_ne_true)]
  refine wpAny_bind (wpAny_callSpecialUnlessNone?_slot (name := Str.ofString "__contains__") R.typ F.slot_set_contains
    (wpAny_call_entry F.slot_set_contains R.typ entry_set_contains ?_ (F.args_set_contains_2 _ _)))
  unfold Builtin.«frozenset.__contains__» Builtin.Frozenset.oneOther
  simp only [List.isEmpty_nil, bind_assoc]
  unfold Builtin.Frozenset.addrOf Builtin.Frozenset.withSetAsKey setContains
  refine wpAny_bind (wpAny_pure ?_)
  try dsimp only
  refine wpAny_bind (wpAny_pure ?_)
  try dsimp only
  refine wpAny_bind (wpAny_tryCatch ?_)
  refine wpAny_holding ?_
  refine wpAny_bind (wpAny_pyHash_tuple ?_ hx ?_)
  · show A.units + 1 < cLine
    omega
  refine wpAny_bind (find_at (s := { s with toks := s.toks + (k.length + 1) }) R hx ?_ fun r hr => ?_)
  · show A.units + 1 < cLine
    omega
  refine wpAny_pure ?_
  show wpAny _ _ (ret (Value.bool r.isSome)) _ _ _
  rw [hr]
  exact wpAny_pure ⟨_, rfl, wpAny_truthy_bool (wpAny_pure (h _))⟩
theorem add_tupset (R : SetTR P w s.heap a L es ep t) {x : Addr} {k : List Int} (hx : IsT P w s.heap k x) (hu : A.units + 64 < cLine) (few : L.length + 1 < 64) {Q : Value → Shared → Prop}
    (h : ∀ g tk L2 es2 ep2 t2, Heap.SameBut a s.heap g → SetTR P w g a L2 es2 ep2 t2 → (k ∈ L.map (·.2) → L2 = L) → (k ∉ L.map (·.2) → L2.Perm ((x, k) :: L)) → Q .none { s with heap := g, toks := tk }) :
    wpAny (model P w) A (call (.builtin "set.add") [.ref a, .ref x]) Q E s := by
  refine wpAny_call_entry F.slot_set_add R.typ F.entry_set_add ?_ (F.args_set_add_2 _ _)
  unfold Builtin.«set.add» Builtin.Frozenset.oneOther
  simp only [List.isEmpty_nil, bind_assoc]
  unfold Builtin.Frozenset.addrOf setAdd
  refine wpAny_bind (wpAny_pure ?_)
  try dsimp only
  refine wpAny_bind (wpAny_pure ?_)
  try dsimp only
  refine wpAny_bind ?_
  refine wpAny_holding ?_
  refine wpAny_bind (wpAny_pyHash_tuple ?_ hx ?_)
  · show A.units + 1 < cLine
    omega
  refine add_at (s := { s with toks := s.toks + (k.length + 1) }) R hx ?_ few fun b g L2 es2 ep2 t2 sb R2 c1 c2 => ?_
  · show A.units + 1 < cLine
    omega
  show wpAny _ _ (ret Value.none) _ _ _
  exact wpAny_pure ⟨_, rfl, h g _ L2 es2 ep2 t2 sb R2 c1 c2⟩
end
section
variable {X : Cx}
/-- the set at a holds the tuples L, each still readable -/
def HasT (K : PySem.W.Frag) (P : Program) (w : World) (H : Hp) (a : Addr) (L : List (Addr × List Int)) : Prop :=
  H a = some (SetTO P w a L) ∧ ∀ p ∈ L, SqT K H p.1 (p.2.map V.int)
theorem HasT.full {pins : List (Addr × Obj)} {σ : St} {H : Hp} {s : Shared} {a : Addr} {L : List (Addr × List Int)} (I : Inv X pins σ H s) (h : HasT X.K X.prog X.w H a L) : ∃ es ep t, SetTR X.prog X.w s.heap a L es ep t := by
  have R0 : SetT0 X.prog X.w s.heap a L := (I.hok a _ h.1).1
  exact R0.full fun p hp => I.isT (h.2 p hp)
def rHuSet0T (P : Program) (w : World) : List V → Hp → VK → Prop := fun vs H Q => vs = [] ∧ ∀ p, H p = none → Q (.ref p) (upd H p (SetTO P w p []))
theorem hu_cr_set0T : CallR X (.type "set") (rHuSet0T X.prog X.w) := by
  intro pins s σ H vs us Q I r h
  obtain ⟨rfl, q⟩ := h
  cases r
  refine setR_new fun _ => ?_
  have R := setTR_fresh (P := X.prog) (w := X.w) (h := s.heap.push { cls := .type "set", dict := none, data := .set #[] 0 (.fresh 0 0 (!X.w.params.followText "set-order")) }) (a := s.heap.objs.size) (Heap.get?_push_size _ rfl)
  exact ⟨.ref _, _, I.laid (t' := s.toks) (fun b u e => Heap.get?_push_of_some _ e) (Nat.le_refl _) (setTO_new R.t0), rfl, q _ (I.hok.fresh (Nat.le_refl _))⟩
/-- k in found -/
def rHuInT (K : PySem.W.Frag) (P : Program) (w : World) : V → V → Hp → VK → Prop := fun x y H Q => ∃ (b a : Addr) (k : List Int) (L : List (Addr × List Int)), x = V.ref b ∧ y = V.ref a ∧ SqT K H b (k.map V.int) ∧ HasT K P w H a L ∧ Q (.bl (decide (k ∈ L.map (·.2)))) H
theorem hu_or_inT (hu : X.A.units + 64 < cLine) : OpR X (compareOp .In) (rHuInT X.K X.prog X.w) := by
  intro pins s σ H x y v u Q I rx ry h
  obtain ⟨b, a, k, L, rfl, rfl, hb, ha, q⟩ := h
  cases rx
  cases ry
  obtain ⟨es, ep, t, R⟩ := ha.full I
  exact in_tupset R (I.isT hb) hu fun tk => ⟨.bl _, H, I.tok _, rfl, q⟩
/-- found.add(k) -/
def rHuAddT (K : PySem.W.Frag) (P : Program) (w : World) : V → List V → Hp → VK → Prop := fun x vs H Q => ∃ (a b : Addr) (k : List Int) (L : List (Addr × List Int)), x = V.ref a ∧ vs = [V.ref b] ∧ SqT K H b (k.map V.int) ∧ HasT K P w H a L ∧ L.length + 1 < 64 ∧
  k ∉ L.map (·.2) ∧ ∀ L2, L2.Perm ((b, k) :: L) → Q .non (upd H a (SetTO P w a L2))
theorem hu_mt_addT (hu : X.A.units + 64 < cLine) : MtR X "set.add" (rHuAddT X.K X.prog X.w) := by
  intro pins s σ H x vs v us Q I rx rxs h
  obtain ⟨a, b, k, L, rfl, rfl, hb, ha, few, new, q⟩ := h
  cases rx
  rw [Vals.ref1 rxs]
  obtain ⟨es, ep, t, R⟩ := ha.full I
  refine add_tupset R (I.isT hb) hu few fun g tk L2 es2 ep2 t2 sb R2 _ c2 => ?_
  obtain ⟨o2, ho2, _⟩ := R2.ob
  exact ⟨.non, _, I.write (e := a) (t' := tk) (by rw [ha.1]; trivial) (.inl rfl) (fun c u hc hu => (sb.2 c hc).trans hu) ⟨o2, ho2⟩ (setTO_new R2.t0), rfl, q L2 (c2 new)⟩
def tHuAddT (K : PySem.W.Frag) (P : Program) (w : World) (to : TE) (t : TA) : TE := fun σ H Q => to σ H fun x H1 => (∃ a L, x = V.ref a ∧ H1 a = some (SetTO P w a L)) ∧ t σ H1 fun xs H2 => rHuAddT K P w x xs H2 Q
variable {o e : Expr} {es : List Expr} {to : TE} {t : TA} {apos cpos : Pos}
theorem hu_pe_addT (hu : X.A.units + 64 < cLine) (ho : PE X o to) (ha : PA X (e :: es) t)
    (hbase : attributeBase o "add" X.env (eval o X.env) = eval o X.env := by rfl)
    (hfew : ((backTo cpos (starEach (e :: es) X.env)).all (fun x => !x.1) && (backToKw cpos (keywordEach [] X.env)).all (fun x => x.1.isSome)
      && decide ((e :: es).length + ([] : List Keyword).length + (if ([] : List Keyword).isEmpty then 0 else 1) < 30)) = true := by rfl)
    (hline : (apos.endLine == cpos.line) = true := by rfl) (hs : starEach (e :: es) X.env = (false, eval e X.env) :: starEach es X.env := by rfl) (hplain : (backTo cpos (starEach es X.env)).any (·.1) = false := by rfl) :
    PE X (.Call (.Attribute o "add" apos) (e :: es) [] cpos) (tHuAddT X.K X.prog X.w to t) := by
  refine ⟨fun pins s σ H Q I h => ?_⟩
  refine wpAny_Call_method_late hbase hfew hline rfl (thn (ho.run pins s σ H _ I h) fun v s1 ⟨x, H1, I1, r1, ⟨a, L, ex, hka⟩, q1⟩ => ?_)
  subst ex
  have R0 : SetT0 X.prog X.w s1.heap a L := (I1.hok a _ hka).1
  obtain ⟨es0, ep0, t0, ⟨o0, ho0, hex0, _⟩, _⟩ := R0.ex
  cases r1
  refine ⟨"set", "set.add", F.plainAttrs_set, F.slot_set_add, F.type_set_add, ⟨o0, ho0, hex0.1⟩, ?_, ?_⟩
  · intro b eb
    injection eb with eb
    subst eb
    exact ⟨o0, ho0, by first | exact hex0.2.1 | exact hex0.2.2⟩
  have hA := ha.run cpos pins s1 σ H1 _ I1 q1
  rw [hs] at hA ⊢
  refine Calls.callWith_builtin (by show (false || (backTo cpos (starEach es X.env)).any (·.1)) = false; rw [hplain] <;> rfl) (Calls.evalArgs_plain ?_)
  exact thn hA fun us s2 ⟨vs, H2, I2, r2, q2⟩ => hu_mt_addT hu pins s2 σ H2 (.ref a) vs (.ref a) us Q I2 rfl r2 q2
end
end L2

end
section
set_option maxRecDepth 100000
set_option maxHeartbeats 2000000
namespace L2
open PySem PySem.Spec PyProof.Rows
/-! ### sets of tuples of ints, up to 4914 of them -/
section
/-- the masks of such a set -/
def Wid (m : Nat) : Prop := m = 7 ∨ m = 31 ∨ m = 127 ∨ m = 511 ∨ m = 2047 ∨ m = 8191
theorem Wid.pow {m : Nat} (h : Wid m) : ∃ k, m + 1 = 2 ^ k := by
  rcases h with e | e | e | e | e | e
  · exact ⟨3, by rw [e]⟩
  · exact ⟨5, by rw [e]⟩
  · exact ⟨7, by rw [e]⟩
  · exact ⟨9, by rw [e]⟩
  · exact ⟨11, by rw [e]⟩
  · exact ⟨13, by rw [e]⟩
theorem Wid.bounds {m : Nat} (h : Wid m) : 7 ≤ m ∧ m ≤ 8191 ∧ m % 2 = 1 := by
  rcases h with e | e | e | e | e | e <;> omega

/-- five times and one more, again and again -/
def five : Nat → Nat → Nat
  | x, 0 => x
  | x, n + 1 => five (5 * x + 1) n
theorem five_add : ∀ (a x b : Nat), five x (a + b) = five (five x a) b
  | 0, x, b => by rw [Nat.zero_add] <;> rfl
  | a + 1, x, b => by
    have e : a + 1 + b = (a + b) + 1 := by omega
    rw [e]
    exact five_add a (5 * x + 1) b
/-- 2^k of these steps: x goes to x + 2^k, but for a multiple of 2^(k+1) -/
theorem five_pow (k : Nat) : ∃ a b : Nat, ∀ x, five x (2 ^ k) = (1 + 4 * (2 ^ k * a)) * x + 2 ^ k * (1 + 2 * b) := by
  induction k with
  | zero =>
    refine ⟨1, 0, fun x => ?_⟩
    show 5 * x + 1 = (1 + 4 * (2 ^ 0 * 1)) * x + 2 ^ 0 * (1 + 2 * 0)
    omega
  | succ k ih =>
    obtain ⟨a, b, h⟩ := ih
    refine ⟨a + 2 * (2 ^ k * a * a), b + 2 ^ k * a + 2 * (2 ^ k * a * b), fun x => ?_⟩
    have e : (2 : Nat) ^ (k + 1) = 2 ^ k + 2 ^ k := by rw [Nat.pow_succ]; omega
    rw [e, five_add, h, h]
    generalize (2 : Nat) ^ k = N
    grind
theorem five_shift (k x : Nat) : five x (2 ^ k) % 2 ^ (k + 1) = (x + 2 ^ k) % 2 ^ (k + 1) := by
  obtain ⟨a, b, h⟩ := five_pow k
  rw [h x]
  have e : (1 + 4 * (2 ^ k * a)) * x + 2 ^ k * (1 + 2 * b) = (x + 2 ^ k) + 2 ^ (k + 1) * (2 * (a * x) + b) := by
    rw [Nat.pow_succ]
    generalize (2 : Nat) ^ k = N
    grind
  rw [e, Nat.add_mul_mod_self_left]
/-- each remainder comes -/
theorem five_covers (x j : Nat) : ∀ k, ∃ n, n < 2 ^ k ∧ five x n % 2 ^ k = j % 2 ^ k
  | 0 => ⟨0, by decide, by rw [Nat.pow_zero, Nat.mod_one, Nat.mod_one]⟩
  | k + 1 => by
    obtain ⟨n, hn, e⟩ := five_covers x j k
    have hp : 0 < (2 : Nat) ^ k := Nat.pow_pos (by decide)
    have e2 : (2 : Nat) ^ (k + 1) = 2 ^ k * 2 := Nat.pow_succ ..
    by_cases c : five x n / 2 ^ k % 2 = j / 2 ^ k % 2
    · refine ⟨n, by omega, ?_⟩
      rw [e2, Nat.mod_mul, Nat.mod_mul, e, c]
    · refine ⟨n + 2 ^ k, by omega, ?_⟩
      rw [five_add, five_shift, e2, Nat.mod_mul, Nat.mod_mul, Nat.add_mod_right, e, Nat.add_div_right _ hp]
      have d : (five x n / 2 ^ k).succ % 2 = j / 2 ^ k % 2 := by omega
      rw [d]
theorem lcgI_five (m i : Nat) (hi : i ≤ m) : ∀ n, lcgI m i n = five i n % (m + 1)
  | 0 => (Nat.mod_eq_of_lt (Nat.lt_succ_of_le hi)).symm
  | n + 1 => by
    have e : five i (n + 1) = 5 * five i n + 1 := by rw [five_add] <;> rfl
    show (lcgI m i n * 5 + 1) % (m + 1) = _
    rw [lcgI_five m i hi n, e, Nat.add_mod, Nat.mul_mod, Nat.mod_mod, ← Nat.mul_mod, ← Nat.add_mod, Nat.mul_comm]
theorem Wid.covers {m : Nat} (h : Wid m) {i j : Nat} (hi : i ≤ m) (hj : j ≤ m) : ∃ n, n ≤ m ∧ lcgI m i n = j := by
  obtain ⟨k, hk⟩ := h.pow
  obtain ⟨n, hn, e⟩ := five_covers i j k
  rw [← hk] at hn e
  exact ⟨n, Nat.le_of_lt_succ hn, by rw [lcgI_five m i hi, e, Nat.mod_eq_of_lt (Nat.lt_succ_of_le hj)]⟩
/-- a run starts at each place, soon enough -/
theorem Wid.start {m : Nat} (wd : Wid m) (g : Int) {j : Nat} (hj : j ≤ m) : ∃ n, n ≤ m + 12 ∧ runI m (SetTable.bits g) n = j := by
  obtain ⟨n, hn, e⟩ := wd.covers (runI_le m (SetTable.bits g) 12) hj
  refine ⟨12 + n, by omega, ?_⟩
  rw [runI_tail (bits_lt g), e]
theorem Wid.comes {m : Nat} (wd : Wid m) (g : Int) {j : Nat} (hj : j ≤ m) : ∃ c, c < 10 * SetTable.turns m ∧ way m g c = j := by
  obtain ⟨n, hn, e⟩ := wd.start g hj
  obtain ⟨c, hc, e2⟩ := run_nth m (SetTable.bits g) n
  have e3 : way m g c = runI m (SetTable.bits g) n := congrArg SetTable.Probe.j e2
  exact ⟨c, by unfold SetTable.turns; omega, e3.trans e⟩
theorem way_low (m : Nat) (g : Int) (c : Nat) : way m g c ≤ m := by
  have b0 : SetTable.bits g % (m + 1) ≤ m := Nat.le_of_lt_succ (Nat.mod_lt _ (Nat.succ_pos m))
  have b1 := runEnd_bd b0
  have b2 := nth_in (m := m) c (runAt m (SetTable.bits g % (m + 1)) (SetTable.bits g)) (by
    show SetTable.bits g % (m + 1) + (SetTable.runEnd m (SetTable.bits g % (m + 1)) - SetTable.bits g % (m + 1)) ≤ m
    omega)
  exact Nat.le_trans (Nat.le_add_right _ _) b2

/-- a table in which a search for a hash passes its places -/
structure Lay (t : SetTable) (hs : List Int) : Prop where
  wid : Wid t.mask
  up : Ris t.place.toList
  bare : t.dummies = #[]
  many : t.place.size = hs.length
  low : ∀ j ∈ t.place.toList, j ≤ t.mask
  path : ∀ (i : Nat) (g : Int) (j : Nat), hs[i]? = some g → t.place.toList[i]? = some j → ∃ n, way t.mask g n = j ∧ ∀ c, c < n → way t.mask g c ∈ t.place.toList
variable {t : SetTable} {hs : List Int}
theorem Lay.hole (T : Lay t hs) (le : hs.length ≤ t.mask) (g : Int) : ∃ n, n < 10 * SetTable.turns t.mask ∧ way t.mask g n ∉ t.place.toList ∧ ∀ c, c < n → way t.mask g c ∈ t.place.toList := by
  obtain ⟨j, lt, out⟩ := st_missing t.place.toList (t.mask + 1) (by rw [Array.length_toList, T.many]; omega)
  obtain ⟨c0, lt0, e0⟩ := T.wid.comes g (Nat.le_of_lt_succ lt)
  obtain ⟨n, n1, n2, n3⟩ := st_least (p := fun c => way t.mask g c ∉ t.place.toList) c0 (fun hm => out (e0 ▸ hm))
  exact ⟨n, Nat.lt_of_le_of_lt n1 lt0, n2, fun c hc => Classical.not_not.mp (n3 c hc)⟩
theorem Lay.ahead (T : Lay t hs) {g : Int} {n i j : Nat} (out : way t.mask g n ∉ t.place.toList) (hi : hs[i]? = some g) (hj : t.place.toList[i]? = some j) : ∃ c, c < n ∧ way t.mask g c = j := by
  obtain ⟨c, e, bef⟩ := T.path i g j hi hj
  refine ⟨c, Nat.lt_of_not_le fun le => ?_, e⟩
  rcases Nat.lt_or_eq_of_le le with lt | eq
  · exact out (bef n lt)
  · rw [eq, e] at out
    exact out (List.mem_of_getElem? hj)
theorem Lay.put (T : Lay t hs) {g : Int} {n : Nat} (out : way t.mask g n ∉ t.place.toList) (bef : ∀ c, c < n → way t.mask g c ∈ t.place.toList) :
    SetTable.below t.place (way t.mask g n) ≤ hs.length ∧ Lay (t.put (way t.mask g n)).1 (hs.take (SetTable.below t.place (way t.mask g n)) ++ g :: hs.drop (SetTable.below t.place (way t.mask g n))) ∧
    (t.put (way t.mask g n)).1.fill = hs.length + 1 := by
  have jm := way_low t.mask g n
  obtain ⟨j, ej⟩ : ∃ j, way t.mask g n = j := ⟨_, rfl⟩
  rw [ej] at out jm ⊢
  have b1 : SetTable.below t.place j ≤ t.place.size := (below_cut T.up j).1
  have b2 : SetTable.below t.place j ≤ t.place.toList.length := by rw [Array.length_toList]; exact b1
  have b3 : SetTable.below t.place j ≤ hs.length := by rw [← T.many]; exact b1
  have pl := put_place t j
  have inn : ∀ x ∈ t.place.toList, x ∈ (t.put j).1.place.toList := fun x hx => by
    rw [pl]
    exact mem_ins.2 (.inr hx)
  have sz : (t.put j).1.place.size = hs.length + 1 := by
    rw [← Array.length_toList, pl, len_ins _ b2, Array.length_toList, T.many]
  refine ⟨b3, ⟨T.wid, ?_, put_dm T.bare j, by rw [len_ins _ b3]; exact sz, fun x hx => ?_, fun i g' j' h1 h2 => ?_⟩, ?_⟩
  · exact ris_insert T.up fun e => out (List.mem_of_getElem? (by rw [Array.getElem?_toList]; exact e))
  · rw [pl] at hx
    rcases mem_ins.1 hx with e | hx
    · rw [e]
      exact jm
    · exact T.low x hx
  · rw [pl, tins_get _ b2] at h2
    rw [tins_get hs b3] at h1
    have old : ∀ i0, hs[i0]? = some g' → t.place.toList[i0]? = some j' → ∃ n0, way t.mask g' n0 = j' ∧ ∀ c, c < n0 → way t.mask g' c ∈ (t.put j).1.place.toList := fun i0 a1 a2 => by
      obtain ⟨n0, x1, x2⟩ := T.path i0 g' j' a1 a2
      exact ⟨n0, x1, fun c hc => inn _ (x2 c hc)⟩
    rcases Nat.lt_trichotomy i (SetTable.below t.place j) with c | c | c
    · rw [if_pos c] at h1 h2
      exact old i h1 h2
    · rw [if_neg (by omega), if_pos c] at h1 h2
      obtain rfl := Option.some.inj h1
      obtain rfl := Option.some.inj h2
      exact ⟨n, ej, fun c hc => inn _ (bef c hc)⟩
    · rw [if_neg (by omega), if_neg (by omega)] at h1 h2
      exact old (i - 1) h1 h2
  · show (t.put j).1.place.size + (t.put j).1.dummies.size = _
    rw [sz, put_dm T.bare j] <;> rfl

/-! the table laid out again -/
theorem Wid.free {m : Nat} (wd : Wid m) (owner : Array (Option Nat)) (g : Int) {j : Nat} (hj : j ≤ m) (none0 : oAt owner j = none) :
    ∃ n, SetTable.layClean.free m owner (SetTable.turns m) (SetTable.bits g % (m + 1)) (SetTable.bits g) = some (way m g n) ∧ oAt owner (way m g n) = none ∧ ∀ c, c < n → oAt owner (way m g c) ≠ none := by
  obtain ⟨r, le, e⟩ := wd.start g hj
  have at_ : way m g (off m (SetTable.bits g % (m + 1)) (SetTable.bits g) r) = j := by
    refine Eq.trans (congrArg SetTable.Probe.j (nth_off m r _ _)) ?_
    rw [itL_run]
    exact e
  obtain ⟨n, n1, n2, n3⟩ := st_least (p := fun c => oAt owner (way m g c) = none) _ (show oAt owner (way m g _) = none by rw [at_]; exact none0)
  refine ⟨n, free_spec m owner _ r _ _ n (by unfold SetTable.turns; omega) n1 (fun c hc => ?_) ?_, n2, n3⟩
  · cases z : oAt owner (way m g c) with
    | none => exact absurd z (n3 c hc)
    | some q => rfl
  · exact (congrArg Option.isNone n2)
theorem Wid.own {m : Nat} (wd : Wid m) {done : List Int} {owner : Array (Option Nat)} (W : Own m done owner) (few : done.length ≤ m) (g : Int) :
    ∃ j, SetTable.layClean.free m owner (SetTable.turns m) (SetTable.bits g % (m + 1)) (SetTable.bits g) = some j ∧ Own m (done ++ [g]) (owner.setIfInBounds j (some done.length)) := by
  obtain ⟨ps, lp, cov⟩ := W.ps
  obtain ⟨j0, lt0, out0⟩ := st_missing ps (m + 1) (by omega)
  have no0 : oAt owner j0 = none := Classical.byContradiction fun z => out0 (cov j0 (Nat.le_of_lt_succ lt0) z)
  obtain ⟨n, f, vac, bef⟩ := wd.free owner g (Nat.le_of_lt_succ lt0) no0
  have lm := way_low m g n
  refine ⟨_, f, ?_⟩
  generalize hj : way m g n = j at vac lm
  have slf := oAt_set_self (owner := owner) (some done.length) (j := j) (by rw [W.sz]; omega)
  have keep : ∀ i, oAt owner i ≠ none → oAt (owner.setIfInBounds j (some done.length)) i ≠ none := fun i hi => by
    by_cases c : i = j
    · rw [c, slf]
      exact Option.some_ne_none _
    · rw [oAt_set_ne _ c]
      exact hi
  constructor
  · rw [Array.size_setIfInBounds, W.sz]
  · intro i k hi e
    by_cases c : i = j
    · rw [c, slf] at e
      obtain rfl := Option.some.inj e
      refine ⟨g, n, ?_, hj.trans c.symm, fun c hc => keep _ (bef c hc)⟩
      rw [List.getElem?_append_right (Nat.le_refl _), Nat.sub_self] <;> rfl
    · rw [oAt_set_ne _ c] at e
      obtain ⟨g', n', x1, x2, x3⟩ := W.at_ i k hi e
      exact ⟨g', n', by rw [List.getElem?_append_left (List.getElem?_eq_some_iff.mp x1).1]; exact x1, x2, fun c hc => keep _ (x3 c hc)⟩
  · intro k hk
    rw [List.length_append, List.length_singleton] at hk
    rcases Nat.lt_or_eq_of_le (Nat.le_of_lt_succ hk) with c | c
    · obtain ⟨i, hi, e⟩ := W.all k c
      have ne : i ≠ j := fun z => by
        rw [z, vac] at e
        exact nomatch e
      exact ⟨i, hi, by rw [oAt_set_ne _ ne]; exact e⟩
    · exact ⟨j, lm, by rw [slf, c]⟩
  · refine ⟨j :: ps, by rw [List.length_cons, lp, List.length_append] <;> rfl, fun i hi e => ?_⟩
    by_cases c : i = j
    · rw [c]
      exact .head _
    · rw [oAt_set_ne _ c] at e
      exact .tail _ (cov i hi e)
theorem Wid.lays {m : Nat} (wd : Wid m) : ∀ (rest done : List Int) (owner : Array (Option Nat)), Own m done owner → done.length + rest.length ≤ m →
    ∃ o2, rest.foldl (stepF m) (some (owner, done.length)) = some (o2, (done ++ rest).length) ∧ Own m (done ++ rest) o2
  | [], done, owner, W, _ => by
    rw [List.append_nil]
    exact ⟨owner, rfl, W⟩
  | g :: rest, done, owner, W, le => by
    have lc : (g :: rest).length = rest.length + 1 := rfl
    have ls : (done ++ [g]).length = done.length + 1 := by rw [List.length_append] <;> rfl
    obtain ⟨j, f, W1⟩ := wd.own W (by omega) g
    obtain ⟨o2, h1, h2⟩ := wd.lays rest (done ++ [g]) _ W1 (by omega)
    rw [ls, List.append_assoc] at h1
    rw [List.append_assoc] at h2
    exact ⟨o2, by rw [List.foldl_cons, stepF_some f]; exact h1, h2⟩
theorem Wid.relaid {M : Nat} (wd : Wid M) (t : SetTable) {hs : Array Int} {wanted : Nat} (hw : SetTable.sizeAbove wanted - 1 = M) (le : hs.size ≤ M) :
    ∃ t2 order, t.relaid hs wanted = some (t2, order) ∧ order.toList.Perm (List.range hs.size) ∧ Lay t2 (order.toList.map fun i => hs.getD i 0) ∧ t2.mask = M ∧ t2.led = t.led ∧ t2.plain = t.plain := by
  obtain ⟨owner, f, W⟩ := wd.lays hs.toList [] _ (Own.init M) (by rw [Array.length_toList]; show 0 + hs.size ≤ M; omega)
  rw [List.nil_append] at f W
  have lay : SetTable.layClean M hs = some owner := by
    rw [layClean_eq]
    exact (congrArg (Option.map (·.1)) f)
  generalize hLv : liveOf M owner = Lv
  have mem : ∀ j k, (j, k) ∈ Lv ↔ j ≤ M ∧ oAt owner j = some k := fun j k => by
    rw [← hLv]
    exact mem_live W.sz
  have up : Ris (Lv.map (·.1)) ∧ ∀ x ∈ Lv.map (·.1), x ∈ List.range (M + 1) := by
    rw [← hLv]
    exact ris_live (fun j => owner.getD j none) (List.range (M + 1)) (by
      unfold Ris
      first | exact List.pairwise_lt_range | exact List.pairwise_lt_range _)
  have ks : ∀ k, k < hs.size → k ∈ Lv.map (·.2) := fun k hk => by
    obtain ⟨j, j1, j2⟩ := W.all k (by rw [Array.length_toList]; exact hk)
    exact List.mem_map.mpr ⟨(j, k), (mem j k).2 ⟨j1, j2⟩, rfl⟩
  have cnt : (Lv.map (·.2)).length = hs.size := by
    obtain ⟨ps, lp, cov⟩ := W.ps
    have fs : (Lv.map (·.1)).Nodup := List.Pairwise.imp (fun h => Nat.ne_of_lt h) up.1
    have c1 := nat_nodup_len (Lv.map (·.1)) ps fs fun x hx => by
      obtain ⟨⟨j, k⟩, jk, rfl⟩ := List.mem_map.mp hx
      obtain ⟨x1, x2⟩ := (mem j k).1 jk
      exact cov j x1 (by rw [x2]; exact Option.some_ne_none k)
    have c2 := nat_nodup_len (List.range hs.size) (Lv.map (·.2)) List.nodup_range fun k hk => ks k (List.mem_range.mp hk)
    have z : hs.toList.length = hs.size := rfl
    rw [List.length_map, lp] at c1
    rw [List.length_range, List.length_map] at c2
    rw [List.length_map]
    omega
  refine ⟨tabOf t M owner, (Lv.map (·.2)).toArray, ?_, perm_range hs.size _ cnt ks, ⟨wd, ?_, rfl, ?_, fun j hj => ?_, fun i g j h1 h2 => ?_⟩, rfl, rfl, rfl⟩
  · rw [relaid_eq, hw, lay, ← hLv] <;> rfl
  · show Ris ((liveOf M owner).map (·.1))
    rw [hLv]
    exact up.1
  · show ((liveOf M owner).map (·.1)).toArray.size = _
    rw [hLv, List.size_toArray, List.length_map, List.length_map, List.length_map]
  · have hj' : j ∈ (liveOf M owner).map (·.1) := hj
    rw [hLv] at hj'
    exact Nat.le_of_lt_succ (List.mem_range.mp (up.2 j hj'))
  · have h2' : ((liveOf M owner).map (·.1))[i]? = some j := h2
    have h1' : ((Lv.map (·.2)).map fun i => hs.getD i 0)[i]? = some g := h1
    rw [hLv, List.getElem?_map] at h2'
    rw [List.getElem?_map, List.getElem?_map] at h1'
    obtain ⟨⟨y, k⟩, q1, rfl⟩ := Option.map_eq_some_iff.mp h2'
    rw [q1] at h1'
    obtain rfl := Option.some.inj h1'
    obtain ⟨m1, m2⟩ := (mem y k).1 (List.mem_of_getElem? q1)
    obtain ⟨g0, n, d1, d2, d3⟩ := W.at_ y k m1 m2
    have eg : hs.getD k 0 = g0 := by
      rw [Array.getD_eq_getD_getElem?, ← Array.getElem?_toList, d1] <;> rfl
    show ∃ n, way M (hs.getD k 0) n = y ∧ ∀ c, c < n → way M (hs.getD k 0) c ∈ (liveOf M owner).map (·.1)
    rw [eg, hLv]
    refine ⟨n, d2, fun c hc => ?_⟩
    obtain ⟨k2, e2⟩ := Option.ne_none_iff_exists'.mp (d3 c hc)
    exact List.mem_map.mpr ⟨(way M g0 c, k2), (mem _ _).2 ⟨way_low M g0 c, e2⟩, rfl⟩
end
end L2

end
section
set_option maxRecDepth 100000
set_option maxHeartbeats 2000000
namespace L2
open PySem PySem.Spec PyProof.Rows
/-! ### a set of up to 4914 tuples of ints: searching, adding -/
section
variable {P : Program} {w : World} {A : Around} {E : Value → Shared → Prop} {s : Shared}
variable {a : Addr} {L : List (Addr × List Int)} {es : Array (Int × Value)} {ep : Nat} {t : SetTable}
/-- the hashes of the rows -/
abbrev hsh (P : Program) (w : World) (L : List (Addr × List Int)) : List Int := L.map fun p => thash P w p.2
/-- the object at a is a set whose entries are L -/
structure BigO (P : Program) (w : World) (h : Heap) (a : Addr) (L : List (Addr × List Int)) (es : Array (Int × Value)) (ep : Nat) (t : SetTable) : Prop where
  obj : ∃ o, h.get? a = some o ∧ o.ExactSet ∧ o.data = .set es ep t
  ent : es.toList = rowsOf P w L
  lay : Lay t (hsh P w L)
  dif : (L.map (·.2)).Nodup
  pln : t.plain = true
  seq : w.params.followText "set-order" = true ∨ t.led = true
  gap : L.length * 5 < t.mask * 3
theorem rowsOf_len {es : Array (Int × Value)} (h : es.toList = rowsOf P w L) : es.size = L.length := by
  have e := congrArg List.length h
  rw [Array.length_toList] at e
  exact e.trans (List.length_map ..)
namespace BigO
theorem size (R : BigO P w s.heap a L es ep t) : es.size = L.length := rowsOf_len R.ent
theorem many (R : BigO P w s.heap a L es ep t) : t.place.size = L.length := R.lay.many.trans (List.length_map ..)
theorem fits (R : BigO P w s.heap a L es ep t) : t.fits es.size = true := by
  have g := R.gap
  have c1 : t.place.size = es.size := R.many.trans R.size.symm
  have c2 : t.place.size + t.dummies.size ≤ t.mask := by
    rw [R.lay.bare, R.many]
    show L.length + 0 ≤ _
    omega
  unfold SetTable.fits SetTable.fill
  rw [Bool.and_eq_true, beq_iff_eq, decide_eq_true_eq]
  exact ⟨c1, c2⟩
theorem row (R : BigO P w s.heap a L es ep t) {i : Nat} {p : Addr × List Int} (h : L[i]? = some p) : es[i]? = some (thash P w p.2, Value.ref p.1) := by
  rw [← Array.getElem?_toList, R.ent]
  refine (List.getElem?_map ..).trans ?_
  rw [h] <;> rfl
theorem whole (R : BigO P w s.heap a L es ep t) : ¬ t.gaveWay = true := by
  unfold SetTable.gaveWay
  rw [R.lay.wid.bounds.2.2]
  decide
end BigO
/-- a search, from its c-th place on: for adding, or for asking -/
theorem big_from (R : BigO P w s.heap a L es ep t) (tup : ∀ p ∈ L, IsT P w s.heap p.2 p.1) {x : Addr} {k : List Int} (hx : IsT P w s.heap k x) (hu : A.units < cLine) (adding : Bool) {n : Nat} (fuel : n < 10 * SetTable.turns t.mask)
    (out : way t.mask (thash P w k) n ∉ t.place.toList) (bef : ∀ c, c < n → way t.mask (thash P w k) c ∈ t.place.toList) {Q : SetFound → Shared → Prop}
    (yes : ∀ r, (adding = true → r = none) → (adding = false → r.isSome = true) → k ∈ L.map (·.2) → Q (.there r) s) (no : k ∉ L.map (·.2) → Q (.free (way t.mask (thash P w k) n) false) s) :
    ∀ (f c : Nat) (stand : Option SetTable.Probe), stand.getD (t.probeStart (thash P w k)) = pAt t.mask (thash P w k) c → c ≤ n → n - c < f →
      (∀ (i : Nat) p, L[i]? = some p → p.2 = k → ∃ d, c ≤ d ∧ d < n ∧ t.place.toList[i]? = some (way t.mask (thash P w k) d)) →
      wpAny (model P w) A (setSearchFrom a (.ref x) (thash P w k) adding f stand) Q E s
  | 0, _, _, _, _, lt, _ => absurd lt (Nat.not_lt_zero _)
  | f + 1, c, stand, st, cn, lt, left => by
    obtain ⟨o, ho, hex, hd⟩ := R.obj
    rw [setSearchFrom_succ]
    refine wpAny_bind (wpAny_setState_of ho hd R.fits ?_)
    dsimp only
    refine wp_if_neg R.whole ?_
    try refine wpAny_bind (wpAny_pure ?_)
    have step : ∀ q, (nth t.mask (pAt t.mask (thash P w k) c) q).j = way t.mask (thash P w k) (c + q) := fun q => congrArg SetTable.Probe.j (pAt_on t.mask (thash P w k) c q)
    have rest : n - c + c = n := Nat.sub_add_cancel cn
    have hash : ∀ (i : Nat) p, L[i]? = some p → (es[i]?.map (·.1)).getD 0 = thash P w p.2 := fun i p hp => by
      rw [R.row hp] <;> rfl
    have last : (nth t.mask (pAt t.mask (thash P w k) c) (n - c)).j = way t.mask (thash P w k) n := by rw [step, Nat.add_comm c, rest]
    have spec := go_spec t R.lay.up R.lay.bare (fun i => (es[i]?.map (·.1)).getD 0) (thash P w k) (10 * SetTable.turns t.mask) (n - c) _ (pAt_dummy t.mask (thash P w k) c) (by omega)
      (fun q hq => by rw [step]; exact bef (c + q) (by omega)) (by rw [last]; exact out)
    rcases spec with ⟨q, i, hq, hi, hh, before, pr⟩ | ⟨before, pr⟩
    · rw [step] at hi pr
      rw [show stand.getD (t.probeStart (thash P w k)) = pAt t.mask (thash P w k) c from st]
      rw [show t.probe (fun i => (es[i]?.map (·.1)).getD 0) (thash P w k) (pAt t.mask (thash P w k) c) = _ from pr]
      dsimp only
      have il : i < L.length := by
        have z := (List.getElem?_eq_some_iff.mp hi).1
        rw [Array.length_toList, R.many] at z
        exact z
      obtain ⟨p, hp⟩ : ∃ p, L[i]? = some p := ⟨_, List.getElem?_eq_getElem il⟩
      have mem : p ∈ L := List.mem_of_getElem? hp
      have live : t.slot (way t.mask (thash P w k) (c + q)) = .live i := slot_live R.lay.up hi
      have cont : wpAny (model P w) A (searchRest a (.ref x) (thash P w k) adding f es t (way t.mask (thash P w k) (c + q)) i (nth t.mask (pAt t.mask (thash P w k) c) (q + 1))) Q E s := by
        unfold searchRest
        rw [R.row hp]
        dsimp only
        refine wpAny_bind (wpAny_holding (wpAny_eqBool_tuple hu (tup p mem) hx ?_))
        refine wpAny_bind (wpAny_setState_of ho hd R.fits ?_)
        dsimp only
        by_cases kk : p.2 = k
        · have km : k ∈ L.map (·.2) := List.mem_map.mpr ⟨p, mem, kk⟩
          cases adding with
          | true =>
            refine wp_if_pos (by simp [kk]) ?_
            exact wpAny_pure (yes none (fun _ => rfl) (fun z => nomatch z) km)
          | false =>
            refine wp_if_neg (by simp) ?_
            try refine wpAny_bind (wpAny_pure ?_)
            rw [sameMem]
            dsimp only
            simp only [if_true, live, R.row hp]
            refine wpAny_bind (wpAny_isSame_ref_self (wpAny_bind (wpAny_pure ?_)))
            simp only [if_true]
            refine wp_if_pos (by simp [kk]) ?_
            exact wpAny_pure (yes (some i) (fun z => nomatch z) (fun _ => rfl) km)
        · refine wp_if_neg (by simp [kk]) ?_
          try refine wpAny_bind (wpAny_pure ?_)
          rw [sameMem]
          dsimp only
          simp only [if_true, live, R.row hp]
          refine wpAny_bind (wpAny_isSame_ref_self (wpAny_bind (wpAny_pure ?_)))
          simp only [if_true]
          refine wp_if_neg (by simp [kk]) ?_
          refine big_from R tup hx hu adding fuel out bef yes no f (c + (q + 1)) _ (pAt_on ..) (by omega) (by omega) fun i0 p0 h0 k0 => ?_
          obtain ⟨d, d1, d2, d3⟩ := left i0 p0 h0 k0
          refine ⟨d, Nat.lt_of_not_le fun le => ?_, d2, d3⟩
          have h1 : (es[i0]?.map (·.1)).getD 0 = thash P w k := (hash i0 p0 h0).trans (congrArg (thash P w) k0)
          have le2 : d ≤ c + q := le
          rcases Nat.lt_or_eq_of_le le2 with z | z
          · refine before (d - c) i0 (by omega) ?_ h1
            rw [step, show c + (d - c) = d by omega]
            exact d3
          · rw [z] at d3
            have two := live.symm.trans (slot_live R.lay.up d3)
            injection two with two
            rw [← two, hp] at h0
            exact kk ((congrArg Prod.snd (Option.some.inj h0)).trans k0)
      by_cases led : t.led = true
      · refine wp_if_neg (by simp [led]) ?_
        try refine wpAny_bind (wpAny_pure ?_)
        exact cont
      · refine wp_if_pos (by simp [led]) ?_
        refine wpAny_bind (seen_tup hx (fun y hy => ?_) (wp_if_neg (by decide) ?_))
        · obtain ⟨e, he, rfl⟩ := List.mem_map.mp hy
          have he2 : e ∈ es ∧ e.1 = thash P w k := by simpa using he
          have he3 : e ∈ rowsOf P w L := by
            rw [← R.ent]
            simpa using he2.1
          obtain ⟨p2, m2, rfl⟩ := List.mem_map.mp he3
          exact ⟨p2.2, p2.1, rfl, tup p2 m2⟩
        · try refine wpAny_bind (wpAny_pure ?_)
          exact cont
    · rw [last] at pr
      rw [show stand.getD (t.probeStart (thash P w k)) = pAt t.mask (thash P w k) c from st]
      rw [show t.probe (fun i => (es[i]?.map (·.1)).getD 0) (thash P w k) (pAt t.mask (thash P w k) c) = _ from pr]
      dsimp only
      refine wpAny_pure (no fun hm => ?_)
      obtain ⟨p0, m0, k0⟩ := List.mem_map.mp hm
      obtain ⟨i0, l0, e0⟩ := List.getElem_of_mem m0
      have h0 : L[i0]? = some p0 := (List.getElem?_eq_getElem l0).trans (congrArg some e0)
      obtain ⟨d, d1, d2, d3⟩ := left i0 p0 h0 k0
      refine before (d - c) i0 (by omega) ?_ ((hash i0 p0 h0).trans (congrArg (thash P w) k0))
      rw [step, show c + (d - c) = d by omega]
      exact d3
/-- the whole search -/
theorem big_search (R : BigO P w s.heap a L es ep t) (tup : ∀ p ∈ L, IsT P w s.heap p.2 p.1) {x : Addr} {k : List Int} (hx : IsT P w s.heap k x) (hu : A.units < cLine) (adding : Bool) {Q : SetFound → Shared → Prop}
    (yes : ∀ r, (adding = true → r = none) → (adding = false → r.isSome = true) → k ∈ L.map (·.2) → Q (.there r) s)
    (no : ∀ n, k ∉ L.map (·.2) → way t.mask (thash P w k) n ∉ t.place.toList → (∀ c, c < n → way t.mask (thash P w k) c ∈ t.place.toList) → Q (.free (way t.mask (thash P w k) n) false) s) :
    wpAny (model P w) A (setSearch a (.ref x) (thash P w k) adding) Q E s := by
  have g := R.gap
  obtain ⟨n, fuel, out, bef⟩ := R.lay.hole (by rw [List.length_map]; omega) (thash P w k)
  have big : n < 100000 := by
    have b := R.lay.wid.bounds.2.1
    unfold SetTable.turns at fuel
    omega
  unfold setSearch
  refine big_from R tup hx hu adding fuel out bef yes (fun nm => no n nm out bef) 100000 0 none rfl (Nat.zero_le _) (by omega) fun i p hp hk => ?_
  have hi : (hsh P w L)[i]? = some (thash P w k) := by
    refine (List.getElem?_map ..).trans ?_
    rw [hp, ← hk] <;> rfl
  have il : i < t.place.toList.length := by
    rw [Array.length_toList, R.many]
    exact (List.getElem?_eq_some_iff.mp hp).1
  obtain ⟨c, c1, c2⟩ := R.lay.ahead out hi (List.getElem?_eq_getElem il)
  exact ⟨c, Nat.zero_le c, c1, by rw [c2]; exact List.getElem?_eq_getElem il⟩
theorem BigO.typ (R : BigO P w s.heap a L es ep t) : s.TypeIs (.ref a) "set" := let ⟨o, ho, hex, _⟩ := R.obj; ⟨o, ho, hex.1⟩
/-- k in the set -/
theorem big_in (R : BigO P w s.heap a L es ep t) (tup : ∀ p ∈ L, IsT P w s.heap p.2 p.1) {x : Addr} {k : List Int} (hx : IsT P w s.heap k x) (hu : A.units + 64 < cLine) {Q : Value → Shared → Prop}
    (h : ∀ tk, Q (.bool (decide (k ∈ L.map (·.2)))) { s with toks := tk }) : wpAny (model P w) A (compareOp .In (.ref x) (.ref a)) Q E s := by
  show wpAny _ _ (do return .bool (← contains (.ref a) (.ref x))) Q E s
  refine wpAny_bind ?_
  unfold contains
  try with_reducible refine wpAny_holding ?_
  refine wpAny_bind (wpAny_specialOf R.typ F.slot_set_contains.lookup ?_)
  show wpAny _ _ (if (some (Value.builtin "set.__contains__") == some Value.none) = true then _ else _) _ E s
  rw [if_neg (by rw [beq_builtin_none]; exact Bool.false_ne_true)]
  refine wpAny_bind (wpAny_callSpecialUnlessNone?_slot (name := Str.ofString "__contains__") R.typ F.slot_set_contains
    (wpAny_call_entry F.slot_set_contains R.typ entry_set_contains ?_ (F.args_set_contains_2 _ _)))
  unfold Builtin.«frozenset.__contains__» Builtin.Frozenset.oneOther
  simp only [List.isEmpty_nil, bind_assoc]
  unfold Builtin.Frozenset.addrOf Builtin.Frozenset.withSetAsKey setContains
  refine wpAny_bind (wpAny_pure ?_)
  try dsimp only
  refine wpAny_bind (wpAny_pure ?_)
  try dsimp only
  refine wpAny_bind (wpAny_tryCatch ?_)
  refine wpAny_holding ?_
  refine wpAny_bind (wpAny_pyHash_tuple ?_ hx ?_)
  · show A.units + 1 < cLine
    omega
  have R2 : BigO P w ({ s with toks := s.toks + (k.length + 1) } : Shared).heap a L es ep t := R
  obtain ⟨o, ho, hex, hd⟩ := R2.obj
  have fin : ∀ r : Option Nat, r.isSome = decide (k ∈ L.map (·.2)) → wpAny (model P w) A (pure (Value.bool r.isSome)) (fun v s' => Q v s') E { s with toks := s.toks + (k.length + 1) } := fun r hr => by
    rw [hr]
    exact wpAny_pure (h _)
  refine wpAny_bind (Q := _) (m := setFind a (.ref x) (thash P w k)) ?_
  unfold setFind
  rw [show (100000 : Nat) = 99999 + 1 from rfl]
  unfold setFindIn
  refine wpAny_bind (wpAny_setState_of ho hd R2.fits ?_)
  dsimp only
  refine wp_if_neg (by simp [byScan, Value.scannable]) ?_
  try refine wpAny_bind (wpAny_pure ?_)
  refine wpAny_bind (big_search R2 tup hx (by show A.units + 1 < cLine; omega) false (fun r _ hr hm => ?_) (fun n nm out bef => ?_))
  · refine wpAny_pure ?_
    refine wpAny_pure ?_
    show wpAny _ _ (ret (Value.bool r.isSome)) _ _ _
    rw [hr rfl, ← decide_eq_true hm]
    exact wpAny_pure ⟨_, rfl, wpAny_truthy_bool (wpAny_pure (h _))⟩
  · refine wpAny_pure ?_
    refine wpAny_pure ?_
    show wpAny _ _ (ret (Value.bool (none : Option Nat).isSome)) _ _ _
    rw [show (none : Option Nat).isSome = decide (k ∈ L.map (·.2)) from (decide_eq_false nm).symm]
    exact wpAny_pure ⟨_, rfl, wpAny_truthy_bool (wpAny_pure (h _))⟩

theorem grow_size {n m : Nat} (wd : Wid m) (lt : n * 5 < m * 3) (ge : (n + 1) * 5 ≥ m * 3) (few : n + 1 < 4915) : ∃ M, SetTable.sizeAbove (SetTable.grown (n + 1)) = M + 1 ∧ Wid M ∧ (n + 1) * 5 < M * 3 ∧ M ≤ 8191 := by
  rcases wd with e | e | e | e | e | e
  · obtain rfl : n = 4 := by omega
    exact ⟨31, by decide +kernel, .inr (.inl rfl), by omega, by omega⟩
  · obtain rfl : n = 18 := by omega
    exact ⟨127, by decide +kernel, .inr (.inr (.inl rfl)), by omega, by omega⟩
  · obtain rfl : n = 76 := by omega
    exact ⟨511, by decide +kernel, .inr (.inr (.inr (.inl rfl))), by omega, by omega⟩
  · obtain rfl : n = 306 := by omega
    exact ⟨2047, by decide +kernel, .inr (.inr (.inr (.inr (.inl rfl)))), by omega, by omega⟩
  · obtain rfl : n = 1228 := by omega
    exact ⟨8191, by decide +kernel, .inr (.inr (.inr (.inr (.inr rfl)))), by omega, by omega⟩
  · omega
/-- the set's table laid out anew, larger -/
theorem big_relay {o : Obj} (ho : s.heap.get? a = some o) (hex : o.ExactSet) (hd : o.data = .set es ep t) (ent : es.toList = rowsOf P w L) (lay : Lay t (hsh P w L)) (le : L.length ≤ t.mask)
    (dif : (L.map (·.2)).Nodup) (pln : t.plain = true) (seq : w.params.followText "set-order" = true ∨ t.led = true) {wanted M : Nat}
    (hw : SetTable.sizeAbove wanted = M + 1) (wd : Wid M) (room : L.length * 5 < M * 3) {Q : Unit → Shared → Prop}
    (q : ∀ g L2 es2 ep2 t2, Heap.SameBut a s.heap g → BigO P w g a L2 es2 ep2 t2 → L2.Perm L → Q () { s with heap := g }) : wpAny (model P w) A (setRelay a wanted) Q E s := by
  have sz : es.size = L.length := rowsOf_len ent
  have many : t.place.size = L.length := lay.many.trans (List.length_map ..)
  have fits : t.fits es.size = true := by
    unfold SetTable.fits SetTable.fill
    rw [Bool.and_eq_true, beq_iff_eq, decide_eq_true_eq, lay.bare, many, sz]
    exact ⟨rfl, by show L.length + 0 ≤ _; omega⟩
  have bM := wd.bounds
  obtain ⟨t2, order, e, pm, lay2, em, el, ep2⟩ := wd.relaid t (hs := es.map (·.1)) (wanted := wanted) (by omega) (by rw [Array.size_map, sz]; omega)
  rw [Array.size_map, sz] at pm
  obtain ⟨L2, r1, r2, r3⟩ := order_rows L es order ent pm
  have lay3 : Lay t2 (hsh P w L2) := by
    show Lay t2 (L2.map fun p => thash P w p.2)
    rw [r3]
    exact lay2
  have sz2 : (order.filterMap (es[·]?)).size = es.size := by rw [rowsOf_len r1, r2.length_eq, sz]
  rw [setRelay_eq]
  refine wpAny_bind (wpAny_setState_of ho hd fits ?_)
  dsimp only
  refine wp_if_neg (by rw [hw, sizeLine_eq]; omega) ?_
  try refine wpAny_bind (wpAny_pure ?_)
  rw [e]
  dsimp only
  refine wpAny_bind (wp_if_neg (by rw [sz2]; simp) ?_)
  try refine wpAny_bind (wpAny_pure ?_)
  refine wpAny_pure ?_
  dsimp only
  refine wpAny_storeSet_of ho hd ?_ (by rw [sz2, sz, sizeLine_eq]; omega)
  refine q _ L2 (order.filterMap (es[·]?)) (ep + 1) t2 (Heap.SameBut.update ..) ?_ r2
  exact ⟨⟨_, store_at ho hd, ⟨hex.1, hex.2.1, hex.2.2⟩, rfl⟩, r1, lay3, (r2.map (·.2)).nodup_iff.mpr dif, ep2.trans pln, by rw [el]; exact seq, by rw [r2.length_eq, em]; exact room⟩
/-- one more tuple -/
theorem big_add (R : BigO P w s.heap a L es ep t) (tup : ∀ p ∈ L, IsT P w s.heap p.2 p.1) {x : Addr} {k : List Int} (hx : IsT P w s.heap k x) (hu : A.units < cLine) (few : L.length + 1 < 4915) {Q : Bool → Shared → Prop}
    (q : ∀ b g L2 es2 ep2 t2, Heap.SameBut a s.heap g → BigO P w g a L2 es2 ep2 t2 → (k ∈ L.map (·.2) → L2 = L) → (k ∉ L.map (·.2) → L2.Perm ((x, k) :: L)) → Q b { s with heap := g }) :
    wpAny (model P w) A (setAddHashed a (.ref x) (thash P w k)) Q E s := by
  obtain ⟨o, ho, hex, hd⟩ := R.obj
  have sz := R.size
  unfold setAddHashed
  refine wpAny_holding ?_
  rw [show (100000 : Nat) = 99999 + 1 from rfl, setAddHashedIn_succ]
  refine wpAny_bind (wpAny_setState_of ho hd R.fits ?_)
  dsimp only
  refine wp_if_neg (by simp [byScan, Value.scannable]) ?_
  try refine wpAny_bind (wpAny_pure ?_)
  refine wpAny_bind (big_search R tup hx hu true (fun r hr _ hm => ?_) fun n nm out bef => ?_)
  · dsimp only
    exact wpAny_pure (q false s.heap L es ep t (Heap.SameBut.refl a s.heap) R (fun _ => rfl) fun z => absurd hm z)
  dsimp only
  refine wpAny_bind (wpAny_setState_of ho hd R.fits ?_)
  dsimp only
  obtain ⟨le, lay1, fill1⟩ := R.lay.put out bef
  have m1 : (t.put (way t.mask (thash P w k) n)).1.mask = t.mask := rfl
  have p1 : (t.put (way t.mask (thash P w k) n)).1.plain = true := R.pln
  have l1 : w.params.followText "set-order" = true ∨ (t.put (way t.mask (thash P w k) n)).1.led = true := R.seq
  have at1 : (t.put (way t.mask (thash P w k) n)).2 = SetTable.below t.place (way t.mask (thash P w k) n) := rfl
  generalize hp1 : t.put (way t.mask (thash P w k) n) = pt at lay1 fill1 m1 p1 l1 at1 ⊢
  obtain ⟨t1, i⟩ := pt
  dsimp only at lay1 fill1 m1 p1 l1 at1 ⊢
  rw [← at1] at lay1
  first
    | (refine wpAny_bind ?_; refine wp_if_pos p1 ?_; refine hashBy_tup hx ?_)
    | refine wp_if_pos p1 (wpAny_bind (hashBy_tup hx ?_))
  simp only [if_true]
  have pm := put_perm L i (x, k)
  have ent1 : (SetTable.insertAt es i (thash P w k, Value.ref x)).toList = rowsOf P w (L.take i ++ (x, k) :: L.drop i) := by
    rw [SetTable.toList_insertAt, rows_put, R.ent]
  have lay2 : Lay t1 (hsh P w (L.take i ++ (x, k) :: L.drop i)) := by
    show Lay t1 ((L.take i ++ (x, k) :: L.drop i).map fun p => thash P w p.2)
    rw [List.map_append, List.map_cons, List.map_take, List.map_drop]
    exact lay1
  generalize SetTable.insertAt es i (thash P w k, Value.ref x) = es1 at ent1 ⊢
  generalize L.take i ++ (x, k) :: L.drop i = L1 at pm ent1 lay2
  have len1 : L1.length = L.length + 1 := pm.length_eq
  have sz1 : es1.size = L.length + 1 := (rowsOf_len ent1).trans len1
  have dif1 : (L1.map (·.2)).Nodup := (pm.map (·.2)).nodup_iff.mpr (by rw [List.map_cons]; exact List.nodup_cons.mpr ⟨nm, R.dif⟩)
  refine wpAny_bind (wpAny_storeSet_of ho hd ?_ (by rw [sz1, sizeLine_eq]; omega))
  have ho1 := store_at (es' := es1) (t' := t1) ho hd
  have sb : Heap.SameBut a s.heap (s.heap.update a (Obj.putSet es1 t1)) := Heap.SameBut.update ..
  generalize s.heap.update a (Obj.putSet es1 t1) = g1 at ho1 sb ⊢
  have gap := R.gap
  rw [List.length_map] at fill1
  by_cases full : t1.tooFull = true
  · have ge : (L.length + 1) * 5 ≥ t.mask * 3 := by
      have z := full
      unfold SetTable.tooFull at z
      rw [decide_eq_true_eq, fill1, m1] at z
      exact z
    obtain ⟨M, e1, e2, e3, e4⟩ := grow_size R.lay.wid gap ge few
    first
      | (refine wpAny_bind ?_; refine wp_if_pos (by simp [full]) ?_)
      | (refine wp_if_pos (by simp [full]) ?_; refine wpAny_bind ?_)
    rw [sz]
    refine big_relay (s := { s with heap := g1 }) ho1 ⟨hex.1, hex.2.1, hex.2.2⟩ rfl ent1 lay2 (by rw [len1, m1]; have := R.lay.wid.bounds; omega) dif1 p1 l1 e1 e2 (by rw [len1]; exact e3) fun g2 L2 es2 ep2 t2 sb2 R2 pm2 => ?_
    exact wpAny_pure (q true g2 L2 es2 ep2 t2 (sb.trans sb2) R2 (fun z => absurd z nm) fun _ => pm2.trans pm)
  · first
      | refine wp_if_neg (by simp [full]) ?_
      | (refine wpAny_bind ?_; refine wp_if_neg (by simp [full]) ?_; refine wpAny_pure ?_)
    refine wpAny_pure (q true g1 L1 es1 (ep + 1) t1 sb ⟨⟨_, ho1, ⟨hex.1, hex.2.1, hex.2.2⟩, rfl⟩, ent1, lay2, dif1, p1, l1, ?_⟩ (fun z => absurd z nm) fun _ => pm)
    have z := full
    unfold SetTable.tooFull at z
    rw [decide_eq_true_eq, fill1, m1] at z
    rw [len1, m1]
    omega
end
end L2

end
section
set_option maxRecDepth 100000
set_option maxHeartbeats 2000000
namespace L2
open PySem PySem.Spec PyProof.Rows
section
variable {P : Program} {w : World} {A : Around} {E : Value → Shared → Prop} {s : Shared}
variable {a : Addr} {L : List (Addr × List Int)} {es : Array (Int × Value)} {ep : Nat} {t : SetTable}
/-- the call that adds -/
theorem big_add_call (R : BigO P w s.heap a L es ep t) (tup : ∀ p ∈ L, IsT P w s.heap p.2 p.1) {x : Addr} {k : List Int} (hx : IsT P w s.heap k x) (hu : A.units + 64 < cLine) (few : L.length + 1 < 4915) {Q : Value → Shared → Prop}
    (h : ∀ g tk L2 es2 ep2 t2, Heap.SameBut a s.heap g → BigO P w g a L2 es2 ep2 t2 → (k ∈ L.map (·.2) → L2 = L) → (k ∉ L.map (·.2) → L2.Perm ((x, k) :: L)) → Q .none { s with heap := g, toks := tk }) :
    wpAny (model P w) A (call (.builtin "set.add") [.ref a, .ref x]) Q E s := by
  refine wpAny_call_entry F.slot_set_add R.typ F.entry_set_add ?_ (F.args_set_add_2 _ _)
  unfold Builtin.«set.add» Builtin.Frozenset.oneOther
  simp only [List.isEmpty_nil, bind_assoc]
  unfold Builtin.Frozenset.addrOf setAdd
  refine wpAny_bind (wpAny_pure ?_)
  try dsimp only
  refine wpAny_bind (wpAny_pure ?_)
  try dsimp only
  refine wpAny_bind (wpAny_holding (wpAny_bind (wpAny_pyHash_tuple (by show A.units + 1 < cLine; omega) hx ?_)))
  have R2 : BigO P w ({ s with toks := s.toks + (k.length + 1) } : Shared).heap a L es ep t := R
  refine big_add (s := { s with toks := s.toks + (k.length + 1) }) R2 tup hx (by show A.units + 1 < cLine; omega) few fun b g L2 es2 ep2 t2 sb R3 c1 c2 => ?_
  show wpAny _ _ (ret Value.none) _ _ _
  exact wpAny_pure ⟨_, rfl, h g _ L2 es2 ep2 t2 sb R3 c1 c2⟩
/-- the set() that was just made -/
theorem bigO_new {h : Heap} {a : Addr} (ho : h.get? a = some { cls := .type "set", dict := none, data := .set #[] 0 (.fresh 0 0 (!w.params.followText "set-order")) }) : BigO P w h a [] #[] 0 (.fresh 0 0 (!w.params.followText "set-order")) := by
  refine ⟨⟨_, ho, ⟨rfl, rfl, rfl⟩, rfl⟩, rfl, ⟨.inl rfl, .nil, rfl, rfl, (fun j hj => nomatch hj), (fun i g j h => nomatch h)⟩, .nil, rfl, ?_, by show 0 * 5 < 7 * 3; decide⟩
  show _ ∨ (!w.params.followText "set-order") = true
  cases w.params.followText "set-order"
  · exact .inr rfl
  · exact .inl rfl
end
section
/-- as an object of the heap -/
def BigSet (P : Program) (w : World) (h : Heap) (a : Addr) (L : List (Addr × List Int)) : Prop := ∃ es ep t, BigO P w h a L es ep t
def BigHO (P : Program) (w : World) (a : Addr) (L : List (Addr × List Int)) : HO := .ext fun h => BigSet P w h a L
theorem bigHO_new {P : Program} {w : World} {H : Hp} {h : Heap} {a : Addr} {L : List (Addr × List Int)} (R : BigSet P w h a L) : ObjOk P w H h a (BigHO P w a L) := by
  have ⟨es, ep, t, B⟩ := R
  have ⟨o, ho, _⟩ := B.obj
  refine ⟨R, ⟨o, ho⟩, fun h1 h2 p k => ?_⟩
  have ⟨es', ep', t', B'⟩ := (p : BigSet P w h1 a L)
  have ⟨o', ho', r'⟩ := B'.obj
  exact ⟨es', ep', t', ⟨⟨o', k o' ho', r'⟩, B'.ent, B'.lay, B'.dif, B'.pln, B'.seq, B'.gap⟩⟩
variable {X : Cx}
/-- a's set has the tuples L, and they are still there to be read -/
def HasB (K : PySem.W.Frag) (P : Program) (w : World) (H : Hp) (a : Addr) (L : List (Addr × List Int)) : Prop := H a = some (BigHO P w a L) ∧ ∀ p ∈ L, SqT K H p.1 (p.2.map V.int)
theorem HasB.get {pins : List (Addr × Obj)} {σ : St} {H : Hp} {s : Shared} {a : Addr} {L : List (Addr × List Int)} (I : Inv X pins σ H s) (h : HasB X.K X.prog X.w H a L) :
    (∃ es ep t, BigO X.prog X.w s.heap a L es ep t) ∧ ∀ p ∈ L, IsT X.prog X.w s.heap p.2 p.1 := ⟨(I.hok a _ h.1).1, fun p hp => I.isT (h.2 p hp)⟩
def rB0 (P : Program) (w : World) : List V → Hp → VK → Prop := fun vs H Q => vs = [] ∧ ∀ p, H p = none → Q (.ref p) (upd H p (BigHO P w p []))
theorem cr_b0 : CallR X (.type "set") (rB0 X.prog X.w) := by
  intro pins s σ H vs us Q I r h
  obtain ⟨rfl, q⟩ := h
  cases r
  refine setR_new fun _ => ?_
  have R := bigO_new (P := X.prog) (w := X.w) (h := s.heap.push { cls := .type "set", dict := none, data := .set #[] 0 (.fresh 0 0 (!X.w.params.followText "set-order")) }) (a := s.heap.objs.size) (Heap.get?_push_size _ rfl)
  exact ⟨.ref _, _, I.laid (t' := s.toks) (fun b u e => Heap.get?_push_of_some _ e) (Nat.le_refl _) (bigHO_new ⟨_, _, _, R⟩), rfl, q _ (I.hok.fresh (Nat.le_refl _))⟩
def rBIn (K : PySem.W.Frag) (P : Program) (w : World) : V → V → Hp → VK → Prop := fun x y H Q => ∃ (b a : Addr) (k : List Int) (L : List (Addr × List Int)), x = V.ref b ∧ y = V.ref a ∧ SqT K H b (k.map V.int) ∧ HasB K P w H a L ∧ Q (.bl (decide (k ∈ L.map (·.2)))) H
theorem or_bIn (hu : X.A.units + 64 < cLine) : OpR X (compareOp .In) (rBIn X.K X.prog X.w) := by
  intro pins s σ H x y v u Q I rx ry h
  obtain ⟨b, a, k, L, rfl, rfl, hb, ha, q⟩ := h
  cases rx
  cases ry
  obtain ⟨⟨es, ep, t, R⟩, tup⟩ := ha.get I
  exact big_in R tup (I.isT hb) hu fun tk => ⟨.bl _, H, I.tok _, rfl, q⟩
theorem bIn_ {K : PySem.W.Frag} (P : Program) (w : World) (hu : X.A.units + 64 < cLine) (hP : X.prog = P := by rfl) (hw : X.w = w := by rfl) (hK : X.K = K := by rfl) : OpR X (compareOp .In) (rBIn K P w) := by subst hK hP hw; exact or_bIn hu
def rBAdd (K : PySem.W.Frag) (P : Program) (w : World) : V → List V → Hp → VK → Prop := fun x vs H Q => ∃ (a b : Addr) (k : List Int) (L : List (Addr × List Int)), x = V.ref a ∧ vs = [V.ref b] ∧ SqT K H b (k.map V.int) ∧ HasB K P w H a L ∧ L.length + 1 < 4915 ∧
  (k ∈ L.map (·.2) → Q .non (upd H a (BigHO P w a L))) ∧ (k ∉ L.map (·.2) → ∀ L2, L2.Perm ((b, k) :: L) → Q .non (upd H a (BigHO P w a L2)))
theorem mt_bAdd (hu : X.A.units + 64 < cLine) : MtR X "set.add" (rBAdd X.K X.prog X.w) := by
  intro pins s σ H x vs v us Q I rx rxs h
  obtain ⟨a, b, k, L, rfl, rfl, hb, ha, few, q1, q2⟩ := h
  cases rx
  rw [Vals.ref1 rxs]
  obtain ⟨⟨es, ep, t, R⟩, tup⟩ := ha.get I
  refine big_add_call R tup (I.isT hb) hu few fun g tk L2 es2 ep2 t2 sb R2 c1 c2 => ?_
  obtain ⟨o2, ho2, _⟩ := R2.obj
  refine ⟨.non, _, I.write (e := a) (t' := tk) (by rw [ha.1]; trivial) (.inl rfl) (fun c u hc hu => (sb.2 c hc).trans hu) ⟨o2, ho2⟩ (bigHO_new ⟨_, _, _, R2⟩), rfl, ?_⟩
  by_cases m : k ∈ L.map (·.2)
  · rw [c1 m]
    exact q1 m
  · exact q2 m L2 (c2 m)
def tBAdd (K : PySem.W.Frag) (P : Program) (w : World) (to : TE) (t : TA) : TE := fun σ H Q => to σ H fun x H1 => (∃ a L, x = V.ref a ∧ H1 a = some (BigHO P w a L)) ∧ t σ H1 fun xs H2 => rBAdd K P w x xs H2 Q
variable {o e : Expr} {es : List Expr} {to : TE} {t : TA} {apos cpos : Pos}
theorem pe_bAdd (hu : X.A.units + 64 < cLine) (ho : PE X o to) (ha : PA X (e :: es) t)
    (late : attributeBase o "add" X.env (eval o X.env) = eval o X.env := by rfl)
    (less30 : ((backTo cpos (starEach (e :: es) X.env)).all (fun x => !x.1) && (backToKw cpos (keywordEach [] X.env)).all (fun x => x.1.isSome)
        && decide ((e :: es).length + ([] : List Keyword).length + (if ([] : List Keyword).isEmpty then 0 else 1) < 30)) = true := by rfl)
    (oneRow : (apos.endLine == cpos.line) = true := by rfl) (first1 : starEach (e :: es) X.env = (false, eval e X.env) :: starEach es X.env := by rfl)
    (noStar : (backTo cpos (starEach es X.env)).any (·.1) = false := by rfl) : PE X (.Call (.Attribute o "add" apos) (e :: es) [] cpos) (tBAdd X.K X.prog X.w to t) := by
  refine ⟨fun pins s σ H Q I h => ?_⟩
  refine wpAny_Call_method_late late less30 oneRow rfl (thn (ho.run pins s σ H _ I h) fun v s1 ⟨x, H1, I1, r1, ⟨a, L, ex, hka⟩, q1⟩ => ?_)
  subst ex
  obtain ⟨es0, ep0, t0, B⟩ := (show BigSet X.prog X.w s1.heap a L from (I1.hok a _ hka).1)
  obtain ⟨o0, ho0, hex0, _⟩ := B.obj
  cases r1
  refine ⟨"set", "set.add", F.plainAttrs_set, F.slot_set_add, F.type_set_add, ⟨o0, ho0, hex0.1⟩, fun b eb => ?_, ?_⟩
  · obtain rfl : a = b := by injection eb
    exact ⟨o0, ho0, by first | exact hex0.2.1 | exact hex0.2.2⟩
  have hA := ha.run cpos pins s1 σ H1 _ I1 q1
  rw [first1] at hA ⊢
  refine Calls.callWith_builtin (by show (false || (backTo cpos (starEach es X.env)).any (·.1)) = false; rw [noStar] <;> rfl) (Calls.evalArgs_plain ?_)
  exact thn hA fun us s2 ⟨vs, H2, I2, r2, q2⟩ => mt_bAdd hu pins s2 σ H2 (.ref a) vs (.ref a) us Q I2 rfl r2 q2
end
end L2

end
section
set_option maxRecDepth 100000
namespace L2
open PySem PySem.Spec PyProof.Rows
/-! ### a def of the text under its name: its promise, its level, how it is bound -/
structure Cal (P : Program) (w : World) (K : PySem.W.Frag) (mg : Str → Option Value) (base : Heap) (x : Str) (k : Nat) (sp : Sp) : Prop where
  ex : ∃ (f : Addr) (fd : FuncData) (ps : List Str), FnOk P w K mg base CX0 k f fd ps sp ∧ mg x = some (.ref f) ∧ PySem.W.keepIn K (.ref f) = true ∧ Binds K fd ps []
/-- a method of the class at C -/
structure MCal (P : Program) (w : World) (K : PySem.W.Frag) (mg : Str → Option Value) (base : Heap) (C : Addr) (m : Str) (k : Nat) (sp : Sp) : Prop where
  ex : ∃ (f : Addr) (fd : FuncData) (ps : List Str), FnOk P w K mg base CX0 k f fd ps sp ∧ Meth K C m f ∧ Binds K fd ps []
/-- the making of an instance of the class at C, named x; k: the level of its __init__ -/
structure NCal (P : Program) (w : World) (K : PySem.W.Frag) (mg : Str → Option Value) (base : Heap) (C : Addr) (x : Str) (k : Nat) (sp : Sp) : Prop where
  ex : ∃ (f : Addr) (fd : FuncData) (ps : List Str), FnOk P w K mg base CX0 k f fd ps sp ∧ Mk K C f ∧ Binds K fd ps []
  mg : mg x = some (.ref C)
section
variable {X : Cx} {e o : Expr} {es : List Expr} {t : TA} {ta : TE} {x m : Str} {k : Nat} {sp : Sp} {C : Addr} {p pos apos : Pos}
theorem tCall_nil {t : TA} {E : XK} {σ : St} {H : Hp} {Q : VK} (h : t σ H fun vs H1 => sp vs H1 Q E) : tCall sp [] E t σ H Q := by
  unfold tCall
  simpa only [List.append_nil] using h
def tCal (sp : Sp) (t : TA) : TE := fun σ H Q => t σ H fun vs H1 => sp vs H1 Q E0
def tMCal (C : Addr) (m : Str) (sp : Sp) (to : TE) (t : TA) : TE := fun σ H Q => to σ H fun x H1 => ∃ a dx fs, x = .ref a ∧ H1 a = some (.ins C dx fs) ∧ fs.lookup m = none ∧ t σ H1 fun vs H2 => sp (x :: vs) H2 Q E0
def tNCal (C : Addr) (sp : Sp) (t : TA) : TE := fun σ H Q => t σ H fun vs H1 => ∀ x dx, H1 x = none → H1 dx = none → dx ≠ x → sp (.ref x :: vs) (upd (upd H1 dx (.own x)) x (.ins C dx [])) (fun v H2 => v = .non ∧ Q (.ref x) H2) E0
theorem PE.to {t u : TE} (h : PE X e t) (le : ∀ σ H Q, u σ H Q → t σ H Q) : PE X e u := ⟨fun pins s σ H Q I q => h.run pins s σ H Q I (le σ H Q q)⟩
theorem pe_cal (c : Cal X.prog X.w X.K X.mg X.base x k sp) (hr : Room k X.A) (ha : PA X (e :: es) t) (hg : Gl X x := by rfl) (hdb : (x == ("__debug__" : Str)) = false := by decide)
    (he : starEach (e :: es) X.env = (false, eval e X.env) :: starEach es X.env := by rfl) (hpl : (backTo pos (starEach es X.env)).any (·.1) = false := by rfl) :
    PE X (.Call (.Name x p) (e :: es) [] pos) (tCal sp t) := by
  obtain ⟨f, fd, ps, F, hm, hk, hb⟩ := c.ex
  exact (pe_call F hr hg hm hk hb .nil pass0 ha hdb he hpl).to fun σ H Q q => tCall_nil q
theorem pe_cal0 (c : Cal X.prog X.w X.K X.mg X.base x k sp) (hr : Room k X.A) (hg : Gl X x := by rfl) (hdb : (x == ("__debug__" : Str)) = false := by decide) :
    PE X (.Call (.Name x p) [] [] pos) (tCal sp tNil) := by
  obtain ⟨f, fd, ps, F, hm, hk, hb⟩ := c.ex
  exact (pe_call0 F hr hg hm hk hb .nil pass0 hdb).to fun σ H Q q => tCall_nil q
theorem pe_ncal (c : NCal X.prog X.w X.K X.mg X.base C x k sp) (hr : Room (k + 1) X.A) (ha : PA X (e :: es) t) (hg : Gl X x := by rfl) (hdb : (x == ("__debug__" : Str)) = false := by decide)
    (he : starEach (e :: es) X.env = (false, eval e X.env) :: starEach es X.env := by rfl) (hpl : (backTo pos (starEach es X.env)).any (·.1) = false := by rfl) :
    PE X (.Call (.Name x p) (e :: es) [] pos) (tNCal C sp t) := by
  obtain ⟨f, fd, ps, F, M, hb⟩ := c.ex
  refine (pe_make M F hr hg c.mg hb .nil pass0 ha hdb he hpl).to fun σ H Q q => ?_
  unfold tNCal at q
  unfold tMake
  simpa only [List.append_nil] using q
theorem setL_ (K : PySem.W.Frag) (w : World) (hc : X.calm = true) (hK : X.K = K := by rfl) (hw : X.w = w := by rfl) : CallR X (.type "set") (rHuSetL K w) := by
  subst hK hw; exact hu_cr_setL hc
theorem sortedSet_ (w : World) (hc : X.calm = true) (hw : X.w = w := by rfl) : CallR X (.builtin "sorted") (rSortedSet w) := by
  subst hw; exact cr_sortedSet hc
section
variable (K : PySem.W.Frag)
theorem all_ (hc : X.calm = true) (hK : X.K = K := by rfl) : CallR X (.builtin "all") (rAll K) := by subst hK; exact cr_all hc
theorem any_ (hc : X.calm = true) (hK : X.K = K := by rfl) : CallR X (.builtin "any") (rAny K) := by subst hK; exact cr_any hc
theorem sum_ (hc : X.calm = true) (hK : X.K = K := by rfl) : CallR X (.builtin "sum") (rSum K) := by subst hK; exact cr_sum hc
theorem min_ (hc : X.calm = true) (hK : X.K = K := by rfl) : CallR X (.builtin "min") (rMin K) := by subst hK; exact cr_min hc
theorem sortedI_ (hK : X.K = K := by rfl) : CallR X (.builtin "sorted") (rSortedI K) := by subst hK; exact cr_sortedI
theorem sortedPO_ (hK : X.K = K := by rfl) : CallR X (.builtin "sorted") (rSortedPO K) := by subst hK; exact cr_sortedPO
theorem isi_ (hK : X.K = K := by rfl) : CallR X (.builtin "isinstance") (rIsi K) := by subst hK; exact call_isi
theorem inS_ (hK : X.K = K := by rfl) : OpR X (compareOp .In) (rIn K false) := by subst hK; exact op_in_seq
theorem ninS_ (hK : X.K = K := by rfl) : OpR X (compareOp .NotIn) (rIn K true) := by subst hK; exact op_notIn_seq
theorem ixL_ (hK : X.K = K := by rfl) : IxR X (rIxL K) := by subst hK; exact ix_list
theorem ixT_ (hK : X.K = K := by rfl) : IxR X (rIxT K) := by subst hK; exact ix_tup
theorem slL_ (hK : X.K = K := by rfl) : SlR X (rSlL K) := by subst hK; exact sl_list
theorem slT_ (hK : X.K = K := by rfl) : SlR X (rSlT K) := by subst hK; exact sl_tup
theorem catT_ (hK : X.K = K := by rfl) : OpR X (binaryOp .Add) (rCatT K) := by subst hK; exact op_catT
theorem catA_ (hK : X.K = K := by rfl) : OpR X (binaryOp .Add) (rCatA K) := by subst hK; exact op_catA
theorem eqD_ (hu : X.A.units + 64 < cLine) (hK : X.K = K := by rfl) : OpR X (compareOp .Eq) (rEqD K) := by subst hK; exact op_eqD hu
theorem neD_ (hu : X.A.units + 64 < cLine) (hK : X.K = K := by rfl) : OpR X (compareOp .NotEq) (rNeD K) := by subst hK; exact op_neD hu
def rLenS (K : PySem.W.Frag) : List V → Hp → VK → Prop := fun xs H Q => ∃ p ys, xs = [.ref p] ∧ (SqL K H p ys ∨ SqT K H p ys) ∧ Q (.int ys.length) H
theorem lenS_ (hK : X.K = K := by rfl) : CallR X (.builtin "len") (rLenS K) := by subst hK; exact call_len_seq
def rLstOf (K : PySem.W.Frag) : List V → Hp → VK → Prop := fun xs H Q => ∃ p ys, xs = [.ref p] ∧ (SqL K H p ys ∨ SqT K H p ys) ∧ ∀ l, H l = none → Q (.ref l) (upd H l (.lst ys))
theorem lstOf_ (hK : X.K = K := by rfl) : CallR X (.type "list") (rLstOf K) := by subst hK; exact call_list_of
def rTupOf (K : PySem.W.Frag) : List V → Hp → VK → Prop := fun xs H Q => ∃ p ys, xs = [.ref p] ∧ ((SqL K H p ys ∧ ∀ l, H l = none → Q (.ref l) (upd H l (.tup ys))) ∨ (SqT K H p ys ∧ Q (.ref p) H))
theorem tupOf_ (hK : X.K = K := by rfl) : CallR X (.type "tuple") (rTupOf K) := by subst hK; exact call_tuple_of
theorem inT_ (P : Program) (w : World) (hu : X.A.units + 64 < cLine) (hP : X.prog = P := by rfl) (hw : X.w = w := by rfl) (hK : X.K = K := by rfl) : OpR X (compareOp .In) (rHuInT K P w) := by subst hK hP hw; exact hu_or_inT hu
theorem fld_ {f : Str} (he : PE X e ta) (hb : attributeBase e f X.env (eval e X.env) = eval e X.env := by rfl) (hK : X.K = K := by rfl) : PE X (.Attribute e f pos) (tFld K ta f) := by subst hK; exact pe_fld he hb
theorem cval_ {f : Str} (he : PE X e ta) (hb : attributeBase e f X.env (eval e X.env) = eval e X.env := by rfl) (hK : X.K = K := by rfl) : PE X (.Attribute e f pos) (ClX.tCVal K ta f) := by subst hK; exact ClX.pe_cval he hb
theorem pil_ {tg l : Expr} {tl : TE} (hl : PE X l tl) (hK : X.K = K := by rfl) : PI X tg l (iList K tl) := by subst hK; exact pi_list hl
theorem pit_ {tg l : Expr} {tl : TE} (hl : PE X l tl) (hK : X.K = K := by rfl) : PI X tg l (iTup K tl) := by subst hK; exact pi_tup hl
theorem star_ {te : TE} (he : PE X e te) (hr : PA X es t) (hK : X.K = K := by rfl) : PA X (.Starred e p :: es) (StX.tStar K te t) := by subst hK; exact StX.pa_star he hr
theorem revL_ {te : TE} {j : Nat} {p1 p2 p3 : Pos} (he : PE X e te) (hK : X.K = K := by rfl) : PE X (.Subscript e (.Slice none none (some (.UnaryOp .USub (.Constant (.int 1) j p1) p2)) p3) pos) (tRevL K te) := by subst hK; exact pe_revL he
def tTru (K : PySem.W.Frag) (ta : TE) : TT := fun σ H Q => ta σ H fun x H' => ∃ k, TruV K x H' k ∧ Q k H'
theorem truth_ (he : PE X e ta) (hh : ∀ whole, isTrue e X.env whole = (do let v ← whole; standAt e.pos; holding [v] (truthy v)) := by intro _; rfl) (hK : X.K = K := by rfl) : PT X e (tTru K ta) := by subst hK; exact pt_truth he hh
end
end
theorem b_len : bootBuiltins ("len" : Str) = some (.builtin "len") := by decide +kernel
theorem b_abs : bootBuiltins ("abs" : Str) = some (.builtin "abs") := by decide +kernel
theorem b_min : bootBuiltins ("min" : Str) = some (.builtin "min") := by decide +kernel
theorem b_max : bootBuiltins ("max" : Str) = some (.builtin "max") := by decide +kernel
theorem b_all : bootBuiltins ("all" : Str) = some (.builtin "all") := by decide +kernel
theorem b_any : bootBuiltins ("any" : Str) = some (.builtin "any") := by decide +kernel
theorem b_sum : bootBuiltins ("sum" : Str) = some (.builtin "sum") := by decide +kernel
theorem b_sorted : bootBuiltins ("sorted" : Str) = some (.builtin "sorted") := by decide +kernel
theorem b_isinstance : bootBuiltins ("isinstance" : Str) = some (.builtin "isinstance") := by decide +kernel
theorem b_int : bootBuiltins ("int" : Str) = some (.type "int") := by decide +kernel
theorem b_bool : bootBuiltins ("bool" : Str) = some (.type "bool") := by decide +kernel
theorem b_tuple : bootBuiltins ("tuple" : Str) = some (.type "tuple") := by decide +kernel
theorem b_list : bootBuiltins ("list" : Str) = some (.type "list") := by decide +kernel
theorem b_set : bootBuiltins ("set" : Str) = some (.type "set") := by decide +kernel
theorem b_range : bootBuiltins ("range" : Str) = some (.type "range") := by decide +kernel
theorem b_str : bootBuiltins ("str" : Str) = some (.type "str") := by decide +kernel
end L2

end
section
set_option maxRecDepth 100000
namespace Hue
open PySem PySem.Spec PyProof.Rows L2
/-! ### heaps -/
theorem same_new {H : Hp} {p : Addr} {o : HO} (h : H p = Option.none) : Same H (upd H p o) := fun b u e => by
  rw [upd_ne (ne_of_none e h)]; exact e
theorem same_upd {H0 H : Hp} {p : Addr} {o : HO} (s : Same H0 H) (h : H0 p = Option.none) : Same H0 (upd H p o) := fun b u e => by
  rw [upd_ne (ne_of_none e h)]; exact s b u e
theorem same_then {H0 H : Hp} {p : Addr} {o : HO} (s : Same H0 H) (h : H p = Option.none) : Same H0 (upd H p o) := s.trans (same_new h)
theorem Same.tup {K : PySem.W.Frag} {H H' : Hp} {a : Addr} {xs : List V} (e : Same H H') (h : SqT K H a xs) : SqT K H' a xs := by
  rcases h with (h | ⟨o, h⟩) | h
  · exact .inl (.inl (e _ _ h))
  · exact .inl (.inr ⟨o, e _ _ h⟩)
  · exact .inr h
theorem ifT {c : Bool} {A B : Prop} (hc : c = true) (h : A) : if c = true then A else B := by rw [if_pos hc]; exact h
theorem ifF {c : Bool} {A B : Prop} (hc : c = false) (h : B) : if c = true then A else B := by rw [hc, if_neg Bool.false_ne_true]; exact h
theorem yesT {σ : L2.St} {H : Hp} {X Y : Hp → Prop} (h : X H) : tYes σ H (fun b H3 => if b = true then X H3 else Y H3) := h
/-! ### lists of numbers -/
def nI (l : List Nat) : List Int := l.map fun k : Nat => (k : Int)
def nL (l : List Nat) : List V := (nI l).map V.int
theorem nL_get {l : List Nat} {i k : Nat} (h : l[i]? = some k) : (nL l)[i]? = some (V.int (k : Int)) := by
  unfold nL nI; simp [List.getElem?_map, h]
theorem nL_len (l : List Nat) : (nL l).length = l.length := by unfold nL nI; simp
theorem nI_len (l : List Nat) : (nI l).length = l.length := by unfold nI; simp
theorem mem_nI {l : List Nat} {z : Int} : z ∈ nI l ↔ ∃ k, k ∈ l ∧ (k : Int) = z := by unfold nI; simp
theorem nL_app (a b : List Nat) : nL (a ++ b) = nL a ++ nL b := by unfold nL nI; simp
theorem nL_one (k : Nat) : nL [k] = [V.int (k : Int)] := rfl
theorem asc_ext : ∀ {a b : List Int}, a.Pairwise (· < ·) → b.Pairwise (· < ·) → (∀ k, k ∈ a ↔ k ∈ b) → a = b
  | [], [], _, _, _ => rfl
  | [], y :: b, _, _, h => absurd ((h y).mpr List.mem_cons_self) List.not_mem_nil
  | x :: a, [], _, _, h => absurd ((h x).mp List.mem_cons_self) List.not_mem_nil
  | x :: a, y :: b, ha, hb, h => by
    rw [List.pairwise_cons] at ha hb
    have exy : x = y := by
      rcases List.mem_cons.mp ((h x).mp List.mem_cons_self) with e | e
      · exact e
      · rcases List.mem_cons.mp ((h y).mpr List.mem_cons_self) with f | f
        · exact f.symm
        · have h1 := hb.1 x e
          have h2 := ha.1 y f
          omega
    subst exy
    rw [asc_ext ha.2 hb.2 fun k => ⟨fun hk => ?_, fun hk => ?_⟩]
    · rcases List.mem_cons.mp ((h k).mp (List.mem_cons_of_mem _ hk)) with e | e
      · have := ha.1 k hk; omega
      · exact e
    · rcases List.mem_cons.mp ((h k).mpr (List.mem_cons_of_mem _ hk)) with e | e
      · have := hb.1 k hk; omega
      · exact e
/-! ### relations on lamps -/
abbrev Rel := Nat → Nat → Bool
def Bel (n : Nat) (R : Rel) (i : Nat) : List Nat := (List.range n).filter fun j => R i j
theorem mem_Bel {n : Nat} {R : Rel} {i j : Nat} : j ∈ Bel n R i ↔ j < n ∧ R i j = true := by unfold Bel; simp
theorem Bel_asc (n : Nat) (R : Rel) (i : Nat) : (nI (Bel n R i)).Pairwise (· < ·) := by
  unfold nI
  rw [List.pairwise_map]
  have h : (List.range n).Pairwise (· < ·) := List.pairwise_lt_range
  refine List.Pairwise.imp ?_ (List.Pairwise.filter _ h)
  intro a b hab; omega
theorem Bel_len (n : Nat) (R : Rel) (i : Nat) : (Bel n R i).length ≤ n := by
  unfold Bel
  refine Nat.le_trans (List.length_filter_le ..) ?_
  rw [List.length_range]; exact Nat.le_refl _
theorem Bel_congr {n : Nat} {R S : Rel} {i : Nat} (h : ∀ j, j < n → R i j = S i j) : Bel n R i = Bel n S i := by
  unfold Bel
  refine List.filter_congr fun j hj => ?_
  exact h j (List.mem_range.mp hj)
def addW (R : Rel) (u l : Nat) : Rel := fun i j => R i j || ((i == u || R i u) && (j == l || R l j))
/-- at b: a list of lists of numbers -/
def Rows (H : Hp) (b : Addr) (rows : List (List Nat)) : Prop :=
  ∃ as : List Addr, H b = some (.lst (as.map V.ref)) ∧ as.length = rows.length ∧ ∀ (i : Nat) a r, as[i]? = some a → rows[i]? = some r → H a = some (.lst (nL r))
theorem Rows.same {H H' : Hp} {b : Addr} {rows : List (List Nat)} (h : Rows H b rows) (s : Same H H') : Rows H' b rows := by
  obtain ⟨as, h1, h2, h3⟩ := h
  exact ⟨as, s _ _ h1, h2, fun i a r ha hr => s _ _ (h3 i a r ha hr)⟩
/-- the row at i, as Python reads it -/
theorem Rows.at {H : Hp} {b : Addr} {rows : List (List Nat)} (h : Rows H b rows) {i : Nat} {r : List Nat} (hr : rows[i]? = some r) : ∃ xs a, H b = some (.lst xs) ∧ xs.length = rows.length ∧ xs[i]? = some (V.ref a) ∧ H a = some (.lst (nL r)) := by
  obtain ⟨as, h1, h2, h3⟩ := h
  have hi : i < as.length := by rw [h2]; exact (List.getElem?_eq_some_iff.mp hr).1
  refine ⟨_, as[i], h1, by rw [List.length_map, h2], by rw [List.getElem?_map, List.getElem?_eq_getElem hi]; rfl, h3 i _ r (List.getElem?_eq_getElem hi) hr⟩
def relRows (n : Nat) (R : Rel) : List (List Nat) := (List.range n).map (Bel n R)
theorem relRows_at {n : Nat} {R : Rel} {i : Nat} (h : i < n) : (relRows n R)[i]? = some (Bel n R i) := by
  unfold relRows; rw [List.getElem?_map, List.getElem?_range h]; rfl
theorem relRows_len (n : Nat) (R : Rel) : (relRows n R).length = n := by unfold relRows; simp
theorem flat_nL (l : List Nat) : (nL l).all flatV = true := by
  unfold nL; rw [List.all_eq_true]; intro x hx
  obtain ⟨z, _, rfl⟩ := List.mem_map.mp hx
  rfl
theorem in_nL {k : Nat} {l : List Nat} : inV (V.int (k : Int)) (nL l) = decide (k ∈ l) := by
  unfold inV nL nI
  rw [Bool.eq_iff_iff, List.any_eq_true, decide_eq_true_eq]
  constructor
  · rintro ⟨x, hx, e⟩
    obtain ⟨z, hz, rfl⟩ := List.mem_map.mp hx
    obtain ⟨m, hm, rfl⟩ := List.mem_map.mp hz
    have e2 : ((m : Int) == (k : Int)) = true := e
    have e3 : (m : Int) = (k : Int) := by simpa using e2
    have e4 : m = k := by omega
    rw [← e4]; exact hm
  · intro hk
    refine ⟨V.int k, List.mem_map.mpr ⟨k, List.mem_map.mpr ⟨k, hk, rfl⟩, rfl⟩, ?_⟩
    show ((k : Int) == (k : Int)) = true
    simp
theorem Rows.ext {H : Hp} {b e : Addr} {rows : List (List Nat)} {φ : Heap → Prop} {o : HO} (h : Rows H b rows) (he : H e = some (.ext φ)) : Rows (upd H e o) b rows := by
  obtain ⟨as, h1, h2, h3⟩ := h
  refine ⟨as, ?_, h2, fun i a r ha hr => ?_⟩
  · rw [upd_ne (ne_of h1 he (by intro z; cases z))]; exact h1
  · rw [upd_ne (ne_of (h3 i a r ha hr) he (by intro z; cases z))]; exact h3 i a r ha hr
/-- the tuples at ts are the pairs ps -/
def Pairs (H : Hp) (ts : List Addr) (ps : List (Nat × Nat)) : Prop :=
  ts.length = ps.length ∧ ∀ (i : Nat) t p, ts[i]? = some t → ps[i]? = some p → H t = some (.tup [.int (p.1 : Int), .int (p.2 : Int)])
theorem Pairs.same {H H' : Hp} {ts : List Addr} {ps : List (Nat × Nat)} (h : Pairs H ts ps) (s : Same H H') : Pairs H' ts ps := ⟨h.1, fun i t p a b => s _ _ (h.2 i t p a b)⟩
def relOf (ps : List (Nat × Nat)) : Rel := ps.foldl (fun R p => addW R p.1 p.2) fun _ _ => false
theorem relOf_more {ps : List (Nat × Nat)} {i : Nat} {p : Nat × Nat} (h : ps[i]? = some p) : relOf (ps.take (i + 1)) = addW (relOf (ps.take i)) p.1 p.2 := by
  unfold relOf
  rw [List.take_add_one, h, List.foldl_append]
  rfl
/-- along a rank the relation goes up -/
theorem relOf_rank {ρ : Nat → Nat} : ∀ {ps : List (Nat × Nat)}, (∀ p ∈ ps, ρ p.1 < ρ p.2) → ∀ i j, relOf ps i j = true → ρ i < ρ j := by
  have key : ∀ (ps : List (Nat × Nat)) (R : Rel), (∀ i j, R i j = true → ρ i < ρ j) → (∀ p ∈ ps, ρ p.1 < ρ p.2) → ∀ i j, ps.foldl (fun R p => addW R p.1 p.2) R i j = true → ρ i < ρ j := by
    intro ps
    induction ps with
    | nil => intro R hR _; exact hR
    | cons p ps ih =>
      intro R hR hp
      refine ih (addW R p.1 p.2) (fun i j h => ?_) fun q hq => hp q (List.mem_cons_of_mem _ hq)
      have hp0 := hp p List.mem_cons_self
      unfold addW at h
      rw [Bool.or_eq_true, Bool.and_eq_true, Bool.or_eq_true, Bool.or_eq_true, beq_iff_eq, beq_iff_eq] at h
      rcases h with h | ⟨h1, h2⟩
      · exact hR i j h
      · have a1 : ρ i ≤ ρ p.1 := by
          rcases h1 with e | e
          · rw [e]; exact Nat.le_refl _
          · exact Nat.le_of_lt (hR _ _ e)
        have a2 : ρ p.2 ≤ ρ j := by
          rcases h2 with e | e
          · rw [e]; exact Nat.le_refl _
          · exact Nat.le_of_lt (hR _ _ e)
        omega
  intro ps hp i j h
  exact key ps _ (fun i j h => by cases h) hp i j h
theorem mem_take_of {α : Type} {l : List α} {n : Nat} {x : α} (h : x ∈ l.take n) : x ∈ l := List.mem_of_mem_take h
/-! ### lists that a comprehension collects -/
def Coll (H1 : Hp) (D : Addr) (f : Nat → List V) (i : Nat) (H2 : Hp) : Prop :=
  ∃ as : List Addr, H2 D = some (.lst (as.map V.ref)) ∧ as.length = i ∧ Same H1 H2 ∧ ∀ (j : Nat) a, as[j]? = some a → a ≠ D ∧ H2 a = some (.lst (f j))
theorem Coll.start {H1 : Hp} {D : Addr} {f : Nat → List V} (hD : H1 D = Option.none) : Coll H1 D f 0 (upd H1 D (.lst [])) := ⟨[], upd_same, rfl, same_new hD, fun j a e => by simp at e⟩
theorem Coll.more {H1 H2 H3 : Hp} {D a : Addr} {f : Nat → List V} {i : Nat} (c : Coll H1 D f i H2) (hD : H1 D = Option.none) (s : Same H2 H3) (na : a ≠ D) (ha : H3 a = some (.lst (f i))) (hi : i < 1000) :
    ∃ acc, H3 D = some (.lst acc) ∧ acc.length < sizeLine ∧ Coll H1 D f (i + 1) (upd H3 D (.lst (acc ++ [V.ref a]))) := by
  obtain ⟨as, h1, h2, s2, h3⟩ := c
  refine ⟨_, s _ _ h1, by rw [List.length_map, h2, sizeLine_eq]; omega, as ++ [a], by rw [upd_same, List.map_append]; rfl, by rw [List.length_append, h2]; rfl, same_upd (s2.trans s) hD, fun j c2 e => ?_⟩
  rcases Nat.lt_or_ge j as.length with lt | ge
  · rw [List.getElem?_append_left lt] at e
    obtain ⟨n1, n2⟩ := h3 j c2 e
    exact ⟨n1, by rw [upd_ne n1]; exact s _ _ n2⟩
  · rw [List.getElem?_append_right ge] at e
    have j0 : j - as.length = 0 := by
      rcases Nat.eq_zero_or_pos (j - as.length) with z | z
      · exact z
      · rw [List.getElem?_eq_none (by rw [List.length_singleton]; exact z)] at e; cases e
    rw [j0] at e
    cases e
    have ji : j = i := by omega
    rw [ji]
    exact ⟨na, by rw [upd_ne na]; exact ha⟩
theorem Coll.same {H1 H2 : Hp} {D : Addr} {f : Nat → List V} {i : Nat} (c : Coll H1 D f i H2) : Same H1 H2 := let ⟨_, _, _, s, _⟩ := c; s
theorem Coll.rows {H1 H2 : Hp} {D : Addr} {n : Nat} {R : Rel} (c : Coll H1 D (fun j => nL (Bel n R j)) n H2) : Rows H2 D (relRows n R) := by
  obtain ⟨as, h1, h2, _, h3⟩ := c
  refine ⟨as, h1, by rw [h2, relRows_len], fun i a r ha hr => ?_⟩
  have hi : i < n := by rw [← h2]; exact (List.getElem?_eq_some_iff.mp ha).1
  rw [relRows_at hi] at hr
  cases hr
  exact (h3 i a ha).2
/-! ### all but one place as it was -/
def SB (x : Addr) (H H' : Hp) : Prop := ∀ b o, b ≠ x → H b = some o → H' b = some o
theorem SB.of {x : Addr} {H H' : Hp} (s : Same H H') : SB x H H' := fun b o _ e => s b o e
theorem SB.trans {x : Addr} {H H1 H2 : Hp} (a : SB x H H1) (b : SB x H1 H2) : SB x H H2 := fun c o n e => b c o n (a c o n e)
theorem SB.refl (x : Addr) (H : Hp) : SB x H H := fun _ _ _ e => e
theorem SB.upd {x : Addr} {H H1 : Hp} {o : HO} (a : SB x H H1) : SB x H (upd H1 x o) := fun c u n e => by rw [upd_ne n]; exact a c u n e
theorem SB.rows {x b : Addr} {H H' : Hp} {rows : List (List Nat)} {C dx : Addr} {fs : List (Str × V)} (s : SB x H H') (hx : H x = some (.ins C dx fs)) (h : Rows H b rows) : Rows H' b rows := by
  obtain ⟨as, h1, h2, h3⟩ := h
  exact ⟨as, s _ _ (ne_of h1 hx (by intro z; cases z)) h1, h2, fun i a r ha hr => s _ _ (ne_of (h3 i a r ha hr) hx (by intro z; cases z)) (h3 i a r ha hr)⟩
theorem lk_same (f : Str) (v : V) (fs : List (Str × V)) : (putF f v fs).lookup f = some v := by rw [lookup_putF, if_pos rfl]
theorem lk_ne {f g : Str} (v : V) (fs : List (Str × V)) (h : ¬ g = f) : (putF f v fs).lookup g = fs.lookup g := by rw [lookup_putF, if_neg h]
theorem put_few {f : Str} {v : V} {fs : List (Str × V)} {k : Nat} (h : fs.length ≤ k) : (putF f v fs).length ≤ k + 1 := by
  have := length_putF f v fs; omega
/-! ### a def with defaults, all parameters given -/
structure FunV (K : PySem.W.Frag) (x qual : Str) (st : Stmt) (f : Addr) (fd : FuncData) : Prop where
  ex : ∃ (oc : Value) (od : Option Addr) (dV kV doc pm : Value) (an : Option Addr) (cdv ct : Value) (osl : Array (Option Value)),
    fd = PySem.W.fnOf x qual (defArgs st) (defBody st) (defScope st) dV kV doc pm an cdv ct ∧ K.lookup f = some ⟨oc, od, .func fd, osl⟩ ∧ PySem.W.codeIn K cdv qual = true
  kp : PySem.W.keepIn K (.ref f) = true
theorem FunV.ok {P : Program} {w : World} {K : PySem.W.Frag} {mg : Str → Option Value} {base : Heap} {x qual : Str} {st : Stmt} {f : Addr} {fd : FuncData} {N ps : List Str} {k : Nat} {sp : Sp} (F : FunV K x qual st f fd) (S : FnScope N ps (defScope st)) (len : ∀ vs H Q E, sp vs H Q E → vs.length = ps.length)
    (hbody : ∀ (cdv : Value) (A : Around) (outer : List Env) (s : Shared) (H : Hp) (vs : List V) (Q : VK) (E : XK), Room k (A.deeper (envOfC qual (defScope st) s.heap.objs.size f cdv)) → sp vs H Q E →
      ∃ t, PSs (cxOf CX0 P w K mg base N qual (defScope st) f cdv A outer s H E).nox (defBody st) t ∧ t { nx := fun _ H' => Q .non H', rt := Q } (start N vs) H) : FnOk P w K mg base CX0 (k + 1) f fd ps sp := by
  obtain ⟨oc, od, dV, kV, doc, pm, an, cdv, ct, osl, rfl, lk, hcd⟩ := F.ex
  refine fn_of lk hcd S len fun A outer s H vs Q E hr hsp => ?_
  obtain ⟨t, h, q⟩ := hbody cdv A outer s H vs Q E hr hsp
  exact ⟨t, h.nox, q⟩
/-- a store into a list by place -/
theorem set_at {H : Hp} {p : Addr} {xs : List V} {k : Int} {j : Nat} {v : V} {Q : Hp → Prop} (hp : H p = some (.lst xs)) (hk : ixN xs.length k = some j)
    (h : ∀ H', SB p H H' → H' p = some (.lst (xs.set j v)) → Q H') : rSetL (.ref p) (.int k) v H Q := ⟨p, xs, k, j, rfl, rfl, hp, hk, h _ (SB.upd (SB.refl p H)) upd_same⟩
theorem ixN_nat {n k : Nat} (h : k < n) : ixN n (k : Int) = some k := by
  unfold ixN
  rw [if_pos (by omega), if_pos (by omega), Int.toNat_natCast]
theorem SB.to_same {x : Addr} {H0 H H' : Hp} (s : SB x H H') (s0 : Same H0 H) (n : H0 x = Option.none) : Same H0 H' := fun b o e => s b o (fun z => by rw [z, n] at e; cases e) (s0 b o e)
end Hue

end
section
set_option maxRecDepth 100000
set_option maxHeartbeats 2000000
namespace L2
open PySem PySem.Spec PyProof.Rows
/-! ### enumerate(t), t a tuple -/
theorem eT_new {v : Value} {o : Obj} {G : Heap → Prop} (B : Begins v o G) :
    Meets (Builtin.«enumerate.__new__» ⟨[.type "enumerate", v], []⟩) (fun _ R s => G s.heap ∧
      R (.ok (.ret (.ref (s.heap.push o).objs.size))) { s with heap := (s.heap.push o).push { cls := .type "enumerate", data := .fields #[.none, .bool false, .ref s.heap.objs.size, rawInt 0, .none, .none] } }) :=
  .of_wp fun prog w A R s h => by
    obtain ⟨hp, g, d, tk, os⟩ := s
    obtain ⟨h1, h⟩ := h
    have hsub := sub_enumerate
    have q1 : ∀ {A' : Around} {E : Value → Shared → Prop} {Q : Value → Shared → Prop}, Q (.ref hp.objs.size) ⟨hp.push o, g, d, tk, os⟩ → wpAny (model prog w) A' (pyIter v) Q E ⟨hp, g, d, tk, os⟩ :=
      fun q => B.iter prog w _ _ ⟨hp, g, d, tk, os⟩ _ h1 q
    wp_walk using q1
    refine wpAny_stack_any fun st => wpAny_pure ?_
    split
    · rename_i c _ _ _ _ _
      cases (c == Value.type "enumerate")
      · wp_walk using q1
        exact ⟨_, rfl, h⟩
      · wp_walk using q1
        exact ⟨_, rfl, h⟩
    · wp_walk using q1
      exact ⟨_, rfl, h⟩
section
variable {prog : Program} {w : World} {A : Around} {E : Value → Shared → Prop} {s : Shared}
theorem eT_call {v : Value} {o : Obj} {G : Heap → Prop} {Q : Value → Shared → Prop} (B : Begins v o G) (h1 : G s.heap)
    (h : ∀ h', IsEnum h' (s.heap.objs.size + 1) s.heap.objs.size 0 .none → h'.get? s.heap.objs.size = some o → (∀ b o, s.heap.get? b = some o → h'.get? b = some o) → Q (.ref (s.heap.objs.size + 1)) { s with heap := h' }) :
    wpAny (model prog w) A (call (.type "enumerate") [v]) Q E s := by
  refine callType_new F.called_enumerate (by decide) (F.typeCall_enumerate_1 _) (F.newCall_enumerate_1 _) (fun obj => F.args_object_init_2 obj _) F.entry_enumerate_new (eT_new B) ⟨h1, ?_⟩
  have sz : (s.heap.push o).objs.size = s.heap.objs.size + 1 := Heap.size_push ..
  show _ ∧ _
  rw [sz]
  have new : IsEnum ((s.heap.push o).push { cls := .type "enumerate", data := .fields #[.none, .bool false, .ref s.heap.objs.size, rawInt 0, .none, .none] }) (s.heap.objs.size + 1) s.heap.objs.size 0 .none := by
    have z := Heap.get?_push_size (s.heap.push o) (o := { cls := .type "enumerate", data := .fields #[.none, .bool false, .ref s.heap.objs.size, rawInt 0, .none, .none] }) rfl
    rw [sz] at z
    exact z
  exact ⟨⟨_, new, rfl⟩, h _ new (Heap.get?_push_of_some _ (Heap.get?_push_size _ B.free)) fun b o x => Heap.get?_push_of_some _ (Heap.get?_push_of_some _ x)⟩
end
/-- the turns of enumerate(t), t the tuple at a -/
def IteT (K : PySem.W.Frag) (a : Addr) (n : Nat) : It :=
  ⟨fun i H => i < n ∧ ∃ (xs : List V) (x : V), SqT K H a xs ∧ xs[i]? = some x, fun i H v H' => ∃ T x, v = .ref T ∧ H T = none ∧ H' = upd H T (.tup [.int (i : Nat), x]) ∧ ∀ xs, SqT K H a xs → xs[i]? = some x, fun i H => n ≤ i ∧ ∃ xs : List V, SqT K H a xs ∧ xs.length = n⟩
theorem turn_enumT {P : Program} {w : World} {K : PySem.W.Frag} {elts : List Expr} {kk : Nat} {tpos : Pos} (a e it : Addr) (n : Nat) :
    Turn P w K (.Tuple elts kk tpos) (IteT K a n) [e, it] e (fun i h => i ≤ n ∧ (∃ old, IsEnum h e it ((i : Nat) : Int) old) ∧ h.IsTupleIter it a i ∧ e ≠ it ∧ a ≠ it) where
  mem := by simp
  obj := fun i h st b hb => by
    obtain ⟨_, ⟨old, he⟩, ⟨o, ho, hc, hd⟩, _⟩ := st
    rcases (show b = e ∨ b = it by simpa using hb) with z | z
    · rw [z]; exact ⟨_, he, fun v q => nomatch q⟩
    · rw [z]; exact ⟨o, ho, fun v q => by rw [hd] at q; cases q⟩
  keep := fun i h h' st k => by
    obtain ⟨le, ⟨old, he⟩, ⟨o, ho, r⟩, n1, n2⟩ := st
    exact ⟨le, ⟨old, k e (by simp) _ he⟩, ⟨o, k it (by simp) o ho, r⟩, n1, n2⟩
  item := by
    intro X hP hw hK hc i pins s σ H E I hf st hg
    subst hP hw hK
    obtain ⟨le, ⟨old, he⟩, hit, hne, nai⟩ := st
    obtain ⟨ltn, xs, x, hq, hx⟩ := hg
    obtain ⟨its, rv, p, hz⟩ := I.tuple hq
    obtain ⟨u, hu, ru⟩ := rv.get hx
    have hel : e < s.heap.objs.size := Heap.lt_size he
    have hil : it < s.heap.objs.size := by obtain ⟨_, q, _⟩ := hit; exact Heap.lt_size q
    have nea : e ≠ a := fun z => by
      obtain ⟨o, ho, hcl, _⟩ := p
      have he2 := he
      rw [z] at he2
      have q := ho.symm.trans he2
      cases q
      exact absurd (Value.type.inj hcl) (by decide)
    have iu : i < its.toArray.size := by
      have z := (List.getElem?_eq_some_iff.mp hu).1
      simpa using z
    refine wpAny_pyNext_enum_itemD (Draws.tuple (A := X.A.in1) (I.ok.hd hc) it a nai its.toArray) he ⟨hit, p⟩ iu hne (by simp [hne, nea]) fun v h' tk hv ho st' hT hsz hk => ?_
    have ev : v = u := by
      have hv' : its.toArray[i]? = some v := hv
      have hu' : its.toArray[i]? = some u := by simpa using hu
      rw [hu'] at hv'
      exact (Option.some.inj hv').symm
    subst ev
    refine ⟨_, rfl, wpAny_letOwnedTupleGo_enum (s := { s with heap := h', toks := tk + 1 }) ho fun h'' he' sb => ?_⟩
    have hT2 : h''.get? s.heap.objs.size = some { cls := .type "tuple", data := .seq #[.int i tk, v] } := (sb.2 _ (Nat.ne_of_gt hel)).trans hT
    have new : ObjOk X.prog X.w (upd H s.heap.objs.size (.tup [.int (i : Nat), x])) h'' s.heap.objs.size (.tup [.int (i : Nat), x]) :=
      ⟨by show 2 ≤ sizeLine; decide, [.int i tk, v], .cons ⟨_, rfl⟩ (.cons ru .nil), ⟨_, hT2, rfl, _, rfl⟩⟩
    have I1 : Inv X pins σ (upd H s.heap.objs.size (.tup [.int (i : Nat), x])) { s with heap := h'', toks := tk + 1 } :=
      I.turnedNew (ch := [e, it]) (fun b ob hb q => (sb.2 b (fun z => hb (by simp [z]))).trans (hk b ob (fun z => hb (by simp [z])) (fun z => hb (by simp [z])) q)) hf (Nat.le_refl _) new
    refine ⟨.ref s.heap.objs.size, _, I1, rfl, ⟨_, x, rfl, I.hok.fresh (Nat.le_refl _), rfl, fun ys hy => by rw [I.tuple_inj hy hq]; exact hx⟩, ⟨ltn, ⟨v, ?_⟩, ?_, hne, nai⟩, fun b hb => ?_⟩
    · have e1 : ((i + 1 : Nat) : Int) = (i : Int) + 1 := by omega
      rw [e1]; exact he'
    · obtain ⟨o, ho2, r⟩ := st'.1
      exact ⟨o, (sb.2 it (Ne.symm hne)).trans ho2, r⟩
    · have lt : b < s.heap.objs.size := by
        rcases (show b = e ∨ b = it by simpa using hb) with z | z
        · rw [z]; exact hel
        · rw [z]; exact hil
      rw [upd_ne (Nat.ne_of_lt lt)]
      exact (hf b hb).1
  done := by
    intro X hP hw hK hc i pins s σ H E I hf st hg
    subst hP hw hK
    obtain ⟨le, ⟨old, he⟩, hit, hne, nai⟩ := st
    obtain ⟨gen, xs, hq, hx⟩ := hg
    obtain ⟨its, rv, p, hz⟩ := I.tuple hq
    obtain ⟨f0, f1, f2, f3, f4, f5⟩ := hf it (by simp)
    have ei : i = its.toArray.size := by
      rw [List.size_toArray, ← rv.length]
      omega
    rw [ei] at hit
    exact wpAny_pyNext_enum_endD (Draws.tuple (A := X.A.in1) (I.ok.hd hc) it a nai its.toArray) he ⟨hit, p⟩ fun h' eb => ⟨rfl, I.turned (t' := s.toks) (fun b o hb q => eb b o hb q) f0 f1 f3 f4 f5⟩
  self := fun A i s Q E st h => let ⟨_, ⟨_, he⟩, _⟩ := st; wpAny_pyIter_enum he h
/-- enumerate(x), x a list or a tuple -/
def iEnumA (K : PySem.W.Frag) (ta : TA) : TI := fun σ H R => ta σ H fun vs H1 => ∃ a xs, vs = [.ref a] ∧ ((SqL K H1 a xs ∧ R (Ite K a) H1) ∨ (SqT K H1 a xs ∧ R (IteT K a xs.length) H1))
theorem pi_enumA {X : Cx} {e : Expr} {ta : TA} {p pos tpos : Pos} {elts : List Expr} {kk : Nat} (hg : Gl X "enumerate") (hm : X.mg "enumerate" = none) (ha : PA X [e] ta) (hs : starEach [e] X.env = [(false, eval e X.env)] := by rfl) :
    PI X (.Tuple elts kk tpos) (.Call (.Name "enumerate" p) [e] [] pos) (iEnumA X.K ta) := by
  refine ⟨fun pins s σ H R I h => ?_⟩
  refine Call_ (ld_blt I hg hm boot_enumerate (PyProof.Rows.callWith_type1 (thn (ha.run pos pins s σ H _ I h) fun us s1 ⟨vs, H1, I1, r1, q1⟩ => ?_) hs rfl))
  obtain ⟨a, xs, ex, q⟩ := q1
  subst ex
  cases r1 with
  | cons r rr =>
    cases rr
    cases r
    have fp : ∀ b ∈ [s1.heap.objs.size + 1, s1.heap.objs.size], s1.heap.objs.size ≤ b := fun b hb => by
      rcases (show b = s1.heap.objs.size + 1 ∨ b = s1.heap.objs.size by simpa using hb) with z | z
      · rw [z]; exact Nat.le_succ _
      · rw [z]; exact Nat.le_refl _
    rcases q with ⟨hq, q⟩ | ⟨hq, q⟩
    · obtain ⟨its, rv, p', hz⟩ := I1.list hq
      refine eT_call (begins_list a its.toArray) p'.isList fun h' he hit hk => wpAny_pyIter_enum he ?_
      exact ⟨_, _, _, _, H1, rfl, I1.kept (t' := s1.toks) hk, turn_enum a (s1.heap.objs.size + 1) s1.heap.objs.size, ⟨⟨.none, he⟩, ⟨_, hit, rfl, rfl⟩, Nat.succ_ne_self _⟩, fun b hb => I1.fpOk (fp b hb) (I1.hok.fresh (fp b hb)), q⟩
    · obtain ⟨its, rv, p', hz⟩ := I1.tuple hq
      have lt : a < s1.heap.objs.size := let ⟨_, ho, _⟩ := p'; Heap.lt_size ho
      refine eT_call (begins_tuple a its.toArray) p' fun h' he hit hk => wpAny_pyIter_enum he ?_
      exact ⟨_, _, _, _, H1, rfl, I1.kept (t' := s1.toks) hk, turn_enumT a (s1.heap.objs.size + 1) s1.heap.objs.size xs.length, ⟨Nat.zero_le _, ⟨.none, he⟩, ⟨_, hit, rfl, rfl⟩, Nat.succ_ne_self _, Nat.ne_of_lt lt⟩, fun b hb => I1.fpOk (fp b hb) (I1.hok.fresh (fp b hb)), q⟩
theorem walk_enumT {K : PySem.W.Frag} {a : Addr} {xs : List V} : Walk (IteT K a xs.length) xs.length (fun H => SqT K H a xs) (YPair (fun i => some (.int (i : Nat))) (fun i => xs[i]?)) := by
  refine ⟨fun i _ hi q => ⟨hi, xs, xs[i], q, by simp [hi]⟩, fun _ q => ⟨Nat.le_refl _, xs, q, rfl⟩, fun i H v H' _ q y => ?_⟩
  obtain ⟨T, x, h1, h2, h3, h4⟩ := y
  exact ⟨T, .int (i : Nat), x, h1, h2, h3, rfl, h4 xs q⟩
end L2

end
section
set_option maxRecDepth 100000
set_option maxHeartbeats 2000000
namespace Srt
open PySem PySem.W PySem.Calls PyProof.Rows
section
variable {prog : Program} {w : World} {A : Around} {E : Value → Shared → Prop} {s : Shared}
/-- sorted(x), x a list or a tuple of pairs of ints -/
theorem hu_sorted_seq {l : Addr} {T : String} {o : Obj} {items : Array Value} {n : Nat} {Q : Value → Shared → Prop} (hT : T = "list" ∨ T = "tuple") (ho : s.heap.get? l = some o) (hc : o.cls = .type T) (hd : o.data = .seq items n) (hz : items.size ≤ sizeLine)
    (hp : ∀ v ∈ items.toList, ∃ x y, IsPair s.heap v x y)
    (h : ∀ (h1 h' : Heap) (d : Addr) (out : List Value), out.Perm items.toList → (∀ b o, s.heap.get? b = some o → h1.get? b = some o) → (∀ b o, h1.get? b = some o → h'.get? b = some o) → h1.objs.size ≤ d → (∃ n, h'.get? d = some (seqObj "list" out.toArray n)) → Q (.ref d) { s with heap := h' }) :
    wpAny (model prog w) A (call (.builtin "sorted") [.ref l]) Q E s := by
  have hz' : items.toList.length ≤ sizeLine := hz
  refine Calls.call_function_entry kind_sorted plain_sorted entry_sorted (args_sorted1 _) ?_
  unfold Builtin.«sorted»
  refine wpAny_bind (m := checkCount "sorted" 1 1 _) (wpAny_pure ?_)
  refine wpAny_bind (wpAny_collect_seq l hT ho hc hd (fun h1 k1 => ?_) hz)
  refine wpAny_bind (wpAny_newList ?_ hz')
  have hoL : (h1.push (seqObj "list" items.toList.toArray 0)).get? h1.objs.size = some (seqObj "list" items.toList.toArray 0) := Heap.get?_push_size _ rfl
  have keep : ∀ b o, h1.get? b = some o → b < h1.objs.size ∧ (h1.push (seqObj "list" items.toList.toArray 0)).get? b = some o := fun b o e => ⟨Heap.lt_size e, Heap.get?_push_of_some _ e⟩
  refine wpAny_bind (wpAny_holding (wpAny_call_entry slot_list_sort ⟨_, hoL, rfl⟩ entry_list_sort (list_sort_any (s := { s with heap := h1.push (seqObj "list" items.toList.toArray 0) }) hoL hz' (fun h2 => ?_) fun out pm => ⟨_, rfl, ?_⟩) (args_list_sort _)))
  · refine pairs_sortable (s := { s with heap := h1.push (seqObj "list" items.toList.toArray 0) }) (by omega) (fun v hm => ?_) fun o e => ?_
    · obtain ⟨x, y, p⟩ := hp v hm
      exact ⟨x, y, p.keeps fun b o e _ => (keep b o (k1 b o e)).2⟩
    · have e' : some o = some (seqObj "list" items.toList.toArray 0) := e.symm.trans hoL
      cases e'
      intro c
      exact absurd (Value.type.inj c) (by decide)
  · refine wpAny_pure ⟨_, rfl, h h1 _ h1.objs.size out pm k1 (fun b o e => ?_) (Nat.le_refl _) (sortedHeap_at hoL)⟩
    obtain ⟨lt, e2⟩ := keep b o e
    rw [sortedHeap_old (Nat.ne_of_lt lt) (by rw [size_push']; exact Nat.lt_succ_of_lt lt)]
    exact e2
end
end Srt

namespace L2
open PySem PySem.Spec PyProof.Rows
section
variable {X : Cx}
/-- sorted(x), x a list or a tuple of pairs of ints -/
def rSortPA (K : PySem.W.Frag) : List V → Hp → VK → Prop := fun vs H Q => ∃ a xs, vs = [V.ref a] ∧ (SqL K H a xs ∨ SqT K H a xs) ∧ (∀ x ∈ xs, ∃ t i j, x = V.ref t ∧ H t = some (.tup [.int i, .int j])) ∧ ∀ ys p, ys.Perm xs → H p = none → Q (.ref p) (upd H p (.lst ys))
theorem cr_sortPA : CallR X (.builtin "sorted") (rSortPA X.K) := by
  intro pins s σ H vs us Q I r h
  obtain ⟨a, xs, rfl, hs, hx, q⟩ := h
  obtain ⟨T, its, o, n, hT, rv, ho, hc, hd, hz⟩ : ∃ (T : String) (its : List Value) (o : Obj) (n : Nat), (T = "list" ∨ T = "tuple") ∧ Vals xs its ∧ s.heap.get? a = some o ∧ o.cls = .type T ∧ o.data = .seq its.toArray n ∧ xs.length ≤ sizeLine := by
    rcases hs with hs | hs
    · obtain ⟨its, rv, hl, hz⟩ := I.list hs
      obtain ⟨o, ho, hc, n, hd⟩ := hl.isList
      exact ⟨"list", its, o, n, .inl rfl, rv, ho, hc, hd, hz⟩
    · obtain ⟨its, rv, ⟨o, ho, hc, n, hd⟩, hz⟩ := I.tuple hs
      exact ⟨"tuple", its, o, n, .inr rfl, rv, ho, hc, hd, hz⟩
  obtain ⟨u, rfl, ru⟩ := vals1 r
  obtain rfl : u = Value.ref a := ru
  obtain ⟨e1, e2⟩ := bkV_refs rv fun x m => by
    obtain ⟨t, _, _, e, _⟩ := hx x m
    exact ⟨t, e⟩
  refine Srt.hu_sorted_seq hT ho hc hd (by rw [List.size_toArray, ← rv.length]; exact hz) (fun v hv => ?_) fun h1 h' d out hp k1 k2 hd' hn => ?_
  · obtain ⟨t, rfl⟩ := e2 v hv
    have hm : V.ref t ∈ xs := by rw [e1]; exact List.mem_map.mpr ⟨_, hv, rfl⟩
    obtain ⟨t', i, j, e, ht⟩ := hx _ hm
    cases e
    obtain ⟨_, its2, r2, o2, ho2, hc2, n2, hd2⟩ := I.hok _ _ ht
    obtain ⟨u1, u2, rfl, ri, rj⟩ := vals2 r2
    obtain ⟨t1, rfl⟩ := ri
    obtain ⟨t2, rfl⟩ := rj
    exact ⟨i, j, t, o2, t1, t2, n2, rfl, ho2, hc2, hd2⟩
  · have h3 : ∀ u ∈ out, ∃ a, u = Value.ref a := fun u hu => e2 u (hp.mem_iff.mp hu)
    obtain ⟨n, hn⟩ := hn
    have I1 : Inv X pins σ H { s with heap := h1 } := I.kept (t' := s.toks) k1
    refine ⟨.ref d, upd H d (.lst (out.map bkV)), I1.laid (t' := s.toks) k2 hd' ⟨?_, out, n, bkV_vals h3, hn⟩, rfl, q _ d ?_ (I1.hok.fresh hd')⟩
    · rw [List.length_map, hp.length_eq]
      show its.length ≤ sizeLine
      rw [← rv.length]; exact hz
    · rw [e1]
      exact hp.map bkV
end
end L2

end
section
set_option maxRecDepth 100000
namespace L2
open PySem PySem.Spec PyProof.Rows
/-! ### a list or a tuple -/
def SqA (K : PySem.W.Frag) (H : Hp) (a : Addr) (xs : List V) : Prop := SqL K H a xs ∨ SqT K H a xs
section
variable {X : Cx} {K : PySem.W.Frag}
/-- all of H0 stands in H -/
def Same0 (H0 H : Hp) : Prop := ∀ b o, H0 b = some o → H b = some o
theorem Same0.sqL {H H' : Hp} {a : Addr} {xs : List V} (e : Same0 H H') (h : SqL K H a xs) : SqL K H' a xs := by
  rcases h with (h | ⟨o, h⟩) | h
  · exact .inl (.inl (e _ _ h))
  · exact .inl (.inr ⟨o, e _ _ h⟩)
  · exact .inr h
theorem Same0.sqT {H H' : Hp} {a : Addr} {xs : List V} (e : Same0 H H') (h : SqT K H a xs) : SqT K H' a xs := by
  rcases h with (h | ⟨o, h⟩) | h
  · exact .inl (.inl (e _ _ h))
  · exact .inl (.inr ⟨o, e _ _ h⟩)
  · exact .inr h
theorem SqA.same {H H' : Hp} {a : Addr} {xs : List V} (h : SqA K H a xs) (e : Same0 H H') : SqA K H' a xs := h.imp (Same0.sqL e) (Same0.sqT e)
/-- also where an instance changes -/
theorem SqA.sb {H H' : Hp} {a x C dx : Addr} {fs : List (Str × V)} {xs : List V} (h : SqA K H a xs) (hx : H x = some (.ins C dx fs)) (s : ∀ b o, b ≠ x → H b = some o → H' b = some o) : SqA K H' a xs := by
  rcases h with ((h | ⟨o, h⟩) | h) | ((h | ⟨o, h⟩) | h)
  · exact .inl (.inl (.inl (s _ _ (ne_of h hx (by intro z; cases z)) h)))
  · exact .inl (.inl (.inr ⟨o, s _ _ (ne_of h hx (by intro z; cases z)) h⟩))
  · exact .inl (.inr h)
  · exact .inr (.inl (.inl (s _ _ (ne_of h hx (by intro z; cases z)) h)))
  · exact .inr (.inl (.inr ⟨o, s _ _ (ne_of h hx (by intro z; cases z)) h⟩))
  · exact .inr (.inr h)
theorem piA_ (K : PySem.W.Frag) {e : Expr} {ta : TA} {p pos tpos : Pos} {elts : List Expr} {kk : Nat} (hg : Gl X "enumerate") (hm : X.mg "enumerate" = none) (ha : PA X [e] ta) (hs : starEach [e] X.env = [(false, eval e X.env)] := by rfl) (hK : X.K = K := by rfl) :
    PI X (.Tuple elts kk tpos) (.Call (.Name "enumerate" p) [e] [] pos) (iEnumA K ta) := by subst hK; exact pi_enumA hg hm ha hs
theorem sortPA_ (K : PySem.W.Frag) (hK : X.K = K := by rfl) : CallR X (.builtin "sorted") (rSortPA K) := by subst hK; exact cr_sortPA
/-- for i, x in enumerate(a list or a tuple) -/
theorem for_enumA {a : Addr} {xs : List V} {g : TG} {tb : TS} {D : Ends} {σ : L2.St} {H H0 : Hp} (sa : SqA K H0 a xs) (s0 : Same0 H0 H) (Pv : Nat → L2.St → Hp → Prop) (h0 : Pv 0 σ H) (keep : ∀ i σ H, i ≤ xs.length → Pv i σ H → Same0 H0 H)
    (hs : ∀ i x σ H H', i < xs.length → Pv i σ H → YPair (fun i => some (.int (i : Nat))) (fun i => xs[i]?) i H x H' → g x σ H' fun σ2 H2 => tb { D with nx := Pv (i + 1), ct := Pv (i + 1), bk := D.nx } σ2 H2) (hd : ∀ σ H, Pv xs.length σ H → D.nx σ H) :
    (SqL K H a xs ∧ ∃ W : Nat → Nat → L2.St → Hp → Prop, (∃ m, W 0 m σ H) ∧ ∀ i m σ H, W i m σ H →
      ((Ite K a).stop i H ∧ D.nx σ H) ∨ ((Ite K a).go i H ∧ ∃ N : L2.St → Hp → Prop, (∀ σ' H', N σ' H' → ∃ m', m' < m ∧ W (i + 1) m' σ' H') ∧ ∀ x H', (Ite K a).yld i H x H' → g x σ H' fun σ2 H2 => tb { D with nx := N, ct := N, bk := D.nx } σ2 H2)) ∨
    (SqT K H a xs ∧ ∃ W : Nat → Nat → L2.St → Hp → Prop, (∃ m, W 0 m σ H) ∧ ∀ i m σ H, W i m σ H →
      ((IteT K a xs.length).stop i H ∧ D.nx σ H) ∨ ((IteT K a xs.length).go i H ∧ ∃ N : L2.St → Hp → Prop, (∀ σ' H', N σ' H' → ∃ m', m' < m ∧ W (i + 1) m' σ' H') ∧ ∀ x H', (IteT K a xs.length).yld i H x H' → g x σ H' fun σ2 H2 => tb { D with nx := N, ct := N, bk := D.nx } σ2 H2)) := by
  rcases sa with sl | st
  · exact .inl ⟨Same0.sqL s0 sl, for_it walk_enum Pv h0 (fun i σ H hi p => Same0.sqL (keep i σ H hi p) sl) hs hd⟩
  · exact .inr ⟨Same0.sqT s0 st, for_it walk_enumT Pv h0 (fun i σ H hi p => Same0.sqT (keep i σ H hi p) st) hs hd⟩
end
end L2

end
section
set_option maxRecDepth 100000
namespace Hue
open PySem PySem.Spec PyProof.Rows L2
/-! ### the order list -/
def flip (R : Rel) : Rel := fun i j => R j i
/-- k is the next in turn -/
def nxt (n : Nat) (R : Rel) (ord : List Nat) (k : Nat) : Bool := !decide (k ∈ ord) && (Bel n (flip R) k).all fun j => decide (j ∈ ord)
def cands (n : Nat) (R : Rel) (ord : List Nat) : List Nat := (List.range n).filter (nxt n R ord)
def ordN (n : Nat) (R : Rel) : Nat → List Nat
  | 0 => []
  | k + 1 => ordN n R k ++ (cands n R (ordN n R k)).take 1
def Ranked (R : Rel) : Prop := ∃ ρ : Nat → Nat, ∀ i j, R i j = true → ρ i < ρ j
theorem nxt_iff {n : Nat} {R : Rel} {ord : List Nat} {k : Nat} : nxt n R ord k = true ↔ k ∉ ord ∧ ∀ j, j < n → R j k = true → j ∈ ord := by
  unfold nxt
  rw [Bool.and_eq_true, Bool.not_eq_true', decide_eq_false_iff_not, List.all_eq_true]
  constructor
  · rintro ⟨h1, h2⟩
    exact ⟨h1, fun j hj hr => of_decide_eq_true (h2 j (mem_Bel.mpr ⟨hj, hr⟩))⟩
  · rintro ⟨h1, h2⟩
    exact ⟨h1, fun j hj => decide_eq_true (h2 j (mem_Bel.mp hj).1 (mem_Bel.mp hj).2)⟩
theorem cands_ne {n : Nat} {R : Rel} (hR : Ranked R) {ord : List Nat} (hl : ord.length < n) : ∃ c rest, cands n R ord = c :: rest := by
  obtain ⟨ρ, hρ⟩ := hR
  have least : ∀ m i, i < n → i ∉ ord → ρ i ≤ m → ∃ c, c < n ∧ nxt n R ord c = true := by
    intro m
    induction m with
    | zero =>
      intro i hi hn hm
      refine ⟨i, hi, nxt_iff.mpr ⟨hn, fun j hj hr => ?_⟩⟩
      have := hρ j i hr
      omega
    | succ m ih =>
      intro i hi hn hm
      rcases Classical.em (∃ j, j < n ∧ R j i = true ∧ j ∉ ord) with ⟨j, hj, hr, hjn⟩ | none
      · have := hρ j i hr
        exact ih j hj hjn (by omega)
      · refine ⟨i, hi, nxt_iff.mpr ⟨hn, fun j hj hr => ?_⟩⟩
        rcases Classical.em (j ∈ ord) with h | h
        · exact h
        · exact absurd ⟨j, hj, hr, h⟩ none
  obtain ⟨i, hi, hn⟩ := st_missing ord n hl
  obtain ⟨c, hc, hx⟩ := least (ρ i) i hi hn (Nat.le_refl _)
  cases e : cands n R ord with
  | nil =>
    have : c ∈ cands n R ord := List.mem_filter.mpr ⟨List.mem_range.mpr hc, hx⟩
    rw [e] at this
    cases this
  | cons a rest => exact ⟨a, rest, rfl⟩
theorem cands_asc (n : Nat) (R : Rel) (ord : List Nat) : (cands n R ord).Pairwise (· < ·) := List.Pairwise.filter _ List.pairwise_lt_range
/-- the least of the candidates is the first -/
theorem cands_min {n : Nat} {R : Rel} {ord : List Nat} {c : Nat} {rest : List Nat} (e : cands n R ord = c :: rest) {m : Int} (hm : m ∈ nI (cands n R ord)) (hle : ∀ y, y ∈ nI (cands n R ord) → m ≤ y) : m = (c : Int) := by
  obtain ⟨k, hk, rfl⟩ := mem_nI.mp hm
  have h1 := hle (c : Int) (mem_nI.mpr ⟨c, by rw [e]; exact List.mem_cons_self, rfl⟩)
  have pw := cands_asc n R ord
  rw [e] at hk pw
  rcases List.mem_cons.mp hk with z | z
  · rw [z]
  · have := (List.pairwise_cons.mp pw).1 k z
    omega
theorem ordN_succ {n : Nat} {R : Rel} {k c : Nat} {rest : List Nat} (e : cands n R (ordN n R k) = c :: rest) : ordN n R (k + 1) = ordN n R k ++ [c] := by
  show ordN n R k ++ (cands n R (ordN n R k)).take 1 = _
  rw [e]; rfl
structure OrdOk (n : Nat) (R : Rel) (ord : List Nat) : Prop where
  nd : ord.Nodup
  lt : ∀ i ∈ ord, i < n
  up : ∀ q i, ord[q]? = some i → ∀ j, j < n → R j i = true → j ∈ ord.take q
theorem ordN_ok {n : Nat} {R : Rel} (hR : Ranked R) : ∀ k, k ≤ n → (ordN n R k).length = k ∧ OrdOk n R (ordN n R k)
  | 0, _ => ⟨rfl, ⟨List.nodup_nil, fun i h => absurd h List.not_mem_nil, fun q i h => by simp [ordN] at h⟩⟩
  | k + 1, hk => by
    obtain ⟨l, ok⟩ := ordN_ok hR k (Nat.le_of_succ_le hk)
    obtain ⟨c, rest, e⟩ := cands_ne (n := n) hR (ord := ordN n R k) (by omega)
    have cm : c ∈ cands n R (ordN n R k) := by rw [e]; exact List.mem_cons_self
    obtain ⟨c1, c2⟩ := List.mem_filter.mp cm
    obtain ⟨c3, c4⟩ := nxt_iff.mp c2
    rw [ordN_succ e]
    refine ⟨by rw [List.length_append, l]; rfl, ⟨?_, fun i hi => ?_, fun q i hq j hj hr => ?_⟩⟩
    · rw [List.nodup_append]
      refine ⟨ok.nd, by simp, fun a ha b hb => ?_⟩
      rw [List.mem_singleton.mp hb]
      intro z
      exact c3 (z ▸ ha)
    · rcases List.mem_append.mp hi with h | h
      · exact ok.lt i h
      · rw [List.mem_singleton.mp h]; exact List.mem_range.mp c1
    · rcases Nat.lt_or_ge q (ordN n R k).length with h | h
      · rw [List.getElem?_append_left h] at hq
        rw [List.take_append_of_le_length (Nat.le_of_lt h)]
        exact ok.up q i hq j hj hr
      · rw [List.getElem?_append_right h] at hq
        have q0 : q - (ordN n R k).length = 0 := by
          rcases Nat.eq_zero_or_pos (q - (ordN n R k).length) with z | z
          · exact z
          · rw [List.getElem?_eq_none (by rw [List.length_singleton]; exact z)] at hq; cases hq
        rw [q0] at hq
        cases hq
        have eq : q = (ordN n R k).length := by omega
        rw [eq, List.take_left']
        · exact c4 j hj hr
        · rfl
/-- every lamp stands in it -/
theorem ord_all {n : Nat} {R : Rel} (hR : Ranked R) {i : Nat} (hi : i < n) : i ∈ ordN n R n := by
  obtain ⟨l, ok⟩ := ordN_ok hR n (Nat.le_refl _)
  rcases Classical.em (i ∈ ordN n R n) with h | h
  · exact h
  · exfalso
    have := nat_nodup_len (i :: ordN n R n) (List.range n) (List.nodup_cons.mpr ⟨h, ok.nd⟩) fun x hx => by
      rcases List.mem_cons.mp hx with z | z
      · rw [z]; exact List.mem_range.mpr hi
      · exact List.mem_range.mpr (ok.lt x z)
    rw [List.length_cons, l, List.length_range] at this
    omega
theorem relOf_ranked {ps : List (Nat × Nat)} {ρ : Nat → Nat} (h : ∀ p ∈ ps, ρ p.1 < ρ p.2) : Ranked (relOf ps) := ⟨ρ, relOf_rank h⟩
/-! ### the relation goes on -/
def Trans (R : Rel) : Prop := ∀ i j k, R i j = true → R j k = true → R i k = true
theorem addW_iff {R : Rel} {u l i j : Nat} : addW R u l i j = true ↔ R i j = true ∨ ((i = u ∨ R i u = true) ∧ (j = l ∨ R l j = true)) := by
  unfold addW
  rw [Bool.or_eq_true, Bool.and_eq_true, Bool.or_eq_true, Bool.or_eq_true, beq_iff_eq, beq_iff_eq]
theorem addW_trans {R : Rel} (hR : Trans R) (u l : Nat) : Trans (addW R u l) := by
  intro i j k h1 h2
  rw [addW_iff] at h1 h2 ⊢
  rcases h1 with h1 | ⟨a1, a2⟩ <;> rcases h2 with h2 | ⟨b1, b2⟩
  · exact .inl (hR i j k h1 h2)
  · refine .inr ⟨.inr ?_, b2⟩
    rcases b1 with e | e
    · rw [← e]; exact h1
    · exact hR _ _ _ h1 e
  · refine .inr ⟨a1, .inr ?_⟩
    rcases a2 with e | e
    · rw [← e]; exact h2
    · exact hR _ _ _ e h2
  · exact .inr ⟨a1, b2⟩
theorem relOf_trans : ∀ (ps : List (Nat × Nat)), Trans (relOf ps) := by
  have key : ∀ (ps : List (Nat × Nat)) (R : Rel), Trans R → Trans (ps.foldl (fun R p => addW R p.1 p.2) R) := by
    intro ps
    induction ps with
    | nil => intro R h; exact h
    | cons p ps ih => intro R h; exact ih _ (addW_trans h p.1 p.2)
  intro ps
  exact key ps _ fun i j k h => by cases h
/-! ### states -/
abbrev stV (S : List Int) : List V := S.map V.int
def at_ (S : List Int) (k : Nat) : Int := S.getD k 0
theorem stV_get {S : List Int} {k : Nat} (h : k < S.length) : (stV S)[k]? = some (V.int (at_ S k)) := by
  unfold stV at_
  rw [List.getElem?_map, List.getElem?_eq_getElem h, List.getD_eq_getElem?_getD, List.getElem?_eq_getElem h]
  rfl
def StOk (n h : Nat) (S : List Int) : Prop := S.length = n ∧ ∀ z ∈ S, 0 ≤ z ∧ z < (h : Int)
theorem StOk.at {n h : Nat} {S : List Int} (s : StOk n h S) {k : Nat} (hk : k < n) : 0 ≤ at_ S k ∧ at_ S k < (h : Int) := by
  have hl : k < S.length := by rw [s.1]; exact hk
  unfold at_
  rw [List.getD_eq_getElem?_getD, List.getElem?_eq_getElem hl]
  exact s.2 _ (List.getElem_mem hl)
/-- T is reachable from S: every topmost difference goes down -/
def Reach (n : Nat) (R : Rel) (S T : List Int) : Prop := ∀ k, k < n → at_ S k ≠ at_ T k → (∀ u, u < n → R u k = true → at_ S u = at_ T u) → at_ T k < at_ S k
theorem rgV_nL (n : Nat) : rgV 0 (n : Int) = nL (List.range n) := by
  unfold rgV nL nI
  simp
theorem rgOk (n : Nat) (h : n ≤ 1000) : RgOk 0 (n : Int) := by
  unfold RgOk
  exact ⟨by omega, by omega, by omega, by omega, by omega⟩
theorem nL_erase (l : List Nat) (j : Nat) : (nL l).eraseIdx j = nL (l.eraseIdx j) := by
  unfold nL nI
  rw [List.map_map, List.map_map]
  induction l generalizing j with
  | nil => rfl
  | cons a l ih =>
    cases j with
    | zero => rfl
    | succ j => show _ :: _ = _ :: _; exact congrArg _ (ih j)
/-! ### the relation by its last wire -/
theorem fold_mono : ∀ (ps : List (Nat × Nat)) (R : Rel) (i j : Nat), R i j = true → ps.foldl (fun R p => addW R p.1 p.2) R i j = true
  | [], _, _, _, h => h
  | p :: ps, R, i, j, h => fold_mono ps _ i j (addW_iff.mpr (.inl h))
theorem fold_wire : ∀ (ps : List (Nat × Nat)) (R : Rel) (p : Nat × Nat), p ∈ ps → ps.foldl (fun R p => addW R p.1 p.2) R p.1 p.2 = true
  | [], _, _, h => by cases h
  | q :: ps, R, p, h => by
    rcases List.mem_cons.mp h with e | h
    · rw [e]
      exact fold_mono ps _ _ _ (addW_iff.mpr (.inr ⟨.inl rfl, .inl rfl⟩))
    · exact fold_wire ps _ p h
theorem rel_last {ps : List (Nat × Nat)} {j i : Nat} : relOf ps j i = true ↔ ∃ u, (u, i) ∈ ps ∧ (j = u ∨ relOf ps j u = true) := by
  have key : ∀ (ps qs : List (Nat × Nat)) (R : Rel), (∀ j i, R j i = true → ∃ u, (u, i) ∈ qs ∧ (j = u ∨ R j u = true)) →
      ∀ j i, ps.foldl (fun R p => addW R p.1 p.2) R j i = true → ∃ u, (u, i) ∈ qs ++ ps ∧ (j = u ∨ ps.foldl (fun R p => addW R p.1 p.2) R j u = true) := by
    intro ps
    induction ps with
    | nil =>
      intro qs R h j i hr
      rw [List.append_nil]
      exact h j i hr
    | cons p ps ih =>
      intro qs R h j i hr
      have z := ih (qs ++ [p]) (addW R p.1 p.2) (fun j i h2 => ?_) j i hr
      · rw [List.append_assoc] at z
        exact z
      · rcases addW_iff.mp h2 with h3 | ⟨h3, h4⟩
        · obtain ⟨u, hu, e⟩ := h j i h3
          exact ⟨u, List.mem_append_left _ hu, e.imp id fun z => addW_iff.mpr (.inl z)⟩
        · rcases h4 with e | e
          · refine ⟨p.1, List.mem_append_right _ (by rw [e]; exact List.mem_cons_self), ?_⟩
            exact h3.imp id fun z => addW_iff.mpr (.inl z)
          · obtain ⟨u, hu, e2⟩ := h p.2 i e
            refine ⟨u, List.mem_append_left _ hu, .inr (addW_iff.mpr (.inr ⟨h3, ?_⟩))⟩
            exact e2.imp Eq.symm id
  constructor
  · intro h
    have z := key ps [] (fun _ _ => false) (fun j i h => by cases h) j i h
    rw [List.nil_append] at z
    exact z
  · rintro ⟨u, hu, e⟩
    have w : relOf ps u i = true := fold_wire ps _ (u, i) hu
    rcases e with e | e
    · rw [e]; exact w
    · exact relOf_trans ps _ _ _ e w
end Hue

end
section
set_option maxRecDepth 100000
namespace Hue
open PySem PySem.Spec PyProof.Rows L2
/-! ### moves -/
def lastI (h : Nat) (up : Bool) : Int := if up = true then (h : Int) - 1 else 0
def shI (up : Bool) : Int := if up = true then 1 else -1
def mayB (n h : Nat) (R : Rel) (S : List Int) (k : Nat) (careful up : Bool) : Bool :=
  !decide (at_ S k = lastI h up) && (!careful || (Bel n R k).all fun j => decide (at_ S j = lastI h up))
def stepL (n h : Nat) (R : Rel) (S : List Int) (k : Nat) (up : Bool) : List Int :=
  (List.range n).map fun j => if j = k then at_ S k + shI up else if R k j = true then (at_ S j + shI up) % (h : Int) else at_ S j
theorem at_map {n : Nat} {f : Nat → Int} {j : Nat} (h : j < n) : at_ ((List.range n).map f) j = f j := by
  unfold at_
  rw [List.getD_eq_getElem?_getD, List.getElem?_map, List.getElem?_range h]
  rfl
theorem st_ext {n : Nat} {f : Nat → Int} {L : List Int} (l : L.length = n) (h : ∀ j, j < n → at_ L j = f j) : L = (List.range n).map f := by
  refine List.ext_getElem? fun i => ?_
  rcases Nat.lt_or_ge i n with lt | ge
  · rw [List.getElem?_map, List.getElem?_range lt, List.getElem?_eq_getElem (by omega)]
    have z := h i lt
    unfold at_ at z
    rw [List.getD_eq_getElem?_getD, List.getElem?_eq_getElem (by omega)] at z
    exact congrArg some z
  · rw [List.getElem?_eq_none (by omega), List.getElem?_eq_none (by rw [List.length_map, List.length_range]; exact ge)]
theorem st_eq {n : Nat} {S T : List Int} (hS : S.length = n) (hT : T.length = n) (h : ∀ j, j < n → at_ S j = at_ T j) : S = T := by
  rw [st_ext (f := at_ T) hS h, ← st_ext (f := at_ T) hT fun j _ => rfl]
theorem stepL_len (n h : Nat) (R : Rel) (S : List Int) (k : Nat) (up : Bool) : (stepL n h R S k up).length = n := by unfold stepL; simp
theorem step_k {n h : Nat} {R : Rel} {S : List Int} {k : Nat} {up : Bool} (hk : k < n) : at_ (stepL n h R S k up) k = at_ S k + shI up := by
  unfold stepL; rw [at_map hk, if_pos rfl]
theorem step_b {n h : Nat} {R : Rel} {S : List Int} {k j : Nat} {up : Bool} (hj : j < n) (ne : j ≠ k) (r : R k j = true) : at_ (stepL n h R S k up) j = (at_ S j + shI up) % (h : Int) := by
  unfold stepL; rw [at_map hj, if_neg ne, if_pos r]
theorem step_o {n h : Nat} {R : Rel} {S : List Int} {k j : Nat} {up : Bool} (hj : j < n) (ne : j ≠ k) (r : ¬ R k j = true) : at_ (stepL n h R S k up) j = at_ S j := by
  unfold stepL; rw [at_map hj, if_neg ne, if_neg r]
theorem may_iff {n h : Nat} {R : Rel} {S : List Int} {k : Nat} {careful up : Bool} : mayB n h R S k careful up = true ↔ at_ S k ≠ lastI h up ∧ (careful = true → ∀ j, j < n → R k j = true → at_ S j = lastI h up) := by
  unfold mayB
  rw [Bool.and_eq_true, Bool.not_eq_true', decide_eq_false_iff_not, Bool.or_eq_true, Bool.not_eq_true', List.all_eq_true]
  constructor
  · rintro ⟨a, b⟩
    refine ⟨a, fun c j hj r => ?_⟩
    rcases b with b | b
    · rw [c] at b; cases b
    · exact of_decide_eq_true (b j (mem_Bel.mpr ⟨hj, r⟩))
  · rintro ⟨a, b⟩
    refine ⟨a, ?_⟩
    cases careful with
    | false => exact .inl rfl
    | true => exact .inr fun j hj => decide_eq_true (b rfl j (mem_Bel.mp hj).1 (mem_Bel.mp hj).2)
def Irr (R : Rel) : Prop := ∀ k, R k k = false
theorem Ranked.irr {R : Rel} (h : Ranked R) : Irr R := fun k => by
  obtain ⟨ρ, hρ⟩ := h
  cases e : R k k with
  | false => rfl
  | true => exact absurd (hρ k k e) (Nat.lt_irrefl _)
theorem stOk_of {n h : Nat} {L : List Int} (l : L.length = n) (b : ∀ j, j < n → 0 ≤ at_ L j ∧ at_ L j < (h : Int)) : StOk n h L := by
  refine ⟨l, fun z hz => ?_⟩
  obtain ⟨j, hj, e⟩ := List.getElem_of_mem hz
  have := b j (by omega)
  unfold at_ at this
  rw [List.getD_eq_getElem?_getD, List.getElem?_eq_getElem hj] at this
  rw [← e]; exact this
theorem step_ok {n h : Nat} {R : Rel} {S : List Int} {k : Nat} {careful up : Bool} (h2 : 2 ≤ h) (ok : StOk n h S) (hk : k < n) (m : mayB n h R S k careful up = true) : StOk n h (stepL n h R S k up) := by
  refine stOk_of (stepL_len ..) fun j hj => ?_
  have m1 := (may_iff.mp m).1
  have bk := ok.at hk
  have bj := ok.at hj
  rcases Nat.decEq j k with ne | e
  · rcases Classical.em (R k j = true) with r | r
    · rw [step_b hj ne r]
      exact ⟨Int.emod_nonneg _ (by omega), Int.emod_lt_of_pos _ (by omega)⟩
    · rw [step_o hj ne r]; exact bj
  · rw [e, step_k hk]
    unfold lastI at m1
    unfold shI
    cases up with
    | true => simp only [if_true] at m1 ⊢; omega
    | false => simp only [Bool.false_eq_true, if_false] at m1 ⊢; omega
/-! ### paths -/
def Next (n h : Nat) (R : Rel) (careful up : Bool) (S T : List Int) : Prop := ∃ k, k < n ∧ mayB n h R S k careful up = true ∧ T = stepL n h R S k up
inductive Rt (n h : Nat) (R : Rel) (careful up : Bool) : List Int → List Int → Prop
  | refl (S : List Int) : Rt n h R careful up S S
  | tail {S T U : List Int} (a : Rt n h R careful up S T) (b : Next n h R careful up T U) : Rt n h R careful up S U
theorem Rt.head {n h : Nat} {R : Rel} {careful up : Bool} {S T U : List Int} (a : Next n h R careful up S T) (b : Rt n h R careful up T U) : Rt n h R careful up S U := by
  induction b with
  | refl => exact .tail (.refl _) a
  | tail _ c ih => exact .tail ih c
theorem Rt.ok {n h : Nat} {R : Rel} {careful up : Bool} {S T : List Int} (h2 : 2 ≤ h) (ok : StOk n h S) (a : Rt n h R careful up S T) : StOk n h T := by
  induction a with
  | refl => exact ok
  | tail _ c ih =>
    obtain ⟨k, hk, m, rfl⟩ := c
    exact step_ok h2 ih hk m
/-! ### reaching is an order, and a move leads down -/
theorem Reach.refl (n : Nat) (R : Rel) (S : List Int) : Reach n R S S := fun k _ d => absurd rfl d
/-- of all that hold, one with the least rank -/
theorem least_rank {n : Nat} {p : Nat → Prop} (ρ : Nat → Nat) (h : ∃ k, k < n ∧ p k) : ∃ k, k < n ∧ p k ∧ ∀ j, j < n → p j → ρ k ≤ ρ j := by
  have key : ∀ m k, k < n → p k → ρ k ≤ m → ∃ k, k < n ∧ p k ∧ ∀ j, j < n → p j → ρ k ≤ ρ j := by
    intro m
    induction m with
    | zero => exact fun k hk hp h0 => ⟨k, hk, hp, fun j _ _ => by omega⟩
    | succ m ih =>
      intro k hk hp hm
      rcases Classical.em (∃ j, j < n ∧ p j ∧ ρ j < ρ k) with ⟨j, hj, pj, lt⟩ | none
      · exact ih j hj pj (by omega)
      · refine ⟨k, hk, hp, fun j hj pj => ?_⟩
        rcases Nat.lt_or_ge (ρ j) (ρ k) with z | z
        · exact absurd ⟨j, hj, pj, z⟩ none
        · exact z
  obtain ⟨k, hk, hp⟩ := h
  exact key (ρ k) k hk hp (Nat.le_refl _)
theorem Reach.trans {n : Nat} {R : Rel} (hR : Ranked R) (hT : Trans R) {S T U : List Int} (a : Reach n R S T) (b : Reach n R T U) : Reach n R S U := by
  obtain ⟨ρ, hρ⟩ := hR
  intro k hk d top
  have all : ∀ u, u < n → R u k = true → at_ S u = at_ T u := by
    intro u hu r
    rcases Classical.em (at_ S u = at_ T u) with e | ne
    · exact e
    · exfalso
      obtain ⟨v, hv, ⟨v1, v2⟩, v3⟩ := least_rank (n := n) (p := fun v => R v k = true ∧ at_ S v ≠ at_ T v) ρ ⟨u, hu, r, ne⟩
      have eqs : ∀ x, x < n → R x v = true → at_ S x = at_ T x := fun x hx rx => by
        rcases Classical.em (at_ S x = at_ T x) with e | nx
        · exact e
        · have := v3 x hx ⟨hT _ _ _ rx v1, nx⟩
          have := hρ x v rx
          omega
      have l1 := a v hv v2 eqs
      have sv := top v hv v1
      have l2 := b v hv (fun e => v2 (by rw [sv, e])) fun x hx rx => by
        rw [← eqs x hx rx]
        exact top x hx (hT _ _ _ rx v1)
      omega
  have all2 : ∀ u, u < n → R u k = true → at_ T u = at_ U u := fun u hu r => by rw [← all u hu r]; exact top u hu r
  rcases Classical.em (at_ S k = at_ T k) with e | ne
  · rw [e]
    exact b k hk (fun z => d (by rw [e, z])) all2
  · have l1 := a k hk ne all
    rcases Classical.em (at_ T k = at_ U k) with e2 | ne2
    · omega
    · have := b k hk ne2 all2
      omega
theorem next_reach {n h : Nat} {R : Rel} (irr : Irr R) {careful : Bool} {S T : List Int} (ok : StOk n h S) (a : Next n h R careful false S T) : Reach n R S T := by
  obtain ⟨k, hk, m, rfl⟩ := a
  intro j hj d top
  rcases Nat.decEq j k with ne | e
  · exfalso
    rcases Classical.em (R k j = true) with r | r
    · have := top k hk r
      rw [step_k hk] at this
      unfold shI at this
      simp only [Bool.false_eq_true, if_false] at this
      omega
    · exact d (step_o hj ne r).symm
  · rw [e, step_k hk]
    unfold shI
    simp only [Bool.false_eq_true, if_false]
    omega
theorem rt_reach {n h : Nat} {R : Rel} (h2 : 2 ≤ h) (hR : Ranked R) (hT : Trans R) {careful : Bool} {S T : List Int} (ok : StOk n h S) (a : Rt n h R careful false S T) : Reach n R S T := by
  induction a with
  | refl => exact Reach.refl n R _
  | tail b c ih => exact ih.trans hR hT (next_reach hR.irr (b.ok h2 ok) c)
theorem nodup_at' {l : List Nat} (nd : l.Nodup) {i j k : Nat} (h1 : l[i]? = some k) (h2 : l[j]? = some k) : i = j := by
  obtain ⟨a1, a2⟩ := List.getElem?_eq_some_iff.mp h1
  obtain ⟨b1, b2⟩ := List.getElem?_eq_some_iff.mp h2
  rcases Nat.lt_trichotomy i j with h | h | h
  · exact absurd (a2.trans b2.symm) (List.pairwise_iff_getElem.mp nd i j a1 b1 h)
  · exact h
  · exact absurd (b2.trans a2.symm) (List.pairwise_iff_getElem.mp nd j i b1 a1 h)
/-! ### a number that falls -/
def numF (h : Int) : Int → List Int → Int := fun a l => l.foldl (fun a z => a * h + z) a
theorem numF_lt {h : Int} (h0 : 0 < h) : ∀ (u v : List Int) (a b : Int), u.length = v.length → (∀ z ∈ u, z < h) → (∀ z ∈ v, 0 ≤ z) → a + 1 ≤ b → numF h a u < numF h b v
  | [], [], a, b, _, _, _, hab => by show a < b; omega
  | [], _ :: _, _, _, l, _, _, _ => by simp at l
  | _ :: _, [], _, _, l, _, _, _ => by simp at l
  | x :: u, y :: v, a, b, l, hu, hv, hab => by
    show numF h (a * h + x) u < numF h (b * h + y) v
    refine numF_lt h0 u v _ _ (by simpa using l) (fun z hz => hu z (List.mem_cons_of_mem _ hz)) (fun z hz => hv z (List.mem_cons_of_mem _ hz)) ?_
    have h1 := hu x List.mem_cons_self
    have h2 := hv y List.mem_cons_self
    have h3 : (a + 1) * h ≤ b * h := Int.mul_le_mul_of_nonneg_right hab (Int.le_of_lt h0)
    rw [Int.add_mul, Int.one_mul] at h3
    omega
theorem numF_nonneg {h : Int} (h0 : 0 < h) : ∀ (u : List Int) (a : Int), 0 ≤ a → (∀ z ∈ u, 0 ≤ z) → 0 ≤ numF h a u
  | [], a, ha, _ => ha
  | x :: u, a, ha, hu => numF_nonneg h0 u (a * h + x) (by
      have := hu x List.mem_cons_self
      have h3 : 0 ≤ a * h := Int.mul_nonneg ha (Int.le_of_lt h0)
      omega) fun z hz => hu z (List.mem_cons_of_mem _ hz)
def numS (n h : Nat) (R : Rel) (S : List Int) : Int := numF h 0 ((ordN n R n).map (at_ S))
theorem numS_nonneg {n h : Nat} {R : Rel} (hR : Ranked R) (h2 : 2 ≤ h) {S : List Int} (ok : StOk n h S) : 0 ≤ numS n h R S := by
  refine numF_nonneg (by omega) _ _ (Int.le_refl 0) fun z hz => ?_
  obtain ⟨k, hk, rfl⟩ := List.mem_map.mp hz
  exact (ok.at ((ordN_ok hR n (Nat.le_refl n)).2.lt k hk)).1
theorem numS_falls {n h : Nat} {R : Rel} (hR : Ranked R) (h2 : 2 ≤ h) {careful : Bool} {S T : List Int} (ok : StOk n h S) (a : Next n h R careful false S T) : numS n h R T < numS n h R S := by
  obtain ⟨k, hk, m, rfl⟩ := a
  have okT := step_ok h2 ok hk m
  obtain ⟨_, oo⟩ := ordN_ok hR n (Nat.le_refl n)
  obtain ⟨A, B, e⟩ := List.append_of_mem (ord_all hR hk)
  have pre : A.map (at_ (stepL n h R S k false)) = A.map (at_ S) := by
    refine List.map_congr_left fun j hj => ?_
    obtain ⟨q, hq, ej⟩ := List.getElem_of_mem hj
    have at1 : (ordN n R n)[q]? = some j := by rw [e, List.getElem?_append_left hq, List.getElem?_eq_getElem hq, ej]
    have jn := oo.lt j (List.mem_of_getElem? at1)
    have at2 : (ordN n R n)[A.length]? = some k := by rw [e, List.getElem?_append_right (Nat.le_refl _), Nat.sub_self]; rfl
    have ne : j ≠ k := fun z => by
      rw [z] at at1
      have := nodup_at' oo.nd at1 at2
      omega
    refine step_o jn ne fun r => ?_
    have mem := oo.up q j at1 k hk r
    obtain ⟨i, hi, ei⟩ := List.getElem_of_mem mem
    rw [List.length_take] at hi
    rw [List.getElem_take] at ei
    have at3 : (ordN n R n)[i]? = some k := by rw [List.getElem?_eq_getElem (by omega), ei]
    have := nodup_at' oo.nd at3 at2
    omega
  unfold numS
  rw [e, List.map_append, List.map_append, List.map_cons, List.map_cons, pre]
  unfold numF
  rw [List.foldl_append, List.foldl_append, List.foldl_cons, List.foldl_cons]
  refine numF_lt (h := h) (by omega) _ _ _ _ (by rw [List.length_map, List.length_map]) (fun z hz => ?_) (fun z hz => ?_) ?_
  · obtain ⟨j, hj, rfl⟩ := List.mem_map.mp hz
    exact (okT.at (oo.lt j (by rw [e]; exact List.mem_append_right _ (List.mem_cons_of_mem _ hj)))).2
  · obtain ⟨j, hj, rfl⟩ := List.mem_map.mp hz
    exact (ok.at (oo.lt j (by rw [e]; exact List.mem_append_right _ (List.mem_cons_of_mem _ hj)))).1
  · rw [step_k hk]
    unfold shI
    simp only [Bool.false_eq_true, if_false]
    omega
/-! ### a careful move on the way -/
theorem careful_step {n h : Nat} {R : Rel} (h2 : 2 ≤ h) (hR : Ranked R) (hT : Trans R) {S T : List Int} (okS : StOk n h S) (okT : StOk n h T) (a : Reach n R S T) (ne : S ≠ T) :
    ∃ U, Next n h R true false S U ∧ Reach n R U T := by
  obtain ⟨ρ, hρ⟩ := id hR
  have irr := hR.irr
  have diff : ∃ k, k < n ∧ at_ S k ≠ at_ T k := by
    rcases Classical.em (∃ k, k < n ∧ at_ S k ≠ at_ T k) with z | z
    · exact z
    · refine absurd (st_eq okS.1 okT.1 fun j hj => ?_) ne
      rcases Classical.em (at_ S j = at_ T j) with e | e
      · exact e
      · exact absurd ⟨j, hj, e⟩ z
  obtain ⟨t, ht, dt, mt⟩ := least_rank (n := n) (p := fun k => at_ S k ≠ at_ T k) ρ diff
  have topt : ∀ u, u < n → R u t = true → at_ S u = at_ T u := fun u hu r => by
    rcases Classical.em (at_ S u = at_ T u) with e | e
    · exact e
    · have := mt u hu e
      have := hρ u t r
      omega
  have lt_t := a t ht dt topt
  -- the lowest lit lamp at or beneath t
  have hN : ∃ N, ∀ k, k < n → ρ k ≤ N := by
    have key : ∀ m, ∃ N, ∀ k, k < m → ρ k ≤ N := by
      intro m
      induction m with
      | zero => exact ⟨0, fun k hk => by omega⟩
      | succ m ih =>
        obtain ⟨N, hN⟩ := ih
        refine ⟨N + ρ m, fun k hk => ?_⟩
        rcases Nat.lt_or_ge k m with z | z
        · have := hN k z; omega
        · have e : k = m := by omega
          rw [e]; omega
    exact key n
  obtain ⟨N, hN⟩ := hN
  have lit_t : at_ S t ≠ 0 := by
    have := (okT.at ht).1
    omega
  obtain ⟨l, hl, ⟨cone, lit⟩, low⟩ := least_rank (n := n) (p := fun k => (k = t ∨ R t k = true) ∧ at_ S k ≠ 0) (fun k => N - ρ k) ⟨t, ht, .inl rfl, lit_t⟩
  have inCone : ∀ j, R l j = true → R t j = true := fun j r => by
    rcases cone with e | e
    · rw [← e]; exact r
    · exact hT _ _ _ e r
  have dark : ∀ j, j < n → R l j = true → at_ S j = 0 := fun j hj r => by
    rcases Classical.em (at_ S j = 0) with e | e
    · exact e
    · have h1 := low j hj ⟨.inr (inCone j r), e⟩
      have h2 := hρ l j r
      have h3 := hN j hj
      omega
  have may : mayB n h R S l true false = true := may_iff.mpr ⟨by unfold lastI; simp only [Bool.false_eq_true, if_false]; exact lit, fun _ j hj r => by unfold lastI; simp only [Bool.false_eq_true, if_false]; exact dark j hj r⟩
  refine ⟨_, ⟨l, hl, may, rfl⟩, ?_⟩
  have sl : at_ (stepL n h R S l false) l = at_ S l - 1 := by
    rw [step_k hl]; unfold shI; simp only [Bool.false_eq_true, if_false]; omega
  have sb : ∀ j, j < n → R l j = true → at_ (stepL n h R S l false) j = (h : Int) - 1 := fun j hj r => by
    have nj : j ≠ l := fun z => by rw [z, irr l] at r; cases r
    rw [step_b hj nj r, dark j hj r]
    unfold shI
    simp only [Bool.false_eq_true, if_false]
    have : ((0 : Int) + -1) % (h : Int) = (h : Int) - 1 := by
      rw [show (0 : Int) + -1 = ((h : Int) - 1) + (h : Int) * (-1) by omega, Int.add_mul_emod_self_left]
      exact Int.emod_eq_of_lt (by omega) (by omega)
    exact this
  have so : ∀ j, j < n → j ≠ l → ¬ R l j = true → at_ (stepL n h R S l false) j = at_ S j := fun j hj nj r => step_o hj nj r
  intro k hk d top
  -- outside of the cone nothing changes, and the way stays
  have outside : k ≠ t → ¬ R t k = true → at_ T k < at_ (stepL n h R S l false) k := by
    intro kt rk
    have kl : k ≠ l := fun z => by
      rcases cone with e | e
      · exact kt (z.trans e)
      · rw [← z] at e; exact rk e
    have ek := so k hk kl fun r => rk (inCone k r)
    rw [ek] at d ⊢
    refine a k hk d fun u hu r => ?_
    have ut : u ≠ t := fun z => by rw [z] at r; exact rk r
    have ru : ¬ R t u = true := fun z => rk (hT _ _ _ z r)
    have ul : u ≠ l := fun z => by
      rcases cone with e | e
      · exact ut (z.trans e)
      · rw [← z] at e; exact ru e
    rw [← so u hu ul fun z => ru (inCone u z)]
    exact top u hu r
  rcases Nat.decEq l t with lt | lt
  · -- l is beneath t
    have Rtl : R t l = true := by
      rcases cone with e | e
      · exact absurd e lt
      · exact e
    have st : at_ (stepL n h R S l false) t = at_ S t := so t ht (fun z => lt z.symm) fun r => by
      have := inCone t r
      rw [irr t] at this; cases this
    rcases Nat.decEq k t with kt | kt
    · rcases Classical.em (R t k = true) with r | r
      · exfalso
        have := top t ht r
        rw [st] at this
        exact dt this
      · exact outside kt r
    · rw [kt, st]; exact lt_t
  · rcases Nat.decEq k t with kt | kt
    · rcases Classical.em (R t k = true) with r | r
      · rw [sb k hk (by rw [lt]; exact r)] at d ⊢
        have := (okT.at hk).2
        omega
      · exact outside kt r
    · rw [kt, ← lt, sl] at d ⊢
      rw [← lt] at lt_t
      omega
theorem reach_rt {n h : Nat} {R : Rel} (h2 : 2 ≤ h) (hR : Ranked R) (hT : Trans R) {T : List Int} (okT : StOk n h T) : ∀ (m : Nat) (S : List Int), (numS n h R S).toNat ≤ m → StOk n h S → Reach n R S T → Rt n h R true false S T := by
  intro m
  induction m with
  | zero =>
    intro S hm okS a
    rcases Classical.em (S = T) with e | ne
    · rw [e]; exact .refl _
    · exfalso
      obtain ⟨U, nx, _⟩ := careful_step h2 hR hT okS okT a ne
      have h1 := numS_falls hR h2 okS nx
      obtain ⟨k, hk, may, e⟩ := id nx
      have h3 := numS_nonneg (n := n) (h := h) hR h2 (S := U) (by rw [e]; exact step_ok h2 okS hk may)
      omega
  | succ m ih =>
    intro S hm okS a
    rcases Classical.em (S = T) with e | ne
    · rw [e]; exact .refl _
    · obtain ⟨U, nx, b⟩ := careful_step h2 hR hT okS okT a ne
      have h1 := numS_falls hR h2 okS nx
      obtain ⟨k, hk, may, e⟩ := id nx
      have okU : StOk n h U := by rw [e]; exact step_ok h2 okS hk may
      have h3 := numS_nonneg (n := n) (h := h) hR h2 okU
      exact .head nx (ih U (by omega) okU b)
theorem rt_free {n h : Nat} {R : Rel} {careful up : Bool} {S T : List Int} (a : Rt n h R true up S T) : Rt n h R careful up S T := by
  induction a with
  | refl => exact .refl _
  | tail _ c ih =>
    obtain ⟨k, hk, m, e⟩ := c
    refine .tail ih ⟨k, hk, may_iff.mpr ⟨(may_iff.mp m).1, fun _ => (may_iff.mp m).2 rfl⟩, e⟩
/-- by moves down, free or careful, exactly the reachable states are found -/
theorem rt_down {n h : Nat} {R : Rel} (h2 : 2 ≤ h) (hR : Ranked R) (hT : Trans R) {careful : Bool} {S T : List Int} (okS : StOk n h S) (okT : StOk n h T) : Rt n h R careful false S T ↔ Reach n R S T :=
  ⟨rt_reach h2 hR hT okS, fun a => rt_free (reach_rt h2 hR hT okT _ S (Nat.le_refl _) okS a)⟩
/-! ### moves up undo moves down -/
theorem emod_small {a h : Int} (h1 : 0 ≤ a) (h2 : a < h) : a % h = a := Int.emod_eq_of_lt h1 h2
theorem emod_wrap_up {h : Int} (h0 : 0 < h) : h % h = 0 := Int.emod_self
theorem up_down {a h : Int} (h2 : 2 ≤ h) (b : 0 ≤ a ∧ a < h) : ((a + 1) % h + -1) % h = a := by
  rcases Int.lt_trichotomy (a + 1) h with c | c | c
  · rw [emod_small (by omega) c, show a + 1 + -1 = a by omega, emod_small b.1 b.2]
  · rw [c, Int.emod_self, show (0 : Int) + -1 = (h - 1) + h * (-1) by omega, Int.add_mul_emod_self_left, emod_small (by omega) (by omega)]
    omega
  · omega
theorem down_up {a h : Int} (h2 : 2 ≤ h) (b : 0 ≤ a ∧ a < h) : ((a + -1) % h + 1) % h = a := by
  rcases Int.lt_trichotomy a 0 with c | c | c
  · omega
  · rw [c, show (0 : Int) + -1 = (h - 1) + h * (-1) by omega, Int.add_mul_emod_self_left, emod_small (a := h - 1) (by omega) (by omega), show h - 1 + 1 = h by omega, Int.emod_self]
  · rw [emod_small (a := a + -1) (by omega) (by omega), show a + -1 + 1 = a by omega, emod_small b.1 b.2]
theorem next_back {n h : Nat} {R : Rel} (h2 : 2 ≤ h) (irr : Irr R) {careful up : Bool} {S T : List Int} (okS : StOk n h S) (a : Next n h R careful up S T) : Next n h R careful (!up) T S := by
  obtain ⟨k, hk, m, rfl⟩ := a
  obtain ⟨m1, m2⟩ := may_iff.mp m
  have okT := step_ok h2 okS hk m
  have bk := okS.at hk
  refine ⟨k, hk, may_iff.mpr ⟨?_, fun c j hj r => ?_⟩, ?_⟩
  · rw [step_k hk]
    unfold lastI at m1 ⊢
    unfold shI
    cases up <;> simp only [if_true, Bool.false_eq_true, if_false, Bool.not_true, Bool.not_false] at m1 ⊢ <;> omega
  · have nj : j ≠ k := fun z => by rw [z, irr k] at r; cases r
    rw [step_b hj nj r, m2 c j hj r]
    unfold lastI shI
    cases up with
    | true =>
      simp only [if_true, Bool.not_true, Bool.false_eq_true, if_false]
      rw [show (h : Int) - 1 + 1 = h by omega, Int.emod_self]
    | false =>
      simp only [if_true, Bool.not_false, Bool.false_eq_true, if_false]
      rw [show (0 : Int) + -1 = ((h : Int) - 1) + (h : Int) * (-1) by omega, Int.add_mul_emod_self_left, emod_small (by omega) (by omega)]
  · refine st_eq okS.1 (stepL_len ..) fun j hj => ?_
    rcases Nat.decEq j k with nj | e
    · rcases Classical.em (R k j = true) with r | r
      · rw [step_b hj nj r, step_b hj nj r]
        have bj := okS.at hj
        unfold shI
        cases up with
        | true => simp only [if_true, Bool.not_true, Bool.false_eq_true, if_false]; exact (up_down (by omega) bj).symm
        | false => simp only [if_true, Bool.not_false, Bool.false_eq_true, if_false]; exact (down_up (by omega) bj).symm
      · rw [step_o hj nj r, step_o hj nj r]
    · rw [e, step_k hk, step_k hk]
      unfold shI
      cases up <;> simp only [if_true, Bool.false_eq_true, if_false, Bool.not_true, Bool.not_false] <;> omega
theorem rt_back {n h : Nat} {R : Rel} (h2 : 2 ≤ h) (irr : Irr R) {careful up : Bool} {S T : List Int} (okS : StOk n h S) (a : Rt n h R careful up S T) : Rt n h R careful (!up) T S := by
  induction a with
  | refl => exact .refl _
  | tail b c ih => exact .head (next_back h2 irr (b.ok h2 okS) c) ih
theorem rt_up {n h : Nat} {R : Rel} (h2 : 2 ≤ h) (hR : Ranked R) (hT : Trans R) {careful : Bool} {S T : List Int} (okS : StOk n h S) (okT : StOk n h T) : Rt n h R careful true S T ↔ Reach n R T S := by
  rw [← rt_down (careful := careful) h2 hR hT okT okS]
  exact ⟨fun a => rt_back h2 hR.irr okS a, fun a => rt_back h2 hR.irr okT a⟩
/-! ### how many states there are -/
def codeN (h : Nat) : Nat → List Int → Nat := fun a l => l.foldl (fun a z => a * h + z.toNat) a
theorem mul_add_inj {h a b x y : Nat} (hx : x < h) (hy : y < h) (e : a * h + x = b * h + y) : a = b ∧ x = y := by
  have e1 : (a * h + x) % h = x := by rw [Nat.mul_comm, Nat.mul_add_mod]; exact Nat.mod_eq_of_lt hx
  have e2 : (b * h + y) % h = y := by rw [Nat.mul_comm, Nat.mul_add_mod]; exact Nat.mod_eq_of_lt hy
  have exy : x = y := by rw [← e1, e, e2]
  refine ⟨?_, exy⟩
  have e3 : a * h = b * h := by omega
  exact Nat.eq_of_mul_eq_mul_right (by omega) e3
theorem code_inj {h : Nat} : ∀ (u v : List Int) (a b : Nat), u.length = v.length → (∀ z ∈ u, 0 ≤ z ∧ z < (h : Int)) → (∀ z ∈ v, 0 ≤ z ∧ z < (h : Int)) → codeN h a u = codeN h b v → a = b ∧ u = v
  | [], [], _, _, _, _, _, e => ⟨e, rfl⟩
  | [], _ :: _, _, _, l, _, _, _ => by simp at l
  | _ :: _, [], _, _, l, _, _, _ => by simp at l
  | x :: u, y :: v, a, b, l, hu, hv, e => by
    have bx := hu x List.mem_cons_self
    have by_ := hv y List.mem_cons_self
    obtain ⟨e1, e2⟩ := code_inj u v (a * h + x.toNat) (b * h + y.toNat) (by simpa using l) (fun z hz => hu z (List.mem_cons_of_mem _ hz)) (fun z hz => hv z (List.mem_cons_of_mem _ hz)) e
    obtain ⟨e3, e4⟩ := mul_add_inj (by omega) (by omega) e1
    exact ⟨e3, by rw [e2, show x = y by omega]⟩
theorem code_lt {h : Nat} : ∀ (u : List Int) (a : Nat), (∀ z ∈ u, 0 ≤ z ∧ z < (h : Int)) → codeN h a u < (a + 1) * h ^ u.length
  | [], a, _ => by show a < (a + 1) * 1; omega
  | x :: u, a, hu => by
    have bx := hu x List.mem_cons_self
    have ih := code_lt u (a * h + x.toNat) fun z hz => hu z (List.mem_cons_of_mem _ hz)
    refine Nat.lt_of_lt_of_le ih ?_
    rw [List.length_cons, Nat.pow_succ, Nat.mul_comm (h ^ u.length) h, ← Nat.mul_assoc]
    refine Nat.mul_le_mul_right _ ?_
    rw [Nat.add_mul, Nat.one_mul]
    omega
theorem nodup_map {α β : Type} {f : α → β} : ∀ {l : List α}, l.Nodup → (∀ x ∈ l, ∀ y ∈ l, f x = f y → x = y) → (l.map f).Nodup
  | [], _, _ => List.nodup_nil
  | a :: l, nd, inj => by
    obtain ⟨n1, n2⟩ := List.nodup_cons.mp nd
    rw [List.map_cons]
    refine List.nodup_cons.mpr ⟨fun hm => ?_, nodup_map n2 fun x hx y hy => inj x (List.mem_cons_of_mem _ hx) y (List.mem_cons_of_mem _ hy)⟩
    obtain ⟨b, hb, e⟩ := List.mem_map.mp hm
    have := inj b (List.mem_cons_of_mem _ hb) a List.mem_cons_self e
    rw [this] at hb
    exact n1 hb
theorem count_states {n h : Nat} {F : List (List Int)} (nd : F.Nodup) (ok : ∀ S ∈ F, StOk n h S) : F.length ≤ h ^ n := by
  have nd2 : (F.map (codeN h 0)).Nodup := nodup_map nd fun S hS T hT e => (code_inj S T 0 0 (by rw [(ok S hS).1, (ok T hT).1]) (ok S hS).2 (ok T hT).2 e).2
  have := nat_nodup_len _ (List.range (h ^ n)) nd2 fun x hx => by
    obtain ⟨S, hS, rfl⟩ := List.mem_map.mp hx
    have := code_lt S 0 (ok S hS).2
    rw [(ok S hS).1, Nat.zero_add, Nat.one_mul] at this
    exact List.mem_range.mpr this
  rwa [List.length_map, List.length_range] at this
/-- what is found and closed is all that is reached -/
theorem found_all {n h : Nat} {R : Rel} {careful up : Bool} {S0 : List Int} {F : List (List Int)} (m0 : S0 ∈ F) (snd : ∀ T ∈ F, Rt n h R careful up S0 T) (cl : ∀ T ∈ F, ∀ U, Next n h R careful up T U → U ∈ F) (T : List Int) :
    T ∈ F ↔ Rt n h R careful up S0 T := by
  refine ⟨snd T, fun a => ?_⟩
  induction a with
  | refl => exact m0
  | tail _ c ih => exact cl _ ih _ c
/-! ### the dict of what is found -/
def dk (S : List Int) : List Key := S.map Sum.inl
theorem dk_V (S : List Int) : (dk S).map kV = stV S := by
  unfold dk stV
  rw [List.map_map]
  rfl
theorem dk_inj : ∀ {S T : List Int}, dk S = dk T → S = T
  | [], [], _ => rfl
  | [], _ :: _, h => by cases h
  | _ :: _, [], h => by cases h
  | a :: S, b :: T, h => by
    have h1 : (Sum.inl a : Key) :: dk S = Sum.inl b :: dk T := h
    injection h1 with h2 h3
    injection h2 with h2
    rw [h2, dk_inj h3]
def fdict (F : List (List Int)) : List (List Key × V) := F.map fun S => (dk S, V.bl true)
theorem val_f {F : List (List Int)} {S : List Int} : (valV (fdict F) (dk S)).isSome = decide (S ∈ F) := by
  rw [← valV_any]
  unfold fdict
  rw [List.any_map, Bool.eq_iff_iff, List.any_eq_true, decide_eq_true_eq]
  constructor
  · rintro ⟨T, hT, e⟩
    rw [← dk_inj (of_decide_eq_true e)]
    exact hT
  · exact fun hS => ⟨S, hS, decide_eq_true rfl⟩
theorem put_f {F : List (List Int)} {S : List Int} (hS : S ∉ F) : putK (fdict F) (dk S) (V.bl true) = fdict (F ++ [S]) := by
  have e : ((fdict F).any fun kv => decide (kv.1 = dk S)) = false := by
    have z := val_f (F := F) (S := S)
    rw [← valV_any, decide_eq_false hS] at z
    exact z
  unfold putK
  rw [e, if_neg Bool.false_ne_true]
  unfold fdict
  rw [List.map_append]
  rfl
end Hue

end
section
set_option maxRecDepth 100000
namespace Hue
open PySem PySem.Spec PyProof.Rows L2
/-! ### reaching: antisymmetric, turned about by the mirror, from the bright state, to the dark one -/
theorem Reach.anti {n : Nat} {R : Rel} (hR : Ranked R) {S T : List Int} (hS : S.length = n) (hT : T.length = n) (a : Reach n R S T) (b : Reach n R T S) : S = T := by
  obtain ⟨ρ, hρ⟩ := hR
  refine st_eq hS hT fun j hj => Classical.byContradiction fun ne => ?_
  obtain ⟨k, hk, d, least⟩ := least_rank (n := n) (p := fun j => at_ S j ≠ at_ T j) ρ ⟨j, hj, ne⟩
  have top : ∀ u, u < n → R u k = true → at_ S u = at_ T u := fun u hu r => Classical.byContradiction fun d2 => by
    have := least u hu d2
    have := hρ u k r
    omega
  have l1 := a k hk d top
  have l2 := b k hk (fun z => d z.symm) fun u hu r => (top u hu r).symm
  omega
/-- the mirror of a state -/
def mir (h : Nat) (S : List Int) : List Int := S.map fun z => (h : Int) - 1 - z
theorem mir_len (h : Nat) (S : List Int) : (mir h S).length = S.length := List.length_map ..
theorem mir_at {h : Nat} {S : List Int} {k : Nat} (hk : k < S.length) : at_ (mir h S) k = (h : Int) - 1 - at_ S k := by
  unfold at_ mir
  rw [List.getD_eq_getElem?_getD, List.getD_eq_getElem?_getD, List.getElem?_map, List.getElem?_eq_getElem hk]
  rfl
theorem mir_ok {n h : Nat} {S : List Int} (ok : StOk n h S) : StOk n h (mir h S) := by
  refine ⟨(mir_len h S).trans ok.1, fun z hz => ?_⟩
  obtain ⟨y, hy, rfl⟩ := List.mem_map.mp hz
  have := ok.2 y hy
  omega
theorem mir_reach {n h : Nat} {R : Rel} {S T : List Int} (hS : S.length = n) (hT : T.length = n) : Reach n R (mir h T) (mir h S) ↔ Reach n R S T := by
  have m1 : ∀ k, k < n → at_ (mir h S) k = (h : Int) - 1 - at_ S k := fun k hk => mir_at (by omega)
  have m2 : ∀ k, k < n → at_ (mir h T) k = (h : Int) - 1 - at_ T k := fun k hk => mir_at (by omega)
  constructor
  · intro r k hk d top
    have := r k hk (by rw [m1 k hk, m2 k hk]; omega) fun u hu ru => by rw [m1 u hu, m2 u hu, top u hu ru]
    rw [m1 k hk, m2 k hk] at this
    omega
  · intro r k hk d top
    rw [m1 k hk, m2 k hk] at d ⊢
    have := r k hk (by omega) fun u hu ru => by
      have := top u hu ru
      rw [m1 u hu, m2 u hu] at this
      omega
    omega
theorem at_rep {n k : Nat} {z : Int} (hk : k < n) : at_ (List.replicate n z) k = z := by
  unfold at_
  rw [List.getD_eq_getElem?_getD, List.getElem?_replicate, if_pos hk]
  rfl
theorem rep_ok {n h : Nat} {z : Int} (h0 : 0 ≤ z) (h1 : z < (h : Int)) : StOk n h (List.replicate n z) :=
  ⟨List.length_replicate, fun y hy => by rw [(List.mem_replicate.mp hy).2]; exact ⟨h0, h1⟩⟩
theorem dark_reach {n h : Nat} {R : Rel} {S : List Int} (ok : StOk n h S) : Reach n R S (List.replicate n 0) := fun k hk d _ => by
  rw [at_rep hk] at d ⊢
  have := ok.at hk
  omega
theorem bright_reach {n h : Nat} {R : Rel} {T : List Int} (ok : StOk n h T) : Reach n R (List.replicate n ((h : Int) - 1)) T := fun k hk d _ => by
  rw [at_rep hk] at d ⊢
  have := ok.at hk
  omega
/-- brighter at a lamp with the same hues above it -/
theorem lifted_not {n : Nat} {R : Rel} {S T : List Int} {k : Nat} (hk : k < n) (lt : at_ S k < at_ T k) (top : ∀ u, u < n → R u k = true → at_ S u = at_ T u) : ¬ Reach n R S T := fun r => by
  have := r k hk (by omega) top
  omega
end Hue

end
section
set_option maxRecDepth 100000
namespace L2
open PySem PySem.Spec PyProof.Rows
/-! ### states by == and != -/
section
variable {X : Cx}
theorem hu_eqD (K : PySem.W.Frag) (hu : X.A.units + 64 < cLine) (hK : X.K = K := by rfl) : OpR X (compareOp .Eq) (rEqD K) := by subst hK; exact op_eqD hu
theorem hu_neD (K : PySem.W.Frag) (hu : X.A.units + 64 < cLine) (hK : X.K = K := by rfl) : OpR X (compareOp .NotEq) (rNeD K) := by subst hK; exact op_neD hu
end
end L2
namespace Hue
open PySem PySem.Spec PyProof.Rows L2
/-- a state as plain data -/
def stD (S : List Int) : PyData := .tuple (S.map .int)
theorem ints_dp {K : PySem.W.Frag} {H : Hp} : ∀ S : List Int, DpAll K H (stV S) (S.map .int)
  | [] => .nil
  | z :: S => .cons (.int z) (ints_dp S)
theorem st_dp {K : PySem.W.Frag} {H : Hp} {a : Addr} {S : List Int} (h : H a = some (.tup (stV S))) : Dp K H (.ref a) (stD S) := .tup (SqT.of h) (ints_dp S)
theorem ints_lay : ∀ S : List Int, PyData.canLayAll0 (S.map .int) = true
  | [] => by simp [PyData.canLayAll0]
  | z :: S => by simp [PyData.canLayAll0, PyData.canLay0, ints_lay S]
theorem ints_deep : ∀ S : List Int, PyData.depthAll (S.map .int) ≤ 1
  | [] => by simp [PyData.depthAll]
  | z :: S => by
    have := ints_deep S
    simp only [List.map_cons, PyData.depthAll, PyData.depth]
    omega
theorem st_shaped (S : List Int) : SeqAt.shaped (stD S) = true := by
  have h1 := ints_deep S
  have h2 : PyData.depth (stD S) ≤ 64 := by
    simp only [stD, PyData.depth]
    omega
  show (PyData.canLay0 (stD S) && decide (PyData.depth (stD S) ≤ 64)) = true
  rw [decide_eq_true h2, Bool.and_true]
  show PyData.canLay0 (.tuple (S.map .int)) = true
  simp only [PyData.canLay0]
  exact ints_lay S
theorem ints_eqv : ∀ S T : List Int, PyData.eqvAll (S.map .int) (T.map .int) = decide (S = T)
  | [], [] => by simp [PyData.eqvAll]
  | [], _ :: _ => by simp [PyData.eqvAll]
  | _ :: _, [] => by simp [PyData.eqvAll]
  | z :: S, y :: T => by
    simp only [List.map_cons, PyData.eqvAll, PyData.eqv, ints_eqv S T]
    by_cases e : z = y
    · by_cases e2 : S = T
      · simp [e, e2]
      · simp [e, e2]
    · simp [e]
theorem st_eqv (S T : List Int) : PyData.eqv (stD S) (stD T) = decide (S = T) := by
  simp only [stD, PyData.eqv]
  exact ints_eqv S T
end Hue

end
section
set_option maxRecDepth 100000
namespace L2
open PySem PySem.Spec PyProof.Rows
/-! ### a def with one keyword-only parameter, which is False if it lacks -/
structure KwCal (P : Program) (w : World) (K : PySem.W.Frag) (mg : Str → Option Value) (base : Heap) (x : Str) (k n : Nat) (nm : Str) (sp : Sp) : Prop where
  ex : ∃ (f : Addr) (fd : FuncData) (ps : List Str), FnOk P w K mg base CX0 k f fd ps sp ∧ mg x = some (.ref f) ∧ PySem.W.keepIn K (.ref f) = true ∧ (∃ ds, Vals [V.bl false] ds ∧ Binds K fd ps ds) ∧
    KBn K fd ps n [nm] (fun us ws => us ++ ws) (fun vs zs => vs ++ zs)
section
variable {X : Cx} {e : Expr} {es : List Expr} {t tk : TA} {x nm : Str} {k n : Nat} {sp : Sp} {p pos : Pos} {kws : List Keyword}
/-- without it -/
def tKw0 (sp : Sp) (t : TA) : TE := fun σ H Q => t σ H fun vs H1 => sp (vs ++ [V.bl false]) H1 Q E0
/-- with it -/
def tKw1 (n : Nat) (sp : Sp) (t : TA) (tk : TA) : TE := fun σ H Q => t σ H fun vs H1 => tk σ H1 fun zs H2 => vs.length = n ∧ zs.length = 1 ∧ sp (vs ++ zs) H2 Q E0
theorem pe_kw0 (c : KwCal X.prog X.w X.K X.mg X.base x k n nm sp) (hr : Room k X.A) (ha : PA X (e :: es) t) (hg : Gl X x := by rfl) (hdb : (x == ("__debug__" : Str)) = false := by decide)
    (he : starEach (e :: es) X.env = (false, eval e X.env) :: starEach es X.env := by rfl) (hpl : (backTo pos (starEach es X.env)).any (·.1) = false := by rfl) :
    PE X (.Call (.Name x p) (e :: es) [] pos) (tKw0 sp t) := by
  obtain ⟨f, fd, ps, F, hm, hk, ⟨ds, hd, hb⟩, _⟩ := c.ex
  exact (pe_call F hr hg hm hk hb hd pass0 ha hdb he hpl).to fun σ H Q q => q
theorem pe_kw1 (c : KwCal X.prog X.w X.K X.mg X.base x k n nm sp) (hr : Room k X.A) (ha : PA X (e :: es) t) (hkw : PK X kws tk) (hg : Gl X x := by rfl)
    (hall : (backToKw pos (keywordEach kws X.env)).all (·.1.isSome) = true := by rfl) (hks : (backToKw pos (keywordEach kws X.env)).filterMap (·.1) = [nm] := by rfl)
    (hdb : (x == ("__debug__" : Str)) = false := by decide) (he : starEach (e :: es) X.env = (false, eval e X.env) :: starEach es X.env := by rfl)
    (hpl : ((backTo pos (starEach (e :: es) X.env)).any (·.1) || (backToKw pos (keywordEach kws X.env)).any (·.1.isNone)) = false := by rfl) :
    PE X (.Call (.Name x p) (e :: es) kws pos) (tKw1 n sp t tk) := by
  obtain ⟨f, fd, ps, F, hm, hk, _, hb⟩ := c.ex
  exact (pe_callN F hr hg hm hk hb pass0 ha hkw hall hks hdb he hpl).to fun σ H Q q => q
end
end L2

end
section
set_option maxRecDepth 100000
namespace L2
open PySem PySem.Spec PyProof.Rows
/-! ### a call that knows nothing of one list leaves that list as it is, and builds nothing upon it -/
section
variable {P : Program} {w : World} {K : PySem.W.Frag} {mg : Str → Option Value} {base : Heap} {k : Nat} {f : Addr} {fd : FuncData} {ps : List Str}
/-- H without what stands at b -/
def hide (H : Hp) (b : Addr) : Hp := fun a => if a = b then none else H a
theorem hide_same {H : Hp} {b : Addr} : hide H b b = none := if_pos rfl
theorem hide_ne {H : Hp} {a b : Addr} (h : a ≠ b) : hide H b a = H a := if_neg h
theorem hide_some {H : Hp} {a b : Addr} {o : HO} (h : hide H b a = some o) : a ≠ b ∧ H a = some o := by
  have ne : a ≠ b := fun e => by
    rw [e, hide_same] at h
    cases h
  exact ⟨ne, (hide_ne (H := H) ne).symm.trans h⟩
/-- an object asks of the others for tuples and for the dicts of instances alone -/
theorem objOk_swap {H H2 : Hp} {h : Heap} {a : Addr} (tups : ∀ c xs, H c = some (.tup xs) → H2 c = some (.tup xs)) (owns : ∀ c x, H c = some (.own x) → H2 c = some (.own x)) : ∀ o : HO, ObjOk P w H h a o → ObjOk P w H2 h a o
  | .lst _, k => k
  | .tup _, k => k
  | .dK _, k => k
  | .dT _, ⟨l, s, xs, p, r⟩ => ⟨l, s, xs, by
    clear r
    induction p with
    | nil => exact .nil
    | cons e _ ih => exact .cons ⟨e.1, tups _ _ e.2.1, e.2.2⟩ (ih (Nat.le_of_succ_le l)), r⟩
  | .set _ _, k => k
  | .ins _ _ _, ⟨d, r⟩ => ⟨owns _ _ d, r⟩
  | .own _, k => k
  | .xd _, k => k
  | .met _ _, k => k
  | .rng _ _, k => k
  | .frz _ u, ⟨d, r⟩ => ⟨d, objOk_swap tups owns u r⟩
  | .tbl _, k => k
  | .ext _, k => k
theorem hOk_hide {H : Hp} {h : Heap} {b : Addr} {xs : List V} (hb : H b = some (.lst xs)) (k : HOk P w H h) : HOk P w (hide H b) h := fun a o ha =>
  objOk_swap (fun c ys e => by rw [hide_ne (ne_of e hb (by intro z; cases z))]; exact e) (fun c x e => by rw [hide_ne (ne_of e hb (by intro z; cases z))]; exact e) o (k a o (hide_some ha).2)
theorem env0_hide {A : Around} {outer : List Env} {s : Shared} {H : Hp} {b : Addr} {xs : List V} (hb : H b = some (.lst xs)) (e : Env0 P w K mg base A outer s H) : Env0 P w K mg base A outer s (hide H b) where
  frames := e.frames
  mod := e.mod
  bs := fun c o q => ⟨(e.bs c o q).1, by
    by_cases z : c = b
    · rw [z, hide_same]
    · rw [hide_ne z]; exact (e.bs c o q).2⟩
  bsz := e.bsz
  funs := e.funs
  frf := fun c hc => by
    by_cases z : c = b
    · rw [z, hide_same]
    · rw [hide_ne z]; exact e.frf c hc
  hok := hOk_hide hb e.hok
  bare := e.bare
/-- a spec, asked of the heap without the list at b -/
def Off (sp : Sp) : Sp := fun vs H Q E => ∃ (b : Addr) (xs : List V), H b = some (.lst xs) ∧ sp vs (hide H b) (fun v H' => H' b = none → Q v (upd H' b (.lst xs))) E
theorem FnOk.off {sp : Sp} (F : FnOk P w K mg base CX0 k f fd ps sp) : FnOk P w K mg base CX0 k f fd ps (Off sp) where
  len := fun vs H Q E ⟨b, xs, _, h⟩ => F.len _ _ _ _ h
  run := fun A outer s H args us vs Q E hr he hb hv ⟨b, xs, hbx, hs⟩ => by
    refine codeAny_mono (F.run A outer s (hide H b) args us vs _ E hr (env0_hide hbx he) hb hv hs) fun r s' hq => ?_
    cases r with
    | error e => exact hq
    | ok fl =>
      cases fl with
      | ret u =>
        obtain ⟨v, H', ho, hg, un, hok, rv, q⟩ := hq
        obtain ⟨hl, its, n, vv, hget⟩ := he.hok b _ hbx
        have nf : b ∉ frs outer := fun z => by
          rw [he.frf b z] at hbx
          cases hbx
        have kept := un.keep b _ hget hide_same nf List.not_mem_nil
        have gone := un.free b _ hget hide_same List.not_mem_nil
        have off : ∀ {c : Addr}, H c = none → c ≠ b ∧ hide H b c = none := fun {c} e => by
          have ne : c ≠ b := fun z => by rw [z, hbx] at e; cases e
          exact ⟨ne, by rw [hide_ne ne]; exact e⟩
        refine ⟨v, upd H' b (.lst xs), ho, hg, ⟨fun c o q n => un.keep c o q (off n).2, fun c o q n => un.slot c o q (off n).2, fun c o q n x => ?_, un.there, fun c ys e => ?_, fun c o u e => ?_, fun c ys e => ?_⟩, fun a o ha => ?_, rv, q gone⟩
        · rw [upd_ne (off n).1]
          exact un.free c o q (off n).2 x
        · have ne : c ≠ b := ne_of e hbx (by intro z; cases z)
          rw [upd_ne ne]
          exact un.tups c ys (by rw [hide_ne ne]; exact e)
        · have ne : c ≠ b := ne_of e hbx (by intro z; cases z)
          rw [upd_ne ne]
          exact un.frzs c o u (by rw [hide_ne ne]; exact e)
        · have ne : c ≠ b := ne_of e hbx (by intro z; cases z)
          obtain ⟨more, m⟩ := un.tbls c ys (by rw [hide_ne ne]; exact e)
          exact ⟨more, by rw [upd_ne ne]; exact m⟩
        · by_cases z : a = b
          · subst z
            rw [upd_same] at ha
            cases ha
            exact ⟨hl, its, n, vv, kept⟩
          · rw [upd_ne z] at ha
            have keepH : ∀ c o, H' c = some o → upd H' b (.lst xs) c = some o := fun c o e => by
              rw [upd_ne (ne_of_none e gone)]
              exact e
            exact objOk_swap (fun c ys e => keepH c _ e) (fun c x e => keepH c _ e) o (hok a o ha)
      | next => exact hq
      | brk => exact hq
      | cont => exact hq
end
end L2

end
section
set_option maxRecDepth 100000
namespace Hue
open PySem PySem.Spec PyProof.Rows L2
/-! ### the text by places -/
def top (i : Nat) : Stmt := PySem.Challenge.pw_huefall_k09_states_before.main.body.getD i (.Pass ⟨0, 0, 0, 0⟩)
/-- what the top has left: the class, the built-ins' names -/
structure Txt (K : PySem.W.Frag) (mg : Str → Option Value) (C : Addr) : Prop where
  cl : Cls K C
  nCount : NoAttr K C "count"
  nHues : NoAttr K C "hues"
  nBen : NoAttr K C "_beneath"
  nWires : NoAttr K C "wires"
  nAbove : NoAttr K C "_above"
  nDirect : NoAttr K C "_direct"
  nOrder : NoAttr K C "_order"
  mgC : mg "House" = some (.ref C)
  con : ∃ mc, ClX.CRead K C mc ∧ (∃ u, ClX.CVal K C mc "MOST_LAMPS" (.int 16) u) ∧ ∃ u, ClX.CVal K C mc "MOST_HUES" (.int 10) u
  len : mg "len" = none
  range : mg "range" = none
  isinstance : mg "isinstance" = none
  int : mg "int" = none
  bool : mg "bool" = none
  tuple : mg "tuple" = none
  list : mg "list" = none
  set : mg "set" = none
  enumerate : mg "enumerate" = none
  sorted : mg "sorted" = none
  min : mg "min" = none
  all : mg "all" = none
  any : mg "any" = none
  abs : mg "abs" = none
  reversed : mg "reversed" = none
  max : mg "max" = none
section
variable {P : Program} {w : World} {K : PySem.W.Frag} {mg : Str → Option Value} {base : Heap} {C : Addr}
/-! ### whole numbers -/
abbrev s_is_whole : Stmt := top 10
theorem sc_is_whole : FnScope ["value"] ["value"] (defScope s_is_whole) := ⟨rfl, rfl, rfl, by decide +kernel, rfl, by decide +kernel, by decide +kernel⟩
-- slots of is_whole: 0 value
def spWhole : Sp := fun vs H Q _ => ∃ i, vs = [.int i] ∧ Q (.bl true) H
theorem ok_is_whole (T : Txt K mg C) {f : Addr} {fd : FuncData} (F : Fun K "is_whole" "is_whole" s_is_whole f fd) : FnOk P w K mg base CX0 1 f fd ["value"] spWhole := by
  refine F.ok sc_is_whole (fun vs H Q E h => ?_) (fun cdv A outer s H vs Q E hr h => ?_)
  · obtain ⟨i, rfl, _⟩ := h; rfl
  · obtain ⟨i, rfl, q⟩ := h
    refine ⟨_, (pss_one (ps_ret (pe_and (pe_callB (isi_ K) (by rfl) T.isinstance b_isinstance (pa_cons (pv 0) (pa_cons (pe_bltn (v := .ty "int") (by rfl) T.int b_int rfl) pa_nil))) (pe_one (pe_not (pe_callB (isi_ K) (by rfl) T.isinstance b_isinstance (pa_cons (pv 0) (pa_cons (pe_bltn (v := .ty "bool") (by rfl) T.bool b_bool rfl) pa_nil)))))))), ?_⟩
    refine ⟨_, rfl, _, _, _, _, true, rfl, .ty _, .base (.int i), kit_ty (by decide +kernel), true, rfl, iteT ?_⟩
    exact ⟨_, rfl, _, _, _, _, false, rfl, .ty _, .base (.int i), kit_ty (by decide +kernel), false, rfl, q⟩
abbrev s_is_whole_in : Stmt := top 11
theorem sc_is_whole_in : FnScope ["value", "low", "high"] ["value", "low", "high"] (defScope s_is_whole_in) := ⟨rfl, rfl, rfl, by decide +kernel, rfl, by decide +kernel, by decide +kernel⟩
-- slots of is_whole_in: 0 value, 1 low, 2 high
def spWholeIn : Sp := fun vs H Q _ => ∃ v lo hi, vs = [.int v, .int lo, .int hi] ∧ Q (.bl (decide (lo ≤ v) && decide (v ≤ hi))) H
theorem ok_is_whole_in (T : Txt K mg C) {f : Addr} {fd : FuncData} (F : Fun K "is_whole_in" "is_whole_in" s_is_whole_in f fd) (c_is_whole : Cal P w K mg base "is_whole" 1 spWhole) : FnOk P w K mg base CX0 2 f fd ["value", "low", "high"] spWholeIn := by
  refine F.ok sc_is_whole_in (fun vs H Q E h => ?_) (fun cdv A outer s H vs Q E hr h => ?_)
  · obtain ⟨v, lo, hi, rfl, _⟩ := h; rfl
  · obtain ⟨v, lo, hi, rfl, q⟩ := h
    refine ⟨_, (pss_one (ps_ret (pe_and (pe_cal c_is_whole (hr.mono (by decide)) (pa_cons (pv 0) pa_nil)) (pe_one (pe_chain op_le op_le (pv 1) (pv 0) (pv 2)))))), ?_⟩
    refine ⟨_, rfl, v, rfl, true, rfl, iteT ?_⟩
    refine ⟨_, rfl, _, rfl, _, _, rfl, rfl, _, rfl, ?_⟩
    refine ite2 (fun h1 => ?_) (fun h1 => ?_)
    · refine ⟨_, rfl, _, _, rfl, rfl, ?_⟩
      rw [h1, Bool.true_and] at q
      exact q
    · rw [Bool.eq_false_iff.mpr h1, Bool.false_and] at q
      exact q
/-! ### the checks of a house's parts -/
abbrev s_check_count : Stmt := top 16
theorem sc_check_count : FnScope ["count"] ["count"] (defScope s_check_count) := ⟨rfl, rfl, rfl, by decide +kernel, rfl, by decide +kernel, by decide +kernel⟩
-- slots of check_count: 0 count
def spCheckCount : Sp := fun vs H Q _ => ∃ c : Int, vs = [.int c] ∧ 1 ≤ c ∧ c ≤ 16 ∧ Q .non H
theorem ok_check_count (T : Txt K mg C) {f : Addr} {fd : FuncData} (F : Fun K "check_count" "check_count" s_check_count f fd) (c_is_whole_in : Cal P w K mg base "is_whole_in" 2 spWholeIn) : FnOk P w K mg base CX0 3 f fd ["count"] spCheckCount := by
  refine F.ok sc_check_count (fun vs H Q E h => ?_) (fun cdv A outer s H vs Q E hr h => ?_)
  · obtain ⟨c, rfl, _⟩ := h; rfl
  · obtain ⟨c, rfl, h1, h2, q⟩ := h
    obtain ⟨mc, rd, ⟨u, cv⟩, _⟩ := T.con
    refine ⟨_, (pss_one (ps_if (pt_not (pt_val (pe_cal c_is_whole_in (hr.mono (by decide)) (pa_cons (pv 0) (pa_cons pe_int (pa_cons (cval_ K (pe_glob (v := .ref C) (by rfl) T.mgC rfl)) pa_nil))))))
      pss_never pss_nil)), ?_⟩
    refine ⟨_, rfl, C, mc, _, _, rfl, rd, cv, c, 1, 16, rfl, _, rfl, ifF ?_ q⟩
    rw [decide_eq_true h1, decide_eq_true h2] <;> rfl
abbrev s_check_hues : Stmt := top 17
theorem sc_check_hues : FnScope ["hues"] ["hues"] (defScope s_check_hues) := ⟨rfl, rfl, rfl, by decide +kernel, rfl, by decide +kernel, by decide +kernel⟩
-- slots of check_hues: 0 hues
def spCheckHues : Sp := fun vs H Q _ => ∃ c : Int, vs = [.int c] ∧ 2 ≤ c ∧ c ≤ 10 ∧ Q .non H
theorem ok_check_hues (T : Txt K mg C) {f : Addr} {fd : FuncData} (F : Fun K "check_hues" "check_hues" s_check_hues f fd) (c_is_whole_in : Cal P w K mg base "is_whole_in" 2 spWholeIn) : FnOk P w K mg base CX0 3 f fd ["hues"] spCheckHues := by
  refine F.ok sc_check_hues (fun vs H Q E h => ?_) (fun cdv A outer s H vs Q E hr h => ?_)
  · obtain ⟨c, rfl, _⟩ := h; rfl
  · obtain ⟨c, rfl, h1, h2, q⟩ := h
    obtain ⟨mc, rd, _, ⟨u, cv⟩⟩ := T.con
    refine ⟨_, (pss_one (ps_if (pt_not (pt_val (pe_cal c_is_whole_in (hr.mono (by decide)) (pa_cons (pv 0) (pa_cons pe_int (pa_cons (cval_ K (pe_glob (v := .ref C) (by rfl) T.mgC rfl)) pa_nil))))))
      pss_never pss_nil)), ?_⟩
    refine ⟨_, rfl, C, mc, _, _, rfl, rd, cv, c, 2, 10, rfl, _, rfl, ifF ?_ q⟩
    rw [decide_eq_true h1, decide_eq_true h2] <;> rfl
abbrev s_is_wire : Stmt := top 18
theorem sc_is_wire : FnScope ["count", "value", "upper", "lower"] ["count", "value"] (defScope s_is_wire) := ⟨rfl, rfl, rfl, by decide +kernel, rfl, by decide +kernel, by decide +kernel⟩
-- slots of is_wire: 0 count, 1 value, 2 upper, 3 lower
def spIsWire : Sp := fun vs H Q _ => ∃ (c u l : Int) (t : Addr), vs = [.int c, .ref t] ∧ H t = some (.tup [.int u, .int l]) ∧ 0 ≤ u ∧ u < c ∧ 0 ≤ l ∧ l < c ∧ u ≠ l ∧ Q (.bl true) H
theorem ok_is_wire (T : Txt K mg C) {f : Addr} {fd : FuncData} (F : Fun K "is_wire" "is_wire" s_is_wire f fd) (c_is_whole_in : Cal P w K mg base "is_whole_in" 2 spWholeIn) : FnOk P w K mg base CX0 3 f fd ["count", "value"] spIsWire := by
  refine F.ok sc_is_wire (fun vs H Q E h => ?_) (fun cdv A outer s H vs Q E hr h => ?_)
  · obtain ⟨c, u, l, t, rfl, _⟩ := h; rfl
  · obtain ⟨c, u, l, t, rfl, ht, u0, u1, l0, l1, ne, q⟩ := h
    refine ⟨_, (pss_cons (ps_if (PW.pt (pw_or (pt_not (pt_val (pe_callB (isi_ K) (by rfl) T.isinstance b_isinstance (pa_cons (pv 1) (pa_cons (pe_bltn (v := .ty "tuple") (by rfl) T.tuple b_tuple rfl) pa_nil))))) (pw_or1 (pt_cmpR op_ne (pe_callB (lenS_ K) (by rfl) T.len b_len (pa_cons (pv 1) pa_nil)) pe_int (nomark _)))))
      (pss_one (ps_ret pe_bl)) pss_nil)
      (pss_cons (ps_asg (pv 1) (pg_tup (by rfl) (pgs_cons (pg_name (i := 2) sc_is_wire.nd rfl (by first | exact Or.inl rfl | exact Or.inr rfl)) (pgs_cons (pg_name (i := 3) sc_is_wire.nd rfl (by first | exact Or.inl rfl | exact Or.inr rfl)) pgs_nil))))
      (pss_one (ps_ret (pe_and (pe_cal c_is_whole_in (hr.mono (by decide)) (pa_cons (pv 2) (pa_cons pe_int (pa_cons (pe_op op_sub (pv 0) pe_int) pa_nil)))) (pe_and (pe_cal c_is_whole_in (hr.mono (by decide)) (pa_cons (pv 3) (pa_cons pe_int (pa_cons (pe_op op_sub (pv 0) pe_int) pa_nil)))) (pe_one (pe_cmpR op_ne (pv 2) (pv 3) (nomark _))))))))), ?_⟩
    refine ⟨_, rfl, _, _, _, _, true, rfl, .ty _, .base (.tup ht), kit_ty (by decide +kernel), true, rfl, iteF ?_⟩
    refine ⟨_, rfl, t, _, rfl, .inr (SqT.of ht), rfl, _, rfl, iteNS rfl ?_⟩
    refine ⟨_, rfl, t, _, rfl, SqT.of ht, rfl, _, _, rfl, _, _, rfl, rfl, ?_⟩
    refine ⟨_, rfl, _, rfl, _, _, rfl, rfl, u, 0, c - 1, rfl, _, rfl, ifT (by rw [decide_eq_true u0, decide_eq_true (by omega : u ≤ c - 1)] <;> rfl) ?_⟩
    refine ⟨_, rfl, _, rfl, _, _, rfl, rfl, l, 0, c - 1, rfl, _, rfl, ifT (by rw [decide_eq_true l0, decide_eq_true (by omega : l ≤ c - 1)] <;> rfl) ?_⟩
    refine ⟨_, rfl, _, rfl, rfl, ?_⟩
    have e : decide (V.int u = V.int l) = false := decide_eq_false fun z => ne (by injection z)
    rw [e]
    exact q
/-! ### the lamps beneath -/
abbrev s_with_wire : Stmt := top 20
theorem sc_with_wire : FnScope ["beneath", "upper", "lower", "gained", "lamp", "lamps"] ["beneath", "upper", "lower"] (defScope s_with_wire) := ⟨rfl, rfl, rfl, by decide +kernel, rfl, by decide +kernel, by decide +kernel⟩
-- slots of with_wire: 0 beneath, 1 upper, 2 lower, 3 gained, 4 lamp, 5 lamps
def spWithWire : Sp := fun vs H Q _ => ∃ (b : Addr) (n u l : Nat) (R : Rel), vs = [.ref b, .int u, .int l] ∧ n ≤ 16 ∧ u < n ∧ l < n ∧ Rows H b (relRows n R) ∧
  ∀ (H' : Hp) (p : Addr), Same H H' → Rows H' p (relRows n (addW R u l)) → Q (.ref p) H'
theorem ok_with_wire (T : Txt K mg C) {f : Addr} {fd : FuncData} (F : Fun K "with_wire" "with_wire" s_with_wire f fd) : FnOk P w K mg base CX0 1 f fd ["beneath", "upper", "lower"] spWithWire := by
  refine F.ok sc_with_wire (fun vs H Q E h => ?_) (fun cdv A outer s H vs Q E hr h => ?_)
  · obtain ⟨b, n, u, l, R, rfl, _⟩ := h; rfl
  · obtain ⟨b, n, u, l, R, rfl, hn, hu, hl, rw0, q⟩ := h
    obtain ⟨xs, al, hb, hxs, hal, hL⟩ := rw0.at (relRows_at (R := R) hl)
    refine ⟨_, (pss_cons (ps_set (i := 3) sc_with_wire.nd rfl (by first | exact Or.inl rfl | exact Or.inr rfl) (pe_lst (pa_cons (pv 2) (star_ K (pe_ix (ixL_ K) (pv 0) (pv 2) (fun _ _ => rfl)) pa_nil))))
      (pss_one (ps_ret (pe_lc (own := [("lamp", 4), ("lamps", 5)]) (g := gTup K 2 (gCons (gName 4) (gCons (gName 5) gNil))) (tt := tYes) rfl sc_with_wire.nd (pi_enum (by rfl) T.enumerate (pa_cons (pv 0) pa_nil)) (blkOk_by (by kernel_rfl)) (fun _ _ _ _ _ => (pg_tup (by rfl) (pgs_cons (pg_name (i := 4) sc_with_wire.nd rfl (by first | exact Or.inl rfl | exact Or.inr rfl)) (pgs_cons (pg_name (i := 5) sc_with_wire.nd rfl (by first | exact Or.inl rfl | exact Or.inr rfl)) pgs_nil)))) (fun _ _ _ _ _ => pts_nil) (fun _ _ _ _ _ => (pe_ifExp (PW.pt (pw_or (pt_cmpR op_eq (pv 4) (pv 1) (nomark _)) (pw_or1 (pt_cmpR (inS_ K) (pv 1) (pv 5) (by rfl))))) (pe_callB (sortedSet_ w rfl) (by rfl) T.sorted b_sorted (pa_cons (pe_callTy (setL_ K w rfl) (by rfl) T.set b_set (pa_cons (pe_op op_cat (pv 5) (pv 3)) pa_nil)) pa_nil)) (pv 5))))))), ?_⟩
    -- gained = [lower, *beneath[lower]]
    refine ⟨_, rfl, _, rfl, _, rfl, b, xs, _, _, rfl, rfl, SqL.of hb, atI_nat hal, al, _, rfl, .inr (SqL.of hL), ?_, fun g hg => ?_⟩
    · have := Bel_len n R l
      rw [List.length_cons, List.length_append, nL_len, List.length_nil, sizeLine_eq]
      omega
    have eg : (V.int (l : Int) :: (nL (Bel n R l) ++ [])) = nL (l :: Bel n R l) := by rw [List.append_nil]; rfl
    rw [eg]
    have s1 : Same H (upd H g (.lst (nL (l :: Bel n R l)))) := same_new hg
    have hg1 : (upd H g (.lst (nL (l :: Bel n R l)))) g = some (.lst (nL (l :: Bel n R l))) := upd_same
    generalize upd H g (.lst (nL (l :: Bel n R l))) = H1 at s1 hg1 ⊢
    have rw1 := rw0.same s1
    obtain ⟨as0, hb1, las0, hrow⟩ := id rw1
    rw [relRows_len] at las0
    refine ⟨_, rfl, b, as0.map V.ref, rfl, SqL.of hb1, fun D hD => lc_it walk_enum (fun i H2 => ∃ as : List Addr, H2 D = some (.lst (as.map V.ref)) ∧ as.length = i ∧ Same H1 H2 ∧ ∀ (j : Nat) a, as[j]? = some a → a ≠ D ∧ H2 a = some (.lst (nL (Bel n (addW R u l) j))))
      ⟨[], upd_same, rfl, same_new hD, fun j a e => by simp at e⟩ (fun i H2 _ ⟨_, _, _, s2, _⟩ => SqL.of (s2 _ _ hb1)) ?_ ?_⟩
    · rintro i x H2 H3 hi ⟨as, h1, h2, s2, h3⟩ ⟨t, x1, y, rfl, ht, rfl, e1, e2⟩
      cases e1
      rw [List.length_map, las0] at hi
      obtain ⟨a, ha, rfl⟩ : ∃ a, as0[i]? = some a ∧ y = V.ref a := by
        have e3 : (as0.map V.ref)[i]? = some y := e2
        rw [List.getElem?_map] at e3
        obtain ⟨a, h, e⟩ := Option.map_eq_some_iff.mp e3
        exact ⟨a, h, e.symm⟩
      have hrow_i := hrow i a _ ha (relRows_at hi)
      have hz : as.length < sizeLine := by rw [h2, sizeLine_eq]; omega
      have nDt : D ≠ t := ne_of_none h1 ht
      have s3 : Same H1 (upd H2 t (.tup [.int (i : Int), .ref a])) := same_then s2 ht
      have h1' : (upd H2 t (.tup [.int (i : Int), .ref a])) D = some (.lst (as.map V.ref)) := by rw [upd_ne nDt]; exact h1
      have h3' : ∀ (j : Nat) c, as[j]? = some c → c ≠ D ∧ (upd H2 t (.tup [.int (i : Int), .ref a])) c = some (.lst (nL (Bel n (addW R u l) j))) := fun j c e => ⟨(h3 j c e).1, by rw [upd_ne (ne_of_none (h3 j c e).2 ht)]; exact (h3 j c e).2⟩
      have htt : (upd H2 t (.tup [.int (i : Int), .ref a])) t = some (.tup [.int (i : Int), .ref a]) := upd_same
      generalize upd H2 t (.tup [.int (i : Int), .ref a]) = H3 at s3 h1' h3' htt ⊢
      refine ⟨t, _, rfl, SqT.of htt, rfl, _, _, rfl, _, _, rfl, rfl, rfl, yesT ?_⟩
      -- what a turn ends with
      have fin : ∀ (H4 : Hp) (c : Addr), Same H3 H4 → c ≠ D → H4 c = some (.lst (nL (Bel n (addW R u l) i))) → ∃ acc, H4 D = some (.lst acc) ∧ acc.length < sizeLine ∧
          ∃ as : List Addr, (upd H4 D (.lst (acc ++ [V.ref c]))) D = some (.lst (as.map V.ref)) ∧ as.length = i + 1 ∧ Same H1 (upd H4 D (.lst (acc ++ [V.ref c]))) ∧ ∀ (j : Nat) a, as[j]? = some a → a ≠ D ∧ (upd H4 D (.lst (acc ++ [V.ref c]))) a = some (.lst (nL (Bel n (addW R u l) j))) := by
        intro H4 c s4 nc hc
        refine ⟨_, s4 _ _ h1', by rw [List.length_map]; exact hz, as ++ [c], by rw [upd_same, List.map_append]; rfl, by rw [List.length_append, h2]; rfl, same_upd (s3.trans s4) hD, fun j c2 e => ?_⟩
        rcases Nat.lt_or_ge j as.length with lt | ge
        · rw [List.getElem?_append_left lt] at e
          obtain ⟨n1, n2⟩ := h3' j c2 e
          exact ⟨n1, by rw [upd_ne n1]; exact s4 _ _ n2⟩
        · rw [List.getElem?_append_right ge] at e
          have j0 : j - as.length = 0 := by
            rcases Nat.eq_zero_or_pos (j - as.length) with z | z
            · exact z
            · rw [List.getElem?_eq_none (by rw [List.length_singleton]; exact z)] at e; cases e
          rw [j0] at e
          cases e
          have ji : j = i := by omega
          rw [ji]
          exact ⟨nc, by rw [upd_ne nc]; exact hc⟩
      -- the new row
      have grow : (i = u ∨ R i u = true) → tCB (rSortedSet w) (tCons (tCB (rHuSetL K w) (tCons (tOp rCat (tVar 5) (tVar 3)) tNil)) tNil)
          [some (.ref b), some (.int u), some (.int l), some (.ref g), some (.int (i : Int)), some (.ref a)] H3 fun y H4 => ∃ acc, H4 D = some (.lst acc) ∧ acc.length < sizeLine ∧
          ∃ as : List Addr, (upd H4 D (.lst (acc ++ [y]))) D = some (.lst (as.map V.ref)) ∧ as.length = i + 1 ∧ Same H1 (upd H4 D (.lst (acc ++ [y]))) ∧ ∀ (j : Nat) a, as[j]? = some a → a ≠ D ∧ (upd H4 D (.lst (acc ++ [y]))) a = some (.lst (nL (Bel n (addW R u l) j))) := by
        intro hcond
        have b1 := Bel_len n R i
        have b2 := Bel_len n R l
        refine ⟨_, rfl, _, rfl, a, g, _, _, rfl, rfl, s3 _ _ hrow_i, s3 _ _ hg1, ?_, fun c hc => ?_⟩
        · rw [nL_len, nL_len, List.length_cons, sizeLine_eq]; omega
        refine ⟨c, nI (Bel n R i ++ l :: Bel n R l), rfl, SqL.of (by rw [upd_same, ← nL_app]; rfl), by rw [nI_len, List.length_append, List.length_cons]; omega, fun d k hd hk => ?_⟩
        refine ⟨d, _, k, rfl, upd_same, ?_, fun ns p asc mem _ hp => ?_⟩
        · rw [nI_len, List.length_append, List.length_cons] at hk; omega
        have ens : ns = nI (Bel n (addW R u l) i) := by
          refine asc_ext asc (Bel_asc ..) fun z => ?_
          rw [mem, decide_eq_true_eq, mem_nI, mem_nI]
          constructor
          · rintro ⟨m, hm, rfl⟩
            refine ⟨m, mem_Bel.mpr ?_, rfl⟩
            unfold addW
            rcases List.mem_append.mp hm with hm | hm
            · obtain ⟨m1, m2⟩ := mem_Bel.mp hm
              exact ⟨m1, by rw [m2, Bool.true_or]⟩
            · have c1 : (i == u || R i u) = true := by
                rcases hcond with e | e
                · rw [e]; simp
                · rw [e, Bool.or_true]
              rcases List.mem_cons.mp hm with e | hm
              · rw [e, c1]; exact ⟨hl, by simp⟩
              · obtain ⟨m1, m2⟩ := mem_Bel.mp hm
                exact ⟨m1, by rw [c1, m2]; simp⟩
          · rintro ⟨m, hm, rfl⟩
            refine ⟨m, ?_, rfl⟩
            obtain ⟨m1, m2⟩ := mem_Bel.mp hm
            unfold addW at m2
            rw [Bool.or_eq_true, Bool.and_eq_true, Bool.or_eq_true, Bool.or_eq_true, beq_iff_eq, beq_iff_eq] at m2
            rcases m2 with e | ⟨_, e | e⟩
            · exact List.mem_append_left _ (mem_Bel.mpr ⟨m1, e⟩)
            · exact List.mem_append_right _ (by rw [e]; exact List.mem_cons_self)
            · exact List.mem_append_right _ (List.mem_cons_of_mem _ (mem_Bel.mpr ⟨m1, e⟩))
        have s4 := ((same_new (o := .lst (nL (Bel n R i) ++ nL (l :: Bel n R l))) hc).trans (same_new (o := SetO w d (fun j => decide (j ∈ nI (Bel n R i ++ l :: Bel n R l))) k) hd)).trans (same_new (o := .lst (ns.map V.int)) hp)
        refine fin _ p s4 ?_ (by rw [upd_same, ens]; rfl)
        intro e
        have z := (((same_new (o := .lst (nL (Bel n R i) ++ nL (l :: Bel n R l))) hc).trans (same_new (o := SetO w d (fun j => decide (j ∈ nI (Bel n R i ++ l :: Bel n R l))) k) hd)) _ _ h1')
        rw [← e, hp] at z
        cases z
      refine ⟨_, rfl, _, rfl, rfl, _, rfl, ?_⟩
      refine ite2 (fun he => ?_) (fun hne => ?_)
      · have e0 : i = u := by
          have z := of_decide_eq_true he
          injection z with z
          omega
        exact iteT (grow (.inl e0))
      · refine ⟨_, rfl, _, rfl, a, _, rfl, .inl (SqL.of (s3 _ _ hrow_i)), rfl, flat_nL _, _, rfl, ?_⟩
        have nu : ¬ i = u := fun z => hne (by rw [z]; exact decide_eq_true rfl)
        show if (inV (V.int (u : Int)) (nL (Bel n R i))) = true then _ else _
        rw [in_nL]
        refine ite2 (fun he => ?_) (fun hne2 => ?_)
        · exact grow (.inr (mem_Bel.mp (of_decide_eq_true he)).2)
        · refine ⟨_, rfl, fin H3 a (Same.refl _) (fun z => ?_) ?_⟩
          · have q1 := hrow_i
            rw [z, hD] at q1
            cases q1
          · rw [s3 _ _ hrow_i]
            have nR : R i u = false := by
              cases e : R i u with
              | false => rfl
              | true => exact absurd (decide_eq_true (mem_Bel.mpr ⟨hu, e⟩)) hne2
            rw [Bel_congr (S := addW R u l) (i := i) fun j _ => ?_]
            unfold addW
            rw [nR, Bool.or_false, beq_eq_false_iff_ne.mpr nu, Bool.false_and, Bool.or_false]
    · rintro H2 ⟨as, h1, h2, s2, h3⟩
      rw [List.length_map, las0] at h2
      refine q H2 D (s1.trans s2) ⟨as, h1, by rw [h2, relRows_len], fun i a r ha hr => ?_⟩
      have hi : i < n := by rw [← h2]; exact (List.getElem?_eq_some_iff.mp ha).1
      rw [relRows_at hi] at hr
      cases hr
      exact (h3 i a ha).2
abbrev s_lamps_beneath : Stmt := top 19
theorem sc_lamps_beneath : FnScope ["count", "wires", "beneath", "_", "earlier", "index", "wire", "upper", "lower"] ["count", "wires"] (defScope s_lamps_beneath) := ⟨rfl, rfl, rfl, by decide +kernel, rfl, by decide +kernel, by decide +kernel⟩
-- slots of lamps_beneath: 0 count, 1 wires, 2 beneath, 3 _, 4 earlier, 5 index, 6 wire, 7 upper, 8 lower
/-- at a: a list of the tuples ts, which are the pairs ps: wires down a rank -/
def Wires (K : PySem.W.Frag) (H : Hp) (a : Addr) (n : Nat) (ps : List (Nat × Nat)) : Prop :=
  (∃ ts : List Addr, SqA K H a (ts.map V.ref) ∧ Pairs H ts ps) ∧ ps.Nodup ∧ ps.length < 4900 ∧ (∀ p ∈ ps, p.1 < n ∧ p.2 < n) ∧ ∃ ρ : Nat → Nat, ∀ p ∈ ps, ρ p.1 < ρ p.2
def spLampsBeneath (K : PySem.W.Frag) : Sp := fun vs H Q _ => ∃ (a : Addr) (n : Nat) (ps : List (Nat × Nat)), vs = [.int n, .ref a] ∧ n ≤ 16 ∧ Wires K H a n ps ∧
  ∀ (H' : Hp) (p : Addr), Same H H' → Rows H' p (relRows n (relOf ps)) → Q (.ref p) H'
theorem ok_lamps_beneath (T : Txt K mg C) {f : Addr} {fd : FuncData} (F : Fun K "lamps_beneath" "lamps_beneath" s_lamps_beneath f fd) (c_is_wire : Cal P w K mg base "is_wire" 3 spIsWire) (c_with_wire : Cal P w K mg base "with_wire" 1 spWithWire) : FnOk P w K mg base CX0 4 f fd ["count", "wires"] (spLampsBeneath K) := by
  refine F.ok sc_lamps_beneath (fun vs H Q E h => ?_) (fun cdv A outer s H vs Q E hr h => ?_)
  · obtain ⟨a, n, ps, rfl, _⟩ := h; rfl
  · obtain ⟨a, n, ps, rfl, hn, ⟨⟨ts, ha, hps⟩, nd, few, lt, ρ, rank⟩, q⟩ := h
    refine ⟨_, (pss_cons (ps_setLc (i := 2) (own := [("_", 3)]) (g := gName 3) (tt := tYes) rfl sc_lamps_beneath.nd rfl rfl (sw_true rfl rfl rfl (by kernel_rfl)) (pi_range1 (by rfl) T.range (pa_cons (pv 0) pa_nil)) (blkOk_by (by kernel_rfl)) (fun _ _ _ _ _ => (pg_name (i := 3) sc_lamps_beneath.nd rfl (by first | exact Or.inl rfl | exact Or.inr rfl))) (fun _ _ _ _ _ => pts_nil) (fun _ _ _ _ _ => (pe_lst pa_nil)))
      (pss_cons (ps_set (i := 4) sc_lamps_beneath.nd rfl (by first | exact Or.inl rfl | exact Or.inr rfl) (pe_callTy0 cr_b0 (by rfl) T.set b_set))
      (pss_cons (ps_for PassesOwn.never rfl (piA_ K (by rfl) T.enumerate (pa_cons (pv 1) pa_nil)) (pg_tup (by rfl) (pgs_cons (pg_name (i := 5) sc_lamps_beneath.nd rfl (by first | exact Or.inl rfl | exact Or.inr rfl)) (pgs_cons (pg_name (i := 6) sc_lamps_beneath.nd rfl (by first | exact Or.inl rfl | exact Or.inr rfl)) pgs_nil)))
      (pss_cons (ps_if (pt_not (pt_val (pe_cal c_is_wire (hr.mono (by decide)) (pa_cons (pv 0) (pa_cons (pv 6) pa_nil)))))
      pss_never pss_nil)
      (pss_cons (ps_if (pt_cmpR (bIn_ P w hr.units) (pv 6) (pv 4) (by rfl))
      pss_never pss_nil)
      (pss_cons (ps_asg (pv 6) (pg_tup (by rfl) (pgs_cons (pg_name (i := 7) sc_lamps_beneath.nd rfl (by first | exact Or.inl rfl | exact Or.inr rfl)) (pgs_cons (pg_name (i := 8) sc_lamps_beneath.nd rfl (by first | exact Or.inl rfl | exact Or.inr rfl)) pgs_nil))))
      (pss_cons (ps_if (pt_cmpR (inS_ K) (pv 7) (pe_ix (ixL_ K) (pv 2) (pv 8) (fun _ _ => rfl)) (by rfl))
      pss_never pss_nil)
      (pss_cons (ps_expr (pe_bAdd hr.units (pv 4) (pa_cons (pv 6) pa_nil)))
      (pss_one (ps_set (i := 2) sc_lamps_beneath.nd rfl (by first | exact Or.inl rfl | exact Or.inr rfl) (pe_cal c_with_wire (hr.mono (by decide)) (pa_cons (pv 2) (pa_cons (pv 7) (pa_cons (pv 8) pa_nil))))))))))))
      (pss_one (ps_ret (pv 2)))))), ?_⟩
    -- beneath = [[] for _ in range(count)]
    refine ⟨_, rfl, _, rfl, by omega, by omega, fun D hD => ?_⟩
    rw [Int.toNat_natCast]
    refine lc_range (fun i H2 => ∃ as : List Addr, H2 D = some (.lst (as.map V.ref)) ∧ as.length = i ∧ Same H H2 ∧ ∀ (j : Nat) a, as[j]? = some a → a ≠ D ∧ H2 a = some (.lst []))
      ⟨[], upd_same, rfl, same_new hD, fun j a e => by simp at e⟩ ?_ ?_
    · rintro i H2 hi ⟨as, h1, h2, s2, h3⟩
      refine ⟨rfl, yesT ⟨by decide, fun p hp => ?_⟩⟩
      have nDp : D ≠ p := ne_of_none h1 hp
      refine ⟨_, by rw [upd_ne nDp]; exact h1, by rw [List.length_map, h2, sizeLine_eq]; omega, as ++ [p], by rw [upd_same, List.map_append]; rfl, by rw [List.length_append, h2]; rfl, same_upd (same_then s2 hp) hD, fun j c e => ?_⟩
      rcases Nat.lt_or_ge j as.length with l | g
      · rw [List.getElem?_append_left l] at e
        obtain ⟨n1, n2⟩ := h3 j c e
        exact ⟨n1, by rw [upd_ne n1, upd_ne (ne_of_none n2 hp)]; exact n2⟩
      · rw [List.getElem?_append_right g] at e
        have j0 : j - as.length = 0 := by
          rcases Nat.eq_zero_or_pos (j - as.length) with z | z
          · exact z
          · rw [List.getElem?_eq_none (by rw [List.length_singleton]; exact z)] at e; cases e
        rw [j0] at e
        cases e
        exact ⟨nDp.symm, by rw [upd_ne nDp.symm, upd_same]⟩
    rintro H1 ⟨as, h1, h2, s1, h3⟩
    have rows1 : Rows H1 D (relRows n fun _ _ => false) := ⟨as, h1, by rw [h2, relRows_len], fun i a r hi hr => by
      have il : i < n := by rw [← h2]; exact (List.getElem?_eq_some_iff.mp hi).1
      rw [relRows_at il] at hr
      cases hr
      have e0 : Bel n (fun _ _ => false) i = [] := by unfold Bel; simp
      rw [e0]
      exact (h3 i a hi).2⟩
    -- earlier = set()
    refine ⟨rfl, fun e he => ?_⟩
    have s2 : Same H (upd H1 e (BigHO P w e [])) := same_then s1 he
    have h0e : H e = Option.none := s1.free he
    refine ⟨_, rfl, a, ts.map V.ref, rfl, ?_⟩
    refine for_enumA ha s2 (fun i σ H2 => ∃ (b : Addr) (L : List (Addr × List Int)) (v5 v6 v7 v8 : Option V), σ = [some (.int n), some (.ref a), some (.ref b), Option.none, some (.ref e), v5, v6, v7, v8] ∧ Same H H2 ∧
        Rows H2 b (relRows n (relOf (ps.take i))) ∧ HasB K P w H2 e L ∧ L.length = i ∧ ∀ k, k ∈ L.map (·.2) → ∃ p ∈ ps.take i, k = [(p.1 : Int), (p.2 : Int)])
      ⟨D, [], _, _, _, _, rfl, s2, rows1.same (same_new he), ⟨upd_same, fun p hp => by cases hp⟩, rfl, fun k hk => by cases hk⟩ (fun i σ H2 _ ⟨_, _, _, _, _, _, _, s, _⟩ => s) ?_ ?_
    · rintro i x σ H2 H3 hi ⟨b, L, v5, v6, v7, v8, rfl, s3, rows, hasT, lenL, memL⟩ ⟨tp, x1, y, rfl, htp, rfl, e1, e2⟩
      cases e1
      rw [List.length_map] at hi
      have e3 : (ts.map V.ref)[i]? = some y := e2
      rw [List.getElem?_map] at e3
      obtain ⟨t, ht, rfl⟩ := Option.map_eq_some_iff.mp e3
      have hip : i < ps.length := by rw [← hps.1]; exact hi
      obtain ⟨p, hp⟩ : ∃ p, ps[i]? = some p := ⟨_, List.getElem?_eq_getElem hip⟩
      have pmem : p ∈ ps := List.mem_of_getElem? hp
      obtain ⟨plt1, plt2⟩ := lt p pmem
      have prank := rank p pmem
      have tup0 : H t = some (.tup [.int (p.1 : Int), .int (p.2 : Int)]) := hps.2 i t p ht hp
      have s4 : Same H2 (upd H2 tp (.tup [.int (i : Int), .ref t])) := same_new htp
      have rows4 := rows.same s4
      have hasT4 : HasB K P w (upd H2 tp (.tup [.int (i : Int), .ref t])) e L := ⟨s4 _ _ hasT.1, fun q hq => Same.tup s4 (hasT.2 q hq)⟩
      have s5 := s3.trans s4
      have htt : (upd H2 tp (.tup [.int (i : Int), .ref t])) tp = some (.tup [.int (i : Int), .ref t]) := upd_same
      generalize upd H2 tp (.tup [.int (i : Int), .ref t]) = H4 at s4 rows4 hasT4 s5 htt ⊢
      have tup4 := s5 _ _ tup0
      have new : [(p.1 : Int), (p.2 : Int)] ∉ L.map (·.2) := by
        intro z
        obtain ⟨p2, m2, e⟩ := memL _ z
        injection e with z1 z2
        injection z2 with z2 _
        have ep : p2 = p := by
          obtain ⟨a1, a2⟩ := p
          obtain ⟨b1, b2⟩ := p2
          simp only at z1 z2
          rw [Prod.mk.injEq]
          omega
        rw [ep] at m2
        obtain ⟨j, hj, ej⟩ := List.getElem_of_mem m2
        rw [List.length_take] at hj
        rw [List.getElem_take] at ej
        have ei : ps[i] = p := by
          have z := List.getElem?_eq_getElem hip
          rw [hp] at z
          exact (Option.some.inj z).symm
        exact absurd (ej.trans ei.symm) (List.pairwise_iff_getElem.mp nd j i (by omega) hip (by omega))
      refine ⟨tp, _, rfl, SqT.of htt, rfl, _, _, rfl, _, _, rfl, rfl, ?_⟩
      refine ⟨_, rfl, _, rfl, n, p.1, p.2, t, rfl, tup4, by omega, by omega, by omega, by omega, fun z => ?_, true, rfl, iteF ?_⟩
      · have : p.1 = p.2 := by omega
        rw [this] at prank
        exact Nat.lt_irrefl _ prank
      refine ⟨_, rfl, _, rfl, t, e, [(p.1 : Int), (p.2 : Int)], L, rfl, rfl, SqT.of tup4, hasT4, _, rfl, ifF (decide_eq_false new) ?_⟩
      refine ⟨_, rfl, t, _, rfl, SqT.of tup4, rfl, _, _, rfl, _, _, rfl, rfl, ?_⟩
      obtain ⟨xs, al, hb, _, hal, hL⟩ := rows4.at (relRows_at (R := relOf (ps.take i)) plt2)
      refine ⟨_, rfl, _, rfl, _, rfl, b, xs, _, _, rfl, rfl, SqL.of hb, atI_nat hal, al, _, rfl, .inl (SqL.of hL), rfl, flat_nL _, _, rfl, ?_⟩
      refine ifF ?_ ?_
      · show inV (V.int (p.1 : Int)) (nL (Bel n (relOf (ps.take i)) p.2)) = false
        rw [in_nL, decide_eq_false_iff_not]
        intro z
        have r1 := relOf_rank (ρ := ρ) (ps := ps.take i) (fun q hq => rank q (List.mem_of_mem_take hq)) _ _ (mem_Bel.mp z).2
        omega
      refine ⟨_, rfl, ⟨e, L, rfl, hasT4.1⟩, _, rfl, e, t, [(p.1 : Int), (p.2 : Int)], L, rfl, rfl, SqT.of tup4, hasT4, by omega, fun z => absurd z new, fun _ L2 pm => ?_⟩
      have rows5 : Rows (upd H4 e (BigHO P w e L2)) b (relRows n (relOf (ps.take i))) := rows4.ext hasT4.1
      refine ⟨_, rfl, _, rfl, _, rfl, b, n, p.1, p.2, relOf (ps.take i), rfl, hn, plt1, plt2, rows5, fun H6 c s6 rows6 => ?_⟩
      have s7 : Same H H6 := (same_upd s5 h0e).trans s6
      refine ⟨c, L2, _, _, _, _, rfl, s7, by rw [relOf_more hp]; exact rows6, ⟨s6 _ _ upd_same, fun r hr => ?_⟩, ?_, fun k hk => ?_⟩
      · rcases List.mem_cons.mp (pm.mem_iff.mp hr) with z | z
        · rw [z]; exact SqT.of (s7 _ _ tup0)
        · refine Same.tup s6 ?_
          have w0 := hasT4.2 r z
          rcases w0 with (w0 | ⟨o, w0⟩) | w0
          · refine .inl (.inl ?_)
            rw [upd_ne (ne_of w0 hasT4.1 (by intro z; cases z))]; exact w0
          · refine .inl (.inr ⟨o, ?_⟩)
            rw [upd_ne (ne_of w0 hasT4.1 (by intro z; cases z))]; exact w0
          · exact .inr w0
      · rw [pm.length_eq, List.length_cons, lenL]
      · have pm2 := (pm.map (·.2)).mem_iff.mp hk
        rw [List.map_cons] at pm2
        rcases List.mem_cons.mp pm2 with z | z
        · refine ⟨p, ?_, z⟩
          rw [List.take_add_one, hp]
          exact List.mem_append_right _ List.mem_cons_self
        · obtain ⟨p2, m2, e⟩ := memL k z
          refine ⟨p2, ?_, e⟩
          rw [List.take_add_one]
          exact List.mem_append_left _ m2
    · rintro σ H2 ⟨b, L, v5, v6, v7, v8, rfl, s3, rows, _⟩
      rw [List.length_map, hps.1, List.take_length] at rows
      exact ⟨_, rfl, q H2 b s3 rows⟩
end
end Hue

end
section
set_option maxRecDepth 100000
namespace Hue
open PySem PySem.Spec PyProof.Rows L2
section
variable {P : Program} {w : World} {K : PySem.W.Frag} {mg : Str → Option Value} {base : Heap} {C : Addr}
/-! ### the order list -/
abbrev s_is_next : Stmt := top 22
theorem sc_is_next : FnScope ["above", "order", "lamp", "upper"] ["above", "order", "lamp"] (defScope s_is_next) := ⟨rfl, rfl, rfl, by decide +kernel, rfl, by decide +kernel, by decide +kernel⟩
-- slots of is_next: 0 above, 1 order, 2 lamp, 3 upper
def spIsNext : Sp := fun vs H Q _ => ∃ (ab o : Addr) (n k : Nat) (R : Rel) (ord : List Nat), vs = [.ref ab, .ref o, .int k] ∧ n ≤ 16 ∧ k < n ∧ Rows H ab (relRows n (flip R)) ∧ H o = some (.lst (nL ord)) ∧
  ∀ H', Same H H' → Q (.bl (nxt n R ord k)) H'
theorem ok_is_next (T : Txt K mg C) {f : Addr} {fd : FuncData} (F : Fun K "is_next" "is_next" s_is_next f fd) : FnOk P w K mg base CX0 1 f fd ["above", "order", "lamp"] spIsNext := by
  refine F.ok sc_is_next (fun vs H Q E h => ?_) (fun cdv A outer s H vs Q E hr h => ?_)
  · obtain ⟨ab, o, n, k, R, ord, rfl, _⟩ := h; rfl
  · obtain ⟨ab, o, n, k, R, ord, rfl, hn, hk, rows, ho, q⟩ := h
    refine ⟨_, (pss_one (ps_ret (pe_and (pe_cmpR (ninS_ K) (pv 2) (pv 1) (by rfl)) (pe_one (pe_callB (all_ K rfl) (by rfl) T.all b_all (pa_cons (pe_lc (own := [("upper", 3)]) (g := gName 3) (tt := tYes) rfl sc_is_next.nd (pil_ K (pe_ix (ixL_ K) (pv 0) (pv 2) (fun _ _ => rfl))) (blkOk_by (by kernel_rfl)) (fun _ _ _ _ _ => (pg_name (i := 3) sc_is_next.nd rfl (by first | exact Or.inl rfl | exact Or.inr rfl))) (fun _ _ _ _ _ => pts_nil) (fun _ _ _ _ _ => (pe_cmpR (inS_ K) (pv 3) (pv 1) (by rfl)))) pa_nil)))))), ?_⟩
    refine ⟨_, rfl, _, rfl, o, _, rfl, .inl (SqL.of ho), rfl, flat_nL _, _, rfl, ?_⟩
    show if (!inV (V.int (k : Int)) (nL ord)) = true then _ else _
    rw [in_nL]
    refine ite2 (fun h1 => ?_) (fun h1 => ?_)
    · obtain ⟨xs, al, hb, _, hal, hL⟩ := rows.at (relRows_at (R := flip R) hk)
      refine ⟨_, rfl, _, rfl, ab, xs, _, _, rfl, rfl, SqL.of hb, atI_nat hal, al, rfl, ⟨_, SqL.of hL⟩, fun D hD => ?_⟩
      refine lc_list (xs := nL (Bel n (flip R) k)) (fun i H2 => H2 D = some (.lst ((((Bel n (flip R) k).take i).map fun j => decide (j ∈ ord)).map V.bl)) ∧ Same H H2)
        ⟨upd_same, same_new hD⟩ (fun i H2 _ ⟨_, s⟩ => SqL.of (s _ _ hL)) ?_ ?_
      · rintro i x H2 hx ⟨h2, s2⟩
        obtain ⟨j, hj, rfl⟩ : ∃ j, (Bel n (flip R) k)[i]? = some j ∧ x = V.int (j : Int) := by
          unfold nL nI at hx
          rw [List.map_map, List.getElem?_map] at hx
          obtain ⟨j, hj, e⟩ := Option.map_eq_some_iff.mp hx
          exact ⟨j, hj, e.symm⟩
        refine ⟨rfl, yesT ⟨_, rfl, _, rfl, o, _, rfl, .inl (SqL.of (s2 _ _ ho)), rfl, flat_nL _, _, h2, ?_, ?_, same_upd s2 hD⟩⟩
        · rw [List.length_map, List.length_map, List.length_take, sizeLine_eq]
          have := Bel_len n (flip R) k
          omega
        · rw [upd_same, List.take_add_one, hj, List.map_append, List.map_append]
          show some (HO.lst (_ ++ [V.bl (inV (V.int (j : Int)) (nL ord))])) = _
          rw [in_nL]
          rfl
      · rintro H2 ⟨h2, s2⟩
        rw [nL_len, List.take_length] at h2
        refine ⟨D, _, rfl, SqL.of h2, ?_⟩
        have e : nxt n R ord k = ((Bel n (flip R) k).map fun j => decide (j ∈ ord)).all id := by
          unfold nxt
          rw [h1, Bool.true_and, List.all_map]
          rfl
        rw [← e]
        exact q H2 s2
    · have e : nxt n R ord k = false := by
        unfold nxt
        rw [Bool.eq_false_iff.mpr h1, Bool.false_and]
      rw [← e]
      exact q H (Same.refl H)
abbrev s_order_list : Stmt := top 21
theorem sc_order_list : FnScope ["above", "order", "lamp"] ["above"] (defScope s_order_list) := ⟨rfl, rfl, rfl, by decide +kernel, rfl, by decide +kernel, by decide +kernel⟩
-- slots of order_list: 0 above, 1 order, 2 lamp
def spOrderList : Sp := fun vs H Q _ => ∃ (ab : Addr) (n : Nat) (R : Rel), vs = [.ref ab] ∧ n ≤ 16 ∧ Ranked R ∧ Rows H ab (relRows n (flip R)) ∧
  ∀ (H' : Hp) (p : Addr), Same H H' → H p = Option.none → H' p = some (.lst (nL (ordN n R n))) → Q (.ref p) H'
theorem ok_order_list (T : Txt K mg C) {f : Addr} {fd : FuncData} (F : Fun K "order_list" "order_list" s_order_list f fd) (c_is_next : Cal P w K mg base "is_next" 1 spIsNext) : FnOk P w K mg base CX0 2 f fd ["above"] spOrderList := by
  refine F.ok sc_order_list (fun vs H Q E h => ?_) (fun cdv A outer s H vs Q E hr h => ?_)
  · obtain ⟨ab, n, R, rfl, _⟩ := h; rfl
  · obtain ⟨ab, n, R, rfl, hn, hR, rows, q⟩ := h
    refine ⟨_, (pss_cons (ps_set (i := 1) sc_order_list.nd rfl (by first | exact Or.inl rfl | exact Or.inr rfl) (pe_lst pa_nil))
      (pss_cons (ps_while PassesOwn.never (pt_cmpR op_lt (pe_callB (lenS_ K) (by rfl) T.len b_len (pa_cons (pv 1) pa_nil)) (pe_callB (lenS_ K) (by rfl) T.len b_len (pa_cons (pv 0) pa_nil)) (nomark _))
      (pss_one (ps_expr (pe_bm PySem.F.plainAttrs_list PySem.F.slot_list_append PySem.F.type_list_append mt_append (pv 1) (pa_cons (pe_callB (min_ K rfl) (by rfl) T.min b_min (pa_cons (pe_lc (own := [("lamp", 2)]) (g := gName 2) rfl sc_order_list.nd (pi_range1 (by rfl) T.range (pa_cons (pe_callB (lenS_ K) (by rfl) T.len b_len (pa_cons (pv 0) pa_nil)) pa_nil)) (blkOk_by (by kernel_rfl)) (fun _ _ _ _ _ => (pg_name (i := 2) sc_order_list.nd rfl (by first | exact Or.inl rfl | exact Or.inr rfl))) (fun _ _ _ _ _ => (pts_one (pt_val (pe_cal c_is_next (hr.mono (by decide)) (pa_cons (pv 0) (pa_cons (pv 1) (pa_cons (pv 2) pa_nil))))))) (fun _ _ _ _ _ => (pv 2))) pa_nil)) pa_nil)))))
      (pss_one (ps_ret (pv 1))))), ?_⟩
    refine ⟨by decide, fun o ho => ?_⟩
    refine ⟨fun m σ H2 => ∃ k, m = n - k ∧ k ≤ n ∧ ∃ v, σ = [some (.ref ab), some (.ref o), v] ∧ Same H H2 ∧ H2 o = some (.lst (nL (ordN n R k))),
      ⟨n - 0, 0, rfl, Nat.zero_le _, _, rfl, same_new ho, upd_same⟩, ?_⟩
    rintro m σ H2 ⟨k, rfl, hk, v, rfl, s2, h2⟩
    have rows2 := rows.same s2
    obtain ⟨as, hab, las, _⟩ := id rows2
    rw [relRows_len] at las
    obtain ⟨len, ok⟩ := ordN_ok hR k hk
    refine ⟨_, rfl, o, _, rfl, .inl (SqL.of h2), _, rfl, ab, _, rfl, .inl (SqL.of hab), _, _, rfl, rfl, _, rfl, ?_⟩
    rw [nL_len, len, List.length_map, las]
    refine ite2 (fun hlt => ?_) (fun hge => ?_)
    · have klt : k < n := by have := of_decide_eq_true hlt; omega
      refine ⟨fun σ' H' => ∃ v, σ' = [some (.ref ab), some (.ref o), v] ∧ Same H H' ∧ H' o = some (.lst (nL (ordN n R (k + 1)))), fun σ' H' ⟨v, e1, e2, e3⟩ => ⟨n - (k + 1), by omega, k + 1, rfl, klt, v, e1, e2, e3⟩, ?_⟩
      obtain ⟨c, rest, ec⟩ := cands_ne (n := n) hR (ord := ordN n R k) (by omega)
      refine ⟨_, rfl, .inl ⟨rfl, _, SqL.of h2⟩, _, rfl, ab, _, rfl, .inl (SqL.of hab), _, rfl, ?_, ?_, fun D hD => ?_⟩
      · rw [List.length_map, las]; omega
      · rw [List.length_map, las]; omega
      rw [List.length_map, las, Int.toNat_natCast]
      refine lc_range (fun i H3 => H3 D = some (.lst (nL ((List.range i).filter (nxt n R (ordN n R k))))) ∧ Same H2 H3) ⟨upd_same, same_new hD⟩ ?_ ?_
      · rintro i H3 hi ⟨h3, s3⟩
        have e0 : (0 : Int) + (i : Int) = (i : Int) := by omega
        rw [e0]
        refine ⟨rfl, _, rfl, _, rfl, _, rfl, ab, o, n, i, R, ordN n R k, rfl, hn, hi, rows2.same s3, s3 _ _ h2, fun H4 s4 => ⟨_, rfl, ?_⟩⟩
        have h4 := s4 _ _ h3
        have grown : (List.range (i + 1)).filter (nxt n R (ordN n R k)) = (List.range i).filter (nxt n R (ordN n R k)) ++ (if nxt n R (ordN n R k) i = true then [i] else []) := by
          rw [List.range_succ, List.filter_append, List.filter_cons]
          rfl
        refine ite2 (fun hx => ?_) (fun hx => ?_)
        · refine ⟨_, rfl, _, h4, ?_, ?_, same_upd (s3.trans s4) hD⟩
          · rw [nL_len, sizeLine_eq]
            have := List.length_filter_le (nxt n R (ordN n R k)) (List.range i)
            rw [List.length_range] at this
            omega
          · rw [upd_same, grown, if_pos hx, nL_app]; rfl
        · refine ⟨?_, s3.trans s4⟩
          rw [h4, grown, if_neg hx, List.append_nil]
      · rintro H3 ⟨h3, s3⟩
        refine ⟨D, nI (cands n R (ordN n R k)), rfl, SqL.of h3, ?_, fun mm hm hle => ?_⟩
        · rw [nI_len, ec]; exact Nat.succ_pos _
        have em := cands_min ec hm hle
        rw [em]
        refine ⟨o, _, _, rfl, rfl, s3 _ _ h2, ?_, _, rfl, same_upd (s2.trans s3) ho, ?_⟩
        · rw [nL_len, len, sizeLine_eq]; omega
        · rw [upd_same, ordN_succ ec, nL_app]; rfl
    · have kn : k = n := by
        have z : ¬ ((k : Int) < (n : Int)) := fun z => hge (decide_eq_true z)
        omega
      rw [kn] at h2
      exact ⟨_, rfl, q H2 o s2 ho h2⟩
/-! ### the house -/
abbrev s_House___init__ : Stmt := inClass (top 13) 2
theorem sc_House___init__ : FnScope ["self", "count", "hues", "wires", "lamps", "upper", "lamp", "lower"] ["self", "count", "hues", "wires"] (defScope s_House___init__) := ⟨rfl, rfl, rfl, by decide +kernel, rfl, by decide +kernel, by decide +kernel⟩
-- slots of House.__init__: 0 self, 1 count, 2 hues, 3 wires, 4 lamps, 5 upper, 6 lamp, 7 lower
def HouseAt (C : Addr) (H : Hp) (x : Addr) (n h : Nat) (R : Rel) : Prop := ∃ (dx : Addr) (fs : List (Str × V)) (be o : Addr), H x = some (.ins C dx fs) ∧ fs.lookup ("count" : Str) = some (.int n) ∧ fs.lookup ("hues" : Str) = some (.int h) ∧
  fs.lookup ("_beneath" : Str) = some (.ref be) ∧ Rows H be (relRows n R) ∧ fs.lookup ("_order" : Str) = some (.ref o) ∧ H o = some (.lst (nL (ordN n R n))) ∧ fs.lookup ("order" : Str) = Option.none ∧ fs.lookup ("beneath" : Str) = Option.none
def spInit (K : PySem.W.Frag) (C : Addr) : Sp := fun vs H Q _ => ∃ (x dx a : Addr) (n h : Nat) (ps : List (Nat × Nat)), vs = [.ref x, .int n, .int h, .ref a] ∧ H x = some (.ins C dx []) ∧ 1 ≤ n ∧ n ≤ 16 ∧ 2 ≤ h ∧ h ≤ 10 ∧ Wires K H a n ps ∧
  ∀ H', SB x H H' → HouseAt C H' x n h (relOf ps) → Q .non H'
theorem ok_init (T : Txt K mg C) {f : Addr} {fd : FuncData} (F : FunV K "__init__" "House.__init__" s_House___init__ f fd) (c_check_count : Cal P w K mg base "check_count" 3 spCheckCount) (c_check_hues : Cal P w K mg base "check_hues" 3 spCheckHues)
    (c_lamps_beneath : Cal P w K mg base "lamps_beneath" 4 (spLampsBeneath K)) (c_order_list : Cal P w K mg base "order_list" 2 spOrderList) : FnOk P w K mg base CX0 5 f fd ["self", "count", "hues", "wires"] (spInit K C) := by
  refine F.ok sc_House___init__ (fun vs H Q E h => ?_) (fun cdv A outer s H vs Q E hr h => ?_)
  · obtain ⟨x, dx, a, n, h, ps, rfl, _⟩ := h; rfl
  · obtain ⟨x, dx, a, n, h, ps, rfl, hx, n1, n16, h2, h10, W, q⟩ := h
    refine ⟨_, (pss_cons (ps_expr (pe_cal c_check_count (hr.mono (by decide)) (pa_cons (pv 1) pa_nil)))
      (pss_cons (ps_expr (pe_cal c_check_hues (hr.mono (by decide)) (pa_cons (pv 2) pa_nil)))
      (pss_cons (ps_fld (pv 0) (pv 1) rfl)
      (pss_cons (ps_fld (pv 0) (pv 2) rfl)
      (pss_cons (ps_fld (pv 0) (pe_cal c_lamps_beneath (hr.mono (by decide)) (pa_cons (pv 1) (pa_cons (pv 3) pa_nil))) rfl)
      (pss_cons (ps_fld (pv 0) (pe_callTy (tupOf_ K) (by rfl) T.tuple b_tuple (pa_cons (pe_callB (sortPA_ K) (by rfl) T.sorted b_sorted (pa_cons (pv 3) pa_nil)) pa_nil)) rfl)
      (pss_cons (ps_set (i := 4) sc_House___init__.nd rfl (by first | exact Or.inl rfl | exact Or.inr rfl) (pe_callTy hu_cr_range1 (by rfl) T.range b_range (pa_cons (pv 1) pa_nil)))
      (pss_cons (ps_fld (pv 0) (pe_lc (own := [("lamp", 6)]) (g := gName 6) (tt := tYes) rfl sc_House___init__.nd (hu_pi_rng (pv 4)) (blkOk_by (by kernel_rfl)) (fun _ _ _ _ _ => (pg_name (i := 6) sc_House___init__.nd rfl (by first | exact Or.inl rfl | exact Or.inr rfl))) (fun _ _ _ _ _ => pts_nil) (fun _ _ _ _ _ => (pe_lc (own := [("upper", 5)]) (g := gName 5) rfl sc_House___init__.nd (hu_pi_rng (pv 4)) (blkOk_by (by kernel_rfl)) (fun _ _ _ _ _ => (pg_name (i := 5) sc_House___init__.nd rfl (by first | exact Or.inl rfl | exact Or.inr rfl))) (fun _ _ _ _ _ => (pts_one (pt_cmpR (inS_ K) (pv 6) (pe_ix (ixL_ K) (fld_ K (pv 0)) (pv 5) (fun _ _ => rfl)) (by rfl)))) (fun _ _ _ _ _ => (pv 5))))) rfl)
      (pss_cons (ps_fld (pv 0) (pe_lc (own := [("lamp", 6)]) (g := gName 6) (tt := tYes) rfl sc_House___init__.nd (hu_pi_rng (pv 4)) (blkOk_by (by kernel_rfl)) (fun _ _ _ _ _ => (pg_name (i := 6) sc_House___init__.nd rfl (by first | exact Or.inl rfl | exact Or.inr rfl))) (fun _ _ _ _ _ => pts_nil) (fun _ _ _ _ _ => (pe_lc (own := [("upper", 5), ("lower", 7)]) (g := gTup K 2 (gCons (gName 5) (gCons (gName 7) gNil))) rfl sc_House___init__.nd (pit_ K (fld_ K (pv 0))) (blkOk_by (by kernel_rfl)) (fun _ _ _ _ _ => (pg_tup (by rfl) (pgs_cons (pg_name (i := 5) sc_House___init__.nd rfl (by first | exact Or.inl rfl | exact Or.inr rfl)) (pgs_cons (pg_name (i := 7) sc_House___init__.nd rfl (by first | exact Or.inl rfl | exact Or.inr rfl)) pgs_nil)))) (fun _ _ _ _ _ => (pts_one (pt_cmpR op_eq (pv 5) (pv 6) (nomark _)))) (fun _ _ _ _ _ => (pv 7))))) rfl)
      (pss_one (ps_fld (pv 0) (pe_cal c_order_list (hr.mono (by decide)) (pa_cons (fld_ K (pv 0)) pa_nil)) rfl))))))))))), ?_⟩
    refine ⟨_, rfl, n, rfl, by omega, by omega, _, rfl, h, rfl, by omega, by omega, ?_⟩
    -- self.count, self.hues
    refine ⟨_, rfl, _, rfl, x, C, dx, _, rfl, hx, T.cl, T.nCount, by decide, ?_⟩
    refine ⟨_, rfl, _, rfl, x, C, dx, _, rfl, upd_same, T.cl, T.nHues, Nat.lt_of_le_of_lt (put_few (Nat.le_refl 0)) (by decide), ?_⟩
    rw [upd_upd]
    have sb1 : SB x H (upd H x (.ins C dx (putF "hues" (.int h) (putF "count" (.int n) [])))) := (SB.refl x H).upd
    have hx1 : (upd H x (.ins C dx (putF "hues" (.int h) (putF "count" (.int n) [])))) x = some (.ins C dx (putF "hues" (.int h) (putF "count" (.int n) []))) := upd_same
    have lk1 : (putF "hues" (.int h) (putF "count" (.int n) []) : List (Str × V)).length ≤ 2 := put_few (put_few (Nat.le_refl 0))
    generalize upd H x (.ins C dx (putF "hues" (.int h) (putF "count" (.int n) []))) = H1 at sb1 hx1 ⊢
    obtain ⟨⟨ts, ha, hps⟩, nd, few, lt, ρ, rank⟩ := id W
    have W1 : Wires K H1 a n ps := ⟨⟨ts, ha.sb hx sb1, hps.1, fun i t p e1 e2 => sb1 _ _ (ne_of (hps.2 i t p e1 e2) hx (by intro z; cases z)) (hps.2 i t p e1 e2)⟩, nd, few, lt, ρ, rank⟩
    -- self._beneath
    refine ⟨_, rfl, _, rfl, a, n, ps, rfl, n16, W1, fun H2 be s2 rows2 => ?_⟩
    refine ⟨_, rfl, x, C, dx, _, rfl, s2 _ _ hx1, T.cl, T.nBen, by omega, ?_⟩
    have sb3 : SB x H (upd H2 x (.ins C dx (putF "_beneath" (.ref be) (putF "hues" (.int h) (putF "count" (.int n) []))))) := (sb1.trans (SB.of s2)).upd
    have rows3 : Rows (upd H2 x (.ins C dx (putF "_beneath" (.ref be) (putF "hues" (.int h) (putF "count" (.int n) []))))) be (relRows n (relOf ps)) := SB.rows ((SB.refl x H2).upd) (s2 _ _ hx1) rows2
    have hx3 : (upd H2 x (.ins C dx (putF "_beneath" (.ref be) (putF "hues" (.int h) (putF "count" (.int n) []))))) x = some (.ins C dx (putF "_beneath" (.ref be) (putF "hues" (.int h) (putF "count" (.int n) [])))) := upd_same
    have lk3 : (putF "_beneath" (.ref be) (putF "hues" (.int h) (putF "count" (.int n) [])) : List (Str × V)).length ≤ 3 := put_few lk1
    generalize upd H2 x (.ins C dx (putF "_beneath" (.ref be) (putF "hues" (.int h) (putF "count" (.int n) [])))) = H3 at sb3 rows3 hx3 ⊢
    -- self.wires
    have ha3 := ha.sb hx sb3
    refine ⟨_, rfl, a, ts.map V.ref, rfl, ha3, fun y hy => ?_, fun ys c perm nc => ?_⟩
    · obtain ⟨t, ht, rfl⟩ := List.mem_map.mp hy
      obtain ⟨j, hj, e⟩ := List.getElem_of_mem ht
      have jl : j < ps.length := by rw [← hps.1]; exact hj
      have e2 := hps.2 j t ps[j] (by rw [List.getElem?_eq_getElem hj, e]) (List.getElem?_eq_getElem jl)
      exact ⟨t, _, _, rfl, sb3 _ _ (ne_of e2 hx (by intro z; cases z)) e2⟩
    refine ⟨c, ys, rfl, .inl ⟨SqL.of upd_same, fun l nl => ?_⟩⟩
    have s4 : Same H3 (upd (upd H3 c (.lst ys)) l (.tup ys)) := (same_new nc).trans (same_new nl)
    have hl4 : (upd (upd H3 c (.lst ys)) l (.tup ys)) l = some (.tup ys) := upd_same
    generalize upd (upd H3 c (.lst ys)) l (.tup ys) = H4 at s4 hl4 ⊢
    refine ⟨_, rfl, x, C, dx, _, rfl, s4 _ _ hx3, T.cl, T.nWires, by omega, ?_⟩
    have nlx : l ≠ x := ne_of hl4 (s4 _ _ hx3) (by intro z; cases z)
    generalize hf5 : putF "wires" (.ref l) (putF "_beneath" (.ref be) (putF "hues" (.int h) (putF "count" (.int n) []))) = fs5
    have lk5 : fs5.length ≤ 4 := by rw [← hf5]; exact put_few lk3
    have ben5 : fs5.lookup ("_beneath" : Str) = some (.ref be) := by rw [← hf5, lk_ne _ _ (by decide +kernel), lk_same]
    have wir5 : fs5.lookup ("wires" : Str) = some (.ref l) := by rw [← hf5, lk_same]
    have cnt5 : fs5.lookup ("count" : Str) = some (.int n) := by rw [← hf5, lk_ne _ _ (by decide +kernel), lk_ne _ _ (by decide +kernel), lk_ne _ _ (by decide +kernel), lk_same]
    have hue5 : fs5.lookup ("hues" : Str) = some (.int h) := by rw [← hf5, lk_ne _ _ (by decide +kernel), lk_ne _ _ (by decide +kernel), lk_same]
    have ord5 : fs5.lookup ("order" : Str) = Option.none := by rw [← hf5, lk_ne _ _ (by decide +kernel), lk_ne _ _ (by decide +kernel), lk_ne _ _ (by decide +kernel), lk_ne _ _ (by decide +kernel)] <;> rfl
    have bnt5 : fs5.lookup ("beneath" : Str) = Option.none := by rw [← hf5, lk_ne _ _ (by decide +kernel), lk_ne _ _ (by decide +kernel), lk_ne _ _ (by decide +kernel), lk_ne _ _ (by decide +kernel)] <;> rfl
    have sb5 : SB x H (upd H4 x (.ins C dx fs5)) := (sb3.trans (SB.of s4)).upd
    have rows5 : Rows (upd H4 x (.ins C dx fs5)) be (relRows n (relOf ps)) := SB.rows ((SB.refl x H4).upd) (s4 _ _ hx3) (rows3.same s4)
    have hl5 : (upd H4 x (.ins C dx fs5)) l = some (.tup ys) := by rw [upd_ne nlx]; exact hl4
    have hx5 : (upd H4 x (.ins C dx fs5)) x = some (.ins C dx fs5) := upd_same
    generalize upd H4 x (.ins C dx fs5) = H5 at sb5 rows5 hl5 hx5 ⊢
    have ys5 : ∀ y ∈ ys, ∃ (t : Addr) (i j : Nat), y = V.ref t ∧ H5 t = some (.tup [.int (i : Int), .int (j : Int)]) := by
      intro y hy
      obtain ⟨t, ht, rfl⟩ := List.mem_map.mp (perm.mem_iff.mp hy)
      obtain ⟨j, hj, e⟩ := List.getElem_of_mem ht
      have jl : j < ps.length := by rw [← hps.1]; exact hj
      have e2 := hps.2 j t ps[j] (by rw [List.getElem?_eq_getElem hj, e]) (List.getElem?_eq_getElem jl)
      exact ⟨t, _, _, rfl, sb5 _ _ (ne_of e2 hx (by intro z; cases z)) e2⟩
    have ysl : ys.length < 4900 := by rw [perm.length_eq, List.length_map, hps.1]; exact few
    -- lamps = range(count)
    refine ⟨_, rfl, _, rfl, fun r nr => ?_⟩
    have s6 : Same H5 (upd H5 r (.rng 0 (n : Int))) := same_new nr
    have hr6 : (upd H5 r (.rng 0 (n : Int))) r = some (.rng 0 (n : Int)) := upd_same
    generalize upd H5 r (.rng 0 (n : Int)) = H6 at s6 hr6 ⊢
    have nrx : r ≠ x := ne_of hr6 (s6 _ _ hx5) (by intro z; cases z)
    have rows6 := rows5.same s6
    -- self._above
    refine ⟨_, rfl, r, 0, n, rfl, hr6, ⟨by omega, by omega, by omega, by omega⟩, fun D hD => ?_⟩
    rw [show ((n : Int) - 0).toNat = n by omega]
    refine lc_range (fun i H7 => Coll H6 D (fun j => nL (Bel n (flip (relOf ps)) j)) i H7) (Coll.start hD) ?_ ?_
    · intro i H7 hi c7
      have e0 : (0 : Int) + (i : Int) = (i : Int) := by omega
      rw [e0]
      obtain ⟨_, hD7, _, s7, _⟩ := id c7
      refine ⟨rfl, yesT ⟨_, rfl, r, 0, n, rfl, s7 _ _ hr6, ⟨by omega, by omega, by omega, by omega⟩, fun D2 hD2 => ?_⟩⟩
      rw [show ((n : Int) - 0).toNat = n by omega]
      refine lc_range (fun j H8 => H8 D2 = some (.lst (nL ((List.range j).filter (flip (relOf ps) i)))) ∧ Same H7 H8) ⟨upd_same, same_new hD2⟩ ?_ ?_
      · rintro j H8 hj ⟨h8, s8⟩
        have e0 : (0 : Int) + (j : Int) = (j : Int) := by omega
        rw [e0]
        have s68 : Same H6 H8 := s7.trans s8
        obtain ⟨xs, al, hb, _, hal, hL⟩ := (rows6.same s68).at (relRows_at (R := relOf ps) hj)
        refine ⟨rfl, _, rfl, _, rfl, x, C, dx, _, _, rfl, s68 _ _ (s6 _ _ hx5), T.cl, T.nBen, ben5, _, rfl, be, xs, _, _, rfl, rfl, SqL.of hb, atI_nat hal, al, _, rfl, .inl (SqL.of hL), rfl, flat_nL _, _, rfl, ?_⟩
        have grown : (List.range (j + 1)).filter (flip (relOf ps) i) = (List.range j).filter (flip (relOf ps) i) ++ (if flip (relOf ps) i j = true then [j] else []) := by
          rw [List.range_succ, List.filter_append, List.filter_cons]
          rfl
        have same_test : inV (V.int (i : Int)) (nL (Bel n (relOf ps) j)) = flip (relOf ps) i j := by
          rw [in_nL, Bool.eq_iff_iff, decide_eq_true_eq, mem_Bel]
          exact ⟨fun z => z.2, fun z => ⟨hi, z⟩⟩
        show if inV (V.int (i : Int)) (nL (Bel n (relOf ps) j)) = true then _ else _
        rw [same_test]
        refine ite2 (fun hx' => ?_) (fun hx' => ?_)
        · refine ⟨_, rfl, _, h8, ?_, ?_, same_upd s8 hD2⟩
          · rw [nL_len, sizeLine_eq]
            have := List.length_filter_le (flip (relOf ps) i) (List.range j)
            rw [List.length_range] at this
            omega
          · rw [upd_same, grown, if_pos hx', nL_app]; rfl
        · refine ⟨?_, s8⟩
          rw [h8, grown, if_neg hx', List.append_nil]
      · rintro H8 ⟨h8, s8⟩
        exact c7.more hD s8 (fun z => by rw [z, hD7] at hD2; cases hD2) h8 (by omega)
    intro H7 c7
    have rowsA := c7.rows
    obtain ⟨_, hD7, _, s7, _⟩ := id c7
    refine ⟨_, rfl, x, C, dx, _, rfl, s7 _ _ (s6 _ _ hx5), T.cl, T.nAbove, by omega, ?_⟩
    generalize hf8 : putF "_above" (.ref D) fs5 = fs8
    have lk8 : fs8.length ≤ 5 := by rw [← hf8]; exact put_few lk5
    have ben8 : fs8.lookup ("_beneath" : Str) = some (.ref be) := by rw [← hf8, lk_ne _ _ (by decide +kernel)]; exact ben5
    have wir8 : fs8.lookup ("wires" : Str) = some (.ref l) := by rw [← hf8, lk_ne _ _ (by decide +kernel)]; exact wir5
    have cnt8 : fs8.lookup ("count" : Str) = some (.int n) := by rw [← hf8, lk_ne _ _ (by decide +kernel)]; exact cnt5
    have hue8 : fs8.lookup ("hues" : Str) = some (.int h) := by rw [← hf8, lk_ne _ _ (by decide +kernel)]; exact hue5
    have ord8 : fs8.lookup ("order" : Str) = Option.none := by rw [← hf8, lk_ne _ _ (by decide +kernel)]; exact ord5
    have bnt8 : fs8.lookup ("beneath" : Str) = Option.none := by rw [← hf8, lk_ne _ _ (by decide +kernel)]; exact bnt5
    have abv8 : fs8.lookup ("_above" : Str) = some (.ref D) := by rw [← hf8, lk_same]
    have s67 := s6.trans s7
    have sb8 : SB x H (upd H7 x (.ins C dx fs8)) := (sb5.trans (SB.of s67)).upd
    have rows8 : Rows (upd H7 x (.ins C dx fs8)) be (relRows n (relOf ps)) := SB.rows ((SB.refl x H7).upd) (s67 _ _ hx5) (rows6.same s7)
    have rowsA8 : Rows (upd H7 x (.ins C dx fs8)) D (relRows n (flip (relOf ps))) := SB.rows ((SB.refl x H7).upd) (s67 _ _ hx5) rowsA
    have hl8 : (upd H7 x (.ins C dx fs8)) l = some (.tup ys) := by rw [upd_ne nlx]; exact s67 _ _ hl5
    have hr8 : (upd H7 x (.ins C dx fs8)) r = some (.rng 0 (n : Int)) := by rw [upd_ne nrx]; exact s7 _ _ hr6
    have hx8 : (upd H7 x (.ins C dx fs8)) x = some (.ins C dx fs8) := upd_same
    have ys8 : ∀ y ∈ ys, ∃ (t : Addr) (i j : Nat), y = V.ref t ∧ (upd H7 x (.ins C dx fs8)) t = some (.tup [.int (i : Int), .int (j : Int)]) := by
      intro y hy
      obtain ⟨t, i, j, e1, e2⟩ := ys5 y hy
      exact ⟨t, i, j, e1, by rw [upd_ne (ne_of e2 hx5 (by intro z; cases z))]; exact s67 _ _ e2⟩
    generalize upd H7 x (.ins C dx fs8) = H8 at sb8 rows8 rowsA8 hl8 hr8 hx8 ys8 ⊢
    -- self._direct
    refine ⟨_, rfl, r, 0, n, rfl, hr8, ⟨by omega, by omega, by omega, by omega⟩, fun D3 hD3 => ?_⟩
    rw [show ((n : Int) - 0).toNat = n by omega]
    refine lc_range (fun i H9 => ∃ acc, H9 D3 = some (.lst acc) ∧ acc.length = i ∧ Same H8 H9) ⟨[], upd_same, rfl, same_new hD3⟩ ?_ ?_
    · rintro i H9 hi ⟨acc, h9, l9, s9⟩
      refine ⟨rfl, yesT ⟨_, rfl, x, C, dx, _, _, rfl, s9 _ _ hx8, T.cl, T.nWires, wir8, l, rfl, ⟨_, SqT.of (s9 _ _ hl8)⟩, fun D4 hD4 => ?_⟩⟩
      refine lc_it (walk_tup (xs := ys)) (fun j H10 => ∃ acc2, H10 D4 = some (.lst acc2) ∧ acc2.length ≤ j ∧ Same H9 H10) ⟨[], upd_same, Nat.le_refl 0, same_new hD4⟩ (fun j H10 _ ⟨_, _, _, s10⟩ => SqT.of (s10 _ _ (s9 _ _ hl8))) ?_ ?_
      · rintro j y H10 H11 hj ⟨acc2, h10, l10, s10⟩ ⟨rfl, hy⟩
        obtain ⟨t, a1, a2, rfl, ht⟩ := ys8 y (List.mem_of_getElem? hy)
        refine ⟨t, _, rfl, SqT.of (s10 _ _ (s9 _ _ ht)), rfl, _, _, rfl, _, _, rfl, rfl, rfl, ?_⟩
        refine ⟨_, rfl, _, rfl, rfl, _, rfl, ?_⟩
        refine ite2 (fun _ => ?_) (fun _ => ⟨acc2, h10, by omega, s10⟩)
        exact ⟨_, rfl, _, h10, by rw [sizeLine_eq]; omega, _, upd_same, by rw [List.length_append, List.length_singleton]; omega, same_upd s10 hD4⟩
      · rintro H10 ⟨acc2, h10, _, s10⟩
        exact ⟨_, s10 _ _ h9, by rw [sizeLine_eq]; omega, _, upd_same, by rw [List.length_append, l9]; rfl, same_upd (s9.trans s10) hD3⟩
    rintro H9 ⟨acc, h9, l9, s9⟩
    refine ⟨_, rfl, x, C, dx, _, rfl, s9 _ _ hx8, T.cl, T.nDirect, by omega, ?_⟩
    generalize hf10 : putF "_direct" (.ref D3) fs8 = fs10
    have lk10 : fs10.length ≤ 6 := by rw [← hf10]; exact put_few lk8
    have ben10 : fs10.lookup ("_beneath" : Str) = some (.ref be) := by rw [← hf10, lk_ne _ _ (by decide +kernel)]; exact ben8
    have cnt10 : fs10.lookup ("count" : Str) = some (.int n) := by rw [← hf10, lk_ne _ _ (by decide +kernel)]; exact cnt8
    have hue10 : fs10.lookup ("hues" : Str) = some (.int h) := by rw [← hf10, lk_ne _ _ (by decide +kernel)]; exact hue8
    have ord10 : fs10.lookup ("order" : Str) = Option.none := by rw [← hf10, lk_ne _ _ (by decide +kernel)]; exact ord8
    have bnt10 : fs10.lookup ("beneath" : Str) = Option.none := by rw [← hf10, lk_ne _ _ (by decide +kernel)]; exact bnt8
    have abv10 : fs10.lookup ("_above" : Str) = some (.ref D) := by rw [← hf10, lk_ne _ _ (by decide +kernel)]; exact abv8
    have sb10 : SB x H (upd H9 x (.ins C dx fs10)) := (sb8.trans (SB.of s9)).upd
    have rows10 : Rows (upd H9 x (.ins C dx fs10)) be (relRows n (relOf ps)) := SB.rows ((SB.refl x H9).upd) (s9 _ _ hx8) (rows8.same s9)
    have rowsA10 : Rows (upd H9 x (.ins C dx fs10)) D (relRows n (flip (relOf ps))) := SB.rows ((SB.refl x H9).upd) (s9 _ _ hx8) (rowsA8.same s9)
    have hx10 : (upd H9 x (.ins C dx fs10)) x = some (.ins C dx fs10) := upd_same
    generalize upd H9 x (.ins C dx fs10) = H10 at sb10 rows10 rowsA10 hx10 ⊢
    -- self._order
    refine ⟨_, rfl, x, C, dx, _, _, rfl, hx10, T.cl, T.nAbove, abv10, D, n, relOf ps, rfl, n16, relOf_ranked rank, rowsA10, fun H11 o s11 no ho => ?_⟩
    refine ⟨_, rfl, x, C, dx, _, rfl, s11 _ _ hx10, T.cl, T.nOrder, by omega, ?_⟩
    have nox : o ≠ x := ne_of ho (s11 _ _ hx10) (by intro z; cases z)
    refine q _ (sb10.trans (SB.of s11)).upd ⟨dx, _, be, o, upd_same, ?_, ?_, ?_, SB.rows ((SB.refl x H11).upd) (s11 _ _ hx10) (rows10.same s11), ?_, by rw [upd_ne nox]; exact ho, ?_, ?_⟩
    · rw [lk_ne _ _ (by decide +kernel)]; exact cnt10
    · rw [lk_ne _ _ (by decide +kernel)]; exact hue10
    · rw [lk_ne _ _ (by decide +kernel)]; exact ben10
    · rw [lk_same]
    · rw [lk_ne _ _ (by decide +kernel)]; exact ord10
    · rw [lk_ne _ _ (by decide +kernel)]; exact bnt10
end
end Hue

end
section
set_option maxRecDepth 100000
namespace Hue
open PySem PySem.Spec PyProof.Rows L2
section
variable {P : Program} {w : World} {K : PySem.W.Frag} {mg : Str → Option Value} {base : Heap} {C : Addr}
theorem HouseAt.same {H H' : Hp} {x : Addr} {n h : Nat} {R : Rel} (a : HouseAt C H x n h R) (s : Same H H') : HouseAt C H' x n h R := by
  obtain ⟨dx, fs, be, o, h1, h2, h3, h4, h5, h6, h7, h8, h9⟩ := a
  exact ⟨dx, fs, be, o, s _ _ h1, h2, h3, h4, h5.same s, h6, s _ _ h7, h8, h9⟩
abbrev s_House_order : Stmt := inClass (top 13) 10
theorem sc_House_order : FnScope ["self"] ["self"] (defScope s_House_order) := ⟨rfl, rfl, rfl, by decide +kernel, rfl, by decide +kernel, by decide +kernel⟩
-- slots of House.order: 0 self
def spOrder (C : Addr) : Sp := fun vs H Q _ => ∃ (x : Addr) (n h : Nat) (R : Rel), vs = [.ref x] ∧ HouseAt C H x n h R ∧ ∀ (H' : Hp) (p : Addr), Same H H' → H p = Option.none → H' p = some (.lst (nL (ordN n R n))) → Q (.ref p) H'
theorem ok_order (T : Txt K mg C) {f : Addr} {fd : FuncData} (F : Fun K "order" "House.order" s_House_order f fd) : FnOk P w K mg base CX0 1 f fd ["self"] (spOrder C) := by
  refine F.ok sc_House_order (fun vs H Q E h => ?_) (fun cdv A outer s H vs Q E hr h => ?_)
  · obtain ⟨x, n, h, R, rfl, _⟩ := h; rfl
  · obtain ⟨x, n, h, R, rfl, ⟨dx, fs, be, o, h1, h2, h3, h4, h5, h6, h7, h8, h9⟩, q⟩ := h
    refine ⟨_, (pss_one (ps_ret (pe_callTy (lstOf_ K) (by rfl) T.list b_list (pa_cons (fld_ K (pv 0)) pa_nil)))), ?_⟩
    exact ⟨_, rfl, x, C, dx, _, _, rfl, h1, T.cl, T.nOrder, h6, o, _, rfl, .inl (SqL.of h7), fun l nl => q _ l (same_new nl) nl upd_same⟩
abbrev s_is_lamp : Stmt := top 14
theorem sc_is_lamp : FnScope ["house", "value"] ["house", "value"] (defScope s_is_lamp) := ⟨rfl, rfl, rfl, by decide +kernel, rfl, by decide +kernel, by decide +kernel⟩
-- slots of is_lamp: 0 house, 1 value
def spIsLamp (C : Addr) : Sp := fun vs H Q _ => ∃ (x : Addr) (n h : Nat) (R : Rel) (i : Int), vs = [.ref x, .int i] ∧ HouseAt C H x n h R ∧ Q (.bl (decide (0 ≤ i) && decide (i ≤ (n : Int) - 1))) H
theorem ok_is_lamp (T : Txt K mg C) {f : Addr} {fd : FuncData} (F : Fun K "is_lamp" "is_lamp" s_is_lamp f fd) (c_is_whole_in : Cal P w K mg base "is_whole_in" 2 spWholeIn) : FnOk P w K mg base CX0 3 f fd ["house", "value"] (spIsLamp C) := by
  refine F.ok sc_is_lamp (fun vs H Q E h => ?_) (fun cdv A outer s H vs Q E hr h => ?_)
  · obtain ⟨x, n, h, R, i, rfl, _⟩ := h; rfl
  · obtain ⟨x, n, h, R, i, rfl, ⟨dx, fs, be, o, h1, h2, h3, h4, h5, h6, h7, h8, h9⟩, q⟩ := h
    refine ⟨_, (pss_one (ps_ret (pe_cal c_is_whole_in (hr.mono (by decide)) (pa_cons (pv 1) (pa_cons pe_int (pa_cons (pe_op op_sub (fld_ K (pv 0)) pe_int) pa_nil)))))), ?_⟩
    exact ⟨_, rfl, _, rfl, x, C, dx, _, _, rfl, h1, T.cl, T.nCount, h2, _, _, rfl, rfl, i, 0, (n : Int) - 1, rfl, q⟩
abbrev s_check_lamp : Stmt := top 15
theorem sc_check_lamp : FnScope ["house", "lamp"] ["house", "lamp"] (defScope s_check_lamp) := ⟨rfl, rfl, rfl, by decide +kernel, rfl, by decide +kernel, by decide +kernel⟩
-- slots of check_lamp: 0 house, 1 lamp
def spCheckLamp (C : Addr) : Sp := fun vs H Q _ => ∃ (x : Addr) (n h : Nat) (R : Rel) (i : Int), vs = [.ref x, .int i] ∧ HouseAt C H x n h R ∧ 0 ≤ i ∧ i < (n : Int) ∧ Q .non H
theorem ok_check_lamp (T : Txt K mg C) {f : Addr} {fd : FuncData} (F : Fun K "check_lamp" "check_lamp" s_check_lamp f fd) (c_is_lamp : Cal P w K mg base "is_lamp" 3 (spIsLamp C)) : FnOk P w K mg base CX0 4 f fd ["house", "lamp"] (spCheckLamp C) := by
  refine F.ok sc_check_lamp (fun vs H Q E h => ?_) (fun cdv A outer s H vs Q E hr h => ?_)
  · obtain ⟨x, n, h, R, i, rfl, _⟩ := h; rfl
  · obtain ⟨x, n, h, R, i, rfl, ha, i0, i1, q⟩ := h
    refine ⟨_, (pss_one (ps_if (pt_not (pt_val (pe_cal c_is_lamp (hr.mono (by decide)) (pa_cons (pv 0) (pa_cons (pv 1) pa_nil)))))
      pss_never pss_nil)), ?_⟩
    refine ⟨_, rfl, _, rfl, x, n, h, R, i, rfl, ha, _, rfl, ifF ?_ q⟩
    rw [decide_eq_true i0, decide_eq_true (by omega : i ≤ (n : Int) - 1)] <;> rfl
abbrev s_House_beneath : Stmt := inClass (top 13) 5
theorem sc_House_beneath : FnScope ["self", "lamp"] ["self", "lamp"] (defScope s_House_beneath) := ⟨rfl, rfl, rfl, by decide +kernel, rfl, by decide +kernel, by decide +kernel⟩
-- slots of House.beneath: 0 self, 1 lamp
def spBeneath (C : Addr) : Sp := fun vs H Q _ => ∃ (x : Addr) (n h k : Nat) (R : Rel), vs = [.ref x, .int k] ∧ HouseAt C H x n h R ∧ k < n ∧ ∀ (H' : Hp) (p : Addr), Same H H' → H p = Option.none → H' p = some (.lst (nL (Bel n R k))) → Q (.ref p) H'
theorem ok_beneath (T : Txt K mg C) {f : Addr} {fd : FuncData} (F : Fun K "beneath" "House.beneath" s_House_beneath f fd) (c_check_lamp : Cal P w K mg base "check_lamp" 4 (spCheckLamp C)) : FnOk P w K mg base CX0 5 f fd ["self", "lamp"] (spBeneath C) := by
  refine F.ok sc_House_beneath (fun vs H Q E h => ?_) (fun cdv A outer s H vs Q E hr h => ?_)
  · obtain ⟨x, n, h, k, R, rfl, _⟩ := h; rfl
  · obtain ⟨x, n, h, k, R, rfl, ha, hk, q⟩ := h
    obtain ⟨dx, fs, be, o, h1, h2, h3, h4, h5, h6, h7, h8, h9⟩ := id ha
    refine ⟨_, (pss_cons (ps_expr (pe_cal c_check_lamp (hr.mono (by decide)) (pa_cons (pv 0) (pa_cons (pv 1) pa_nil))))
      (pss_one (ps_ret (pe_callTy (lstOf_ K) (by rfl) T.list b_list (pa_cons (pe_ix (ixL_ K) (fld_ K (pv 0)) (pv 1) (fun _ _ => rfl)) pa_nil))))), ?_⟩
    obtain ⟨xs, al, hb, _, hal, hL⟩ := h5.at (relRows_at (R := R) hk)
    refine ⟨_, rfl, _, rfl, x, n, h, R, k, rfl, ha, by omega, by omega, ?_⟩
    exact ⟨_, rfl, x, C, dx, _, _, rfl, h1, T.cl, T.nBen, h4, _, rfl, be, xs, _, _, rfl, rfl, SqL.of hb, atI_nat hal, al, _, rfl, .inl (SqL.of hL), fun l nl => q _ l (same_new nl) nl upd_same⟩
abbrev s_is_state : Stmt := top 24
theorem sc_is_state : FnScope ["house", "value", "hue"] ["house", "value"] (defScope s_is_state) := ⟨rfl, rfl, rfl, by decide +kernel, rfl, by decide +kernel, by decide +kernel⟩
-- slots of is_state: 0 house, 1 value, 2 hue
def spIsState (C : Addr) : Sp := fun vs H Q _ => ∃ (x t : Addr) (n h : Nat) (R : Rel) (S : List Int), vs = [.ref x, .ref t] ∧ HouseAt C H x n h R ∧ n ≤ 16 ∧ H t = some (.tup (stV S)) ∧ StOk n h S ∧ ∀ H', Same H H' → Q (.bl true) H'
theorem ok_is_state (T : Txt K mg C) {f : Addr} {fd : FuncData} (F : Fun K "is_state" "is_state" s_is_state f fd) (c_is_whole_in : Cal P w K mg base "is_whole_in" 2 spWholeIn) : FnOk P w K mg base CX0 3 f fd ["house", "value"] (spIsState C) := by
  refine F.ok sc_is_state (fun vs H Q E h => ?_) (fun cdv A outer s H vs Q E hr h => ?_)
  · obtain ⟨x, t, n, h, R, S, rfl, _⟩ := h; rfl
  · obtain ⟨x, t, n, h, R, S, rfl, ha, n16, ht, hS, q⟩ := h
    obtain ⟨dx, fs, be, o, h1, h2, h3, h4, h5, h6, h7, h8, h9⟩ := id ha
    refine ⟨_, (pss_cons (ps_if (PW.pt (pw_or (pt_not (pt_val (pe_callB (isi_ K) (by rfl) T.isinstance b_isinstance (pa_cons (pv 1) (pa_cons (pe_bltn (v := .ty "tuple") (by rfl) T.tuple b_tuple rfl) pa_nil))))) (pw_or1 (pt_cmpR op_ne (pe_callB (lenS_ K) (by rfl) T.len b_len (pa_cons (pv 1) pa_nil)) (fld_ K (pv 0)) (nomark _)))))
      (pss_one (ps_ret pe_bl)) pss_nil)
      (pss_one (ps_ret (pe_callB (all_ K rfl) (by rfl) T.all b_all (pa_cons (pe_lc (own := [("hue", 2)]) (g := gName 2) (tt := tYes) rfl sc_is_state.nd (pit_ K (pv 1)) (blkOk_by (by kernel_rfl)) (fun _ _ _ _ _ => (pg_name (i := 2) sc_is_state.nd rfl (by first | exact Or.inl rfl | exact Or.inr rfl))) (fun _ _ _ _ _ => pts_nil) (fun _ _ _ _ _ => (pe_cal c_is_whole_in (hr.mono (by decide)) (pa_cons (pv 2) (pa_cons pe_int (pa_cons (pe_op op_sub (fld_ K (pv 0)) pe_int) pa_nil)))))) pa_nil))))), ?_⟩
    refine ⟨_, rfl, _, _, _, _, true, rfl, .ty _, .base (.tup ht), kit_ty (by decide +kernel), true, rfl, iteF ?_⟩
    refine ⟨_, rfl, t, _, rfl, .inr (SqT.of ht), _, rfl, x, C, dx, _, _, rfl, h1, T.cl, T.nCount, h2, rfl, _, rfl, iteNS ?_ ?_⟩
    · rw [List.length_map, hS.1]
    refine ⟨_, rfl, t, rfl, ⟨_, SqT.of ht⟩, fun D hD => ?_⟩
    refine lc_it (walk_tup (xs := stV S)) (fun j H2 => H2 D = some (.lst ((List.replicate j true).map V.bl)) ∧ Same H H2) ⟨upd_same, same_new hD⟩ (fun j H2 _ ⟨_, s⟩ => SqT.of (s _ _ ht)) ?_ ?_
    · rintro j y H2 H3 hj ⟨h2', s2⟩ ⟨rfl, hy⟩
      rw [List.length_map, hS.1] at hj
      rw [stV_get (by rw [hS.1]; exact hj)] at hy
      cases hy
      obtain ⟨b1, b2⟩ := hS.at hj
      refine ⟨rfl, yesT ⟨_, rfl, _, rfl, x, C, dx, _, _, rfl, s2 _ _ h1, T.cl, T.nHues, h3, _, _, rfl, rfl, at_ S j, 0, (h : Int) - 1, rfl, ?_⟩⟩
      rw [decide_eq_true b1, decide_eq_true (by omega : at_ S j ≤ (h : Int) - 1)]
      refine ⟨_, h2', by rw [List.length_map, List.length_replicate, sizeLine_eq]; omega, ?_, same_upd s2 hD⟩
      rw [upd_same, List.replicate_succ', List.map_append]
      rfl
    · rintro H2 ⟨h2', s2⟩
      refine ⟨D, _, rfl, SqL.of h2', ?_⟩
      have e : (List.replicate (stV S).length true).all id = true := by simp
      rw [e]
      exact q H2 s2
abbrev s_check_state : Stmt := top 25
theorem sc_check_state : FnScope ["house", "state"] ["house", "state"] (defScope s_check_state) := ⟨rfl, rfl, rfl, by decide +kernel, rfl, by decide +kernel, by decide +kernel⟩
-- slots of check_state: 0 house, 1 state
theorem ok_check_state (T : Txt K mg C) {f : Addr} {fd : FuncData} (F : Fun K "check_state" "check_state" s_check_state f fd) (c_is_state : Cal P w K mg base "is_state" 3 (spIsState C)) :
    FnOk P w K mg base CX0 4 f fd ["house", "state"] (fun vs H Q _ => ∃ (x t : Addr) (n h : Nat) (R : Rel) (S : List Int), vs = [.ref x, .ref t] ∧ HouseAt C H x n h R ∧ n ≤ 16 ∧ H t = some (.tup (stV S)) ∧ StOk n h S ∧ ∀ H', Same H H' → Q .non H') := by
  refine F.ok sc_check_state (fun vs H Q E h => ?_) (fun cdv A outer s H vs Q E hr h => ?_)
  · obtain ⟨x, t, n, h, R, S, rfl, _⟩ := h; rfl
  · obtain ⟨x, t, n, h, R, S, rfl, ha, n16, ht, hS, q⟩ := h
    refine ⟨_, (pss_one (ps_if (pt_not (pt_val (pe_cal c_is_state (hr.mono (by decide)) (pa_cons (pv 0) (pa_cons (pv 1) pa_nil)))))
      pss_never pss_nil)), ?_⟩
    exact ⟨_, rfl, _, rfl, x, t, n, h, R, S, rfl, ha, n16, ht, hS, fun H' s => ⟨_, rfl, iteF (q H' s)⟩⟩
def spCheckState (C : Addr) : Sp := fun vs H Q _ => ∃ (x t : Addr) (n h : Nat) (R : Rel) (S : List Int), vs = [.ref x, .ref t] ∧ HouseAt C H x n h R ∧ n ≤ 16 ∧ H t = some (.tup (stV S)) ∧ StOk n h S ∧ ∀ H', Same H H' → Q .non H'
end
end Hue

end
section
set_option maxRecDepth 100000
namespace Hue
open PySem PySem.Spec PyProof.Rows L2
section
variable {P : Program} {w : World} {K : PySem.W.Frag} {mg : Str → Option Value} {base : Heap} {C : Addr}
/-! ### the box of draws -/
def bxV (i0 i1 i2 i3 : Int) (cs : List Int) : List V := V.int i0 :: V.int i1 :: V.int i2 :: V.int i3 :: cs.map V.int
/-- the box at b -/
def Box (H : Hp) (b : Addr) : Prop := ∃ (i0 i1 i2 i3 : Int) (cs : List Int), H b = some (.lst (bxV i0 i1 i2 i3 cs)) ∧ 4 ≤ i0 ∧ 0 ≤ i1 ∧ cs.length ≤ 63
theorem Box.same {H H' : Hp} {b : Addr} (h : Box H b) (s : Same H H') : Box H' b := by
  obtain ⟨i0, i1, i2, i3, cs, e, r⟩ := h
  exact ⟨i0, i1, i2, i3, cs, s _ _ e, r⟩
theorem Box.upd {H : Hp} {b a : Addr} {o : HO} (h : Box H b) (n : a ≠ b) : Box (upd H a o) b := by
  obtain ⟨i0, i1, i2, i3, cs, e, r⟩ := h
  exact ⟨i0, i1, i2, i3, cs, by rw [upd_ne n.symm]; exact e, r⟩
theorem Box.new {H : Hp} {b a : Addr} (h : Box H b) (n : H a = Option.none) : a ≠ b := by
  obtain ⟨i0, i1, i2, i3, cs, e, r⟩ := h
  exact (ne_of_none e n).symm
/-- what stood in H0, where the box was not, stands still -/
theorem SB.past {H0 H H' : Hp} {b : Addr} (s : Same H0 H) (n : H0 b = Option.none) (t : SB b H H') : Same H0 H' := fun a o e => t a o (ne_of_none e n) (s a o e)
theorem mod_nat {i : Int} {m : Nat} (hm : 1 ≤ m) : ∃ d : Nat, d < m ∧ i % (m : Int) = (d : Int) := by
  have h1 := Int.emod_nonneg i (by omega : (m : Int) ≠ 0)
  have h2 := Int.emod_lt_of_pos i (by omega : (0 : Int) < m)
  exact ⟨(i % (m : Int)).toNat, by omega, by omega⟩
theorem rem_small (x : Int) {m : Int} (m0 : 0 < m) (m1 : m ≤ 4294967296) : -(2 ^ 64) < x % m ∧ x % m < 2 ^ 64 := by
  have h1 := Int.emod_nonneg x (by omega : m ≠ 0)
  have h2 := Int.emod_lt_of_pos x m0
  omega
theorem rem_part (x : Int) {m : Int} (m0 : 0 < m) (m1 : m ≤ 4294967296) : -(2 ^ 64) < x % m / 32 ∧ x % m / 32 < 2 ^ 64 := by
  have h1 := Int.emod_nonneg x (by omega : m ≠ 0)
  have h2 := Int.emod_lt_of_pos x m0
  omega
theorem Same.sqL {K : PySem.W.Frag} {H H' : Hp} {a : Addr} {xs : List V} (e : Same H H') (h : SqL K H a xs) : SqL K H' a xs := by
  rcases h with (h | ⟨o, h⟩) | h
  · exact .inl (.inl (e _ _ h))
  · exact .inl (.inr ⟨o, e _ _ h⟩)
  · exact .inr h
abbrev s__law_box : Stmt := top 33
theorem sc__law_box : FnScope ["script", "cell"] ["script"] (defScope s__law_box) := ⟨rfl, rfl, rfl, by decide +kernel, rfl, by decide +kernel, by decide +kernel⟩
-- slots of _law_box: 0 script, 1 cell
def spBox (K : PySem.W.Frag) : Sp := fun vs H Q _ => ∃ (a : Addr) (ns : List Int), vs = [.ref a] ∧ SqL K H a (ns.map V.int) ∧ ns.length ≤ 63 ∧ ∀ (H' : Hp) (b : Addr), Same H H' → H b = Option.none → Box H' b → Q (.ref b) H'
theorem ok__law_box (T : Txt K mg C) {f : Addr} {fd : FuncData} (F : Fun K "_law_box" "_law_box" s__law_box f fd) : FnOk P w K mg base CX0 1 f fd ["script"] (spBox K) := by
  refine F.ok sc__law_box (fun vs H Q E h => ?_) (fun cdv A outer s H vs Q E hr h => ?_)
  · obtain ⟨a, ns, rfl, _⟩ := h; rfl
  · obtain ⟨a, ns, rfl, ha, few, q⟩ := h
    refine ⟨_, (pss_one (ps_ret (pe_op op_cat (pe_lst (pa_cons pe_int (pa_cons pe_int (pa_cons pe_int (pa_cons pe_int pa_nil))))) (pe_lc (own := [("cell", 1)]) (g := gName 1) (tt := tYes) rfl sc__law_box.nd (pil_ K (pe_slice (slL_ K) (pv 0) po_none (po_some pe_int))) (blkOk_by (by kernel_rfl)) (fun _ _ _ _ _ => (pg_name (i := 1) sc__law_box.nd rfl (by first | exact Or.inl rfl | exact Or.inr rfl))) (fun _ _ _ _ _ => pts_nil) (fun _ _ _ _ _ => (pe_callTy call_int1 (by rfl) T.int b_int (pa_cons (pv 1) pa_nil))))))), ?_⟩
    refine ⟨by show 4 ≤ sizeLine; decide, fun l nl => ?_⟩
    have s1 : Same H (upd H l (.lst [.int 4, .int 0, .int 2009, .int 0])) := same_new nl
    have hl1 : (upd H l (.lst [.int 4, .int 0, .int 2009, .int 0])) l = some (.lst [.int 4, .int 0, .int 2009, .int 0]) := upd_same
    obtain ⟨ms, ems, lms⟩ : ∃ ms : List Int, cutV (ns.map V.int) none (some 63) = ms.map V.int ∧ ms.length ≤ 63 := by
      refine ⟨(ns.drop (HT.sIx (ns.map V.int).length 0 none)).take (HT.sIx (ns.map V.int).length (ns.map V.int).length (some 63) - HT.sIx (ns.map V.int).length 0 none), ?_, ?_⟩
      · unfold cutV
        rw [List.map_take, List.map_drop]
      · rw [List.length_take, List.length_drop]
        omega
    have ha1 : SqL K (upd H l (.lst [.int 4, .int 0, .int 2009, .int 0])) a (ns.map V.int) := Same.sqL s1 ha
    have h0l : H l = Option.none := nl
    generalize upd H l (.lst [.int 4, .int 0, .int 2009, .int 0]) = H1 at s1 hl1 ha1 ⊢
    refine ⟨_, rfl, _, rfl, a, _, rfl, ha1, fun p np => ?_⟩
    rw [ems]
    have s2 : Same H1 (upd H1 p (.lst (ms.map V.int))) := same_new np
    have hp2 : (upd H1 p (.lst (ms.map V.int))) p = some (.lst (ms.map V.int)) := upd_same
    generalize upd H1 p (.lst (ms.map V.int)) = H2 at s2 hp2 ⊢
    refine ⟨p, rfl, ⟨_, SqL.of hp2⟩, fun D hD => ?_⟩
    refine lc_list (xs := ms.map V.int) (fun i H3 => H3 D = some (.lst ((ms.take i).map V.int)) ∧ Same H2 H3) ⟨upd_same, same_new hD⟩ (fun i H3 _ ⟨_, s⟩ => SqL.of (s _ _ hp2)) ?_ ?_
    · rintro i x H3 hx ⟨h3, s3⟩
      rw [List.getElem?_map] at hx
      obtain ⟨z, hz, rfl⟩ := Option.map_eq_some_iff.mp hx
      refine ⟨rfl, yesT ⟨_, rfl, .inl ⟨_, rfl, _, h3, ?_, ?_, same_upd s3 hD⟩⟩⟩
      · rw [List.length_map, List.length_take, sizeLine_eq]; omega
      · rw [upd_same, List.take_add_one, hz, List.map_append]; rfl
    · rintro H3 ⟨h3, s3⟩
      rw [List.length_map, List.take_length] at h3
      refine ⟨l, D, _, _, rfl, rfl, s3 _ _ (s2 _ _ hl1), h3, by rw [List.length_map, sizeLine_eq]; simp; omega, fun b nb => ?_⟩
      have s13 : Same H H3 := (s1.trans s2).trans s3
      exact q _ b (s13.trans (same_new nb)) (s13.free nb) ⟨4, 0, 2009, 0, ms, upd_same, by decide, by decide, lms⟩
abbrev s__law_mixed : Stmt := top 34
theorem sc__law_mixed : FnScope ["seed", "turn", "first", "second", "third"] ["seed", "turn"] (defScope s__law_mixed) := ⟨rfl, rfl, rfl, by decide +kernel, rfl, by decide +kernel, by decide +kernel⟩
-- slots of _law_mixed: 0 seed, 1 turn, 2 first, 3 second, 4 third
def spMixed : Sp := fun vs H Q _ => ∃ i j : Int, vs = [.int i, .int j] ∧ ∀ r : Int, Q (.int r) H
theorem ok__law_mixed (T : Txt K mg C) {f : Addr} {fd : FuncData} (F : Fun K "_law_mixed" "_law_mixed" s__law_mixed f fd) : FnOk P w K mg base CX0 1 f fd ["seed", "turn"] spMixed := by
  refine F.ok sc__law_mixed (fun vs H Q E h => ?_) (fun cdv A outer s H vs Q E hr h => ?_)
  · obtain ⟨i, j, rfl, _⟩ := h; rfl
  · obtain ⟨i, j, rfl, q⟩ := h
    refine ⟨_, (pss_cons (ps_set (i := 2) sc__law_mixed.nd rfl (by first | exact Or.inl rfl | exact Or.inr rfl) (pe_op op_mod (pe_callTy call_int1 (by rfl) T.int b_int (pa_cons (pe_op op_add (pe_op op_add (pe_op op_mul (pv 0) pe_int) (pe_op op_mul (pv 1) pe_int)) pe_int) pa_nil)) pe_int))
      (pss_cons (ps_set (i := 3) sc__law_mixed.nd rfl (by first | exact Or.inl rfl | exact Or.inr rfl) (pe_op op_mod (pe_callTy call_int1 (by rfl) T.int b_int (pa_cons (pe_op op_add (pe_op op_add (pe_op op_mul (pv 2) (pv 2)) (pe_op op_mul (pv 1) pe_int)) (pe_op op_fdiv (pv 2) pe_int)) pa_nil)) pe_int))
      (pss_cons (ps_set (i := 4) sc__law_mixed.nd rfl (by first | exact Or.inl rfl | exact Or.inr rfl) (pe_op op_mod (pe_callTy call_int1 (by rfl) T.int b_int (pa_cons (pe_op op_add (pe_op op_mul (pv 3) pe_int) (pe_op op_mul (pe_op op_fdiv (pv 3) pe_int) (pe_op op_add (pv 1) pe_int))) pa_nil)) pe_int))
      (pss_one (ps_ret (pe_op op_fdiv (pv 4) pe_int)))))), ?_⟩
    refine ⟨_, rfl, _, _, rfl, rfl, .inr ⟨by decide, by decide⟩, _, rfl, _, _, rfl, rfl, .inr ⟨by decide, by decide⟩, _, _, rfl, rfl, _, _, rfl, rfl, .inl ⟨_, rfl, _, _, rfl, rfl, (by show (0 : Int) < 2147483647; decide), ?_⟩⟩
    refine ⟨_, rfl, _, rfl, _, _, rfl, rfl, .inr (rem_small _ (by decide) (by decide)), _, rfl, _, _, rfl, rfl, .inr ⟨by decide, by decide⟩, _, _, rfl, rfl, _, rfl, _, _, rfl, rfl, ⟨by decide, by decide⟩, _, _, rfl, rfl, .inl ⟨_, rfl, _, _, rfl, rfl, (by show (0 : Int) < 2147483587; decide), ?_⟩⟩
    refine ⟨_, rfl, _, _, rfl, rfl, .inr ⟨by decide, by decide⟩, _, rfl, _, _, rfl, rfl, ⟨by decide, by decide⟩, _, rfl, _, _, rfl, rfl, _, _, rfl, rfl, .inl (rem_part _ (by decide) (by decide)), _, _, rfl, rfl, .inl ⟨_, rfl, _, _, rfl, rfl, (by show (0 : Int) < 2147483563; decide), ?_⟩⟩
    exact ⟨_, rfl, _, _, rfl, rfl, ⟨by decide, by decide⟩, q _⟩
abbrev s__law_take : Stmt := top 35
theorem sc__law_take : FnScope ["box", "many", "cell", "digit"] ["box", "many"] (defScope s__law_take) := ⟨rfl, rfl, rfl, by decide +kernel, rfl, by decide +kernel, by decide +kernel⟩
-- slots of _law_take: 0 box, 1 many, 2 cell, 3 digit
def spTake : Sp := fun vs H Q _ => ∃ (b : Addr) (m : Nat), vs = [.ref b, .int m] ∧ 1 ≤ m ∧ m < 1000000 ∧ Box H b ∧ ∀ (d : Nat) (H' : Hp), d < m → SB b H H' → Box H' b → Q (.int d) H'
theorem bx_get {i0 i1 i2 i3 : Int} {cs : List Int} {k : Nat} {z : Int} (h : (i0 :: i1 :: i2 :: i3 :: cs)[k]? = some z) : (bxV i0 i1 i2 i3 cs)[k]? = some (V.int z) := by
  have e : bxV i0 i1 i2 i3 cs = (i0 :: i1 :: i2 :: i3 :: cs).map V.int := rfl
  rw [e, List.getElem?_map, h]; rfl
theorem bx_len (i0 i1 i2 i3 : Int) (cs : List Int) : (bxV i0 i1 i2 i3 cs).length = 4 + cs.length := by
  unfold bxV
  simp
  omega
theorem bx0 {i0 i1 i2 i3 : Int} {cs : List Int} : atI (bxV i0 i1 i2 i3 cs) 0 = some (V.int i0) := atI_nat (j := 0) (bx_get rfl)
theorem bx1 {i0 i1 i2 i3 : Int} {cs : List Int} : atI (bxV i0 i1 i2 i3 cs) 1 = some (V.int i1) := atI_nat (j := 1) (bx_get rfl)
theorem bx2 {i0 i1 i2 i3 : Int} {cs : List Int} : atI (bxV i0 i1 i2 i3 cs) 2 = some (V.int i2) := atI_nat (j := 2) (bx_get rfl)
theorem bx3 {i0 i1 i2 i3 : Int} {cs : List Int} : atI (bxV i0 i1 i2 i3 cs) 3 = some (V.int i3) := atI_nat (j := 3) (bx_get rfl)
theorem bxI {i0 i1 i2 i3 : Int} {cs : List Int} {k : Nat} (h : k < 4) : ixN (bxV i0 i1 i2 i3 cs).length (k : Int) = some k := ixN_nat (by rw [bx_len]; omega)
theorem ok__law_take (T : Txt K mg C) {f : Addr} {fd : FuncData} (F : Fun K "_law_take" "_law_take" s__law_take f fd) (c__law_mixed : Cal P w K mg base "_law_mixed" 1 spMixed) : FnOk P w K mg base CX0 2 f fd ["box", "many"] spTake := by
  refine F.ok sc__law_take (fun vs H Q E h => ?_) (fun cdv A outer s H vs Q E hr h => ?_)
  · obtain ⟨b, m, rfl, _⟩ := h; rfl
  · obtain ⟨b, m, rfl, m1, m2, ⟨i0, i1, i2, i3, cs, hb, j0, j1, lc⟩, q⟩ := h
    refine ⟨_, (C8.pss_cut (ps_if (PW.pt (pw_and (pt_cmpR op_eq (pe_ix (ixL_ K) (pv 0) pe_int (fun _ _ => rfl)) pe_int (nomark _)) (pw_and1 (pt_cmpR op_lt (pe_ix (ixL_ K) (pv 0) pe_int (fun _ _ => rfl)) (pe_callB (lenS_ K) (by rfl) T.len b_len (pa_cons (pv 0) pa_nil)) (nomark _)))))
      (pss_cons (ps_set (i := 2) sc__law_take.nd rfl (by first | exact Or.inl rfl | exact Or.inr rfl) (pe_ix (ixL_ K) (pv 0) (pe_ix (ixL_ K) (pv 0) pe_int (fun _ _ => rfl)) (fun _ _ => rfl)))
      (pss_cons (ps_asg (pe_op op_add (pe_ix (ixL_ K) (pv 0) pe_int (fun _ _ => rfl)) pe_int) (pg_sub (pv 0) pe_int set_list))
      (pss_one (ps_if (pt_cmpR op_ge (pv 2) (pe_op op_pow pe_int pe_int) (nomark _))
      (pss_one (ps_asg (pv 2) (pg_sub (pv 0) pe_int set_list))) (pss_one (ps_asg (pe_op op_mod (pe_callTy call_int1 (by rfl) T.int b_int (pa_cons (pe_op op_add (pe_op op_add (pe_op op_mul (pe_ix (ixL_ K) (pv 0) pe_int (fun _ _ => rfl)) pe_int) (pe_op op_mul (pv 2) pe_int)) pe_int) pa_nil)) pe_int) (pg_sub (pv 0) pe_int set_list))))))) pss_nil)
      (pss_cons (ps_if (pt_cmpR op_gt (pe_ix (ixL_ K) (pv 0) pe_int (fun _ _ => rfl)) pe_int (nomark _))
      (pss_cons (ps_set (i := 3) sc__law_take.nd rfl (by first | exact Or.inl rfl | exact Or.inr rfl) (pe_op op_mod (pe_callTy call_int1 (by rfl) T.int b_int (pa_cons (pe_ix (ixL_ K) (pv 0) pe_int (fun _ _ => rfl)) pa_nil)) (pv 1)))
      (pss_cons (ps_asg (pe_op op_fdiv (pe_ix (ixL_ K) (pv 0) pe_int (fun _ _ => rfl)) (pv 1)) (pg_sub (pv 0) pe_int set_list))
      (pss_one (ps_ret (pv 3))))) pss_nil)
      (pss_cons (ps_asg (pe_op op_add (pe_ix (ixL_ K) (pv 0) pe_int (fun _ _ => rfl)) pe_int) (pg_sub (pv 0) pe_int set_list))
      (pss_one (ps_ret (pe_op op_mod (pe_callTy call_int1 (by rfl) T.int b_int (pa_cons (pe_cal c__law_mixed (hr.mono (by decide)) (pa_cons (pe_ix (ixL_ K) (pv 0) pe_int (fun _ _ => rfl)) (pa_cons (pe_ix (ixL_ K) (pv 0) pe_int (fun _ _ => rfl)) pa_nil))) pa_nil)) (pv 1))))))), ?_⟩
    refine ⟨fun σ H2 => ∃ v2 v3 : Option V, σ = [some (.ref b), some (.int m), v2, v3] ∧ SB b H H2 ∧ ∃ (i0 i1 i2 i3 : Int) (cs : List Int), H2 b = some (.lst (bxV i0 i1 i2 i3 cs)) ∧ 4 ≤ i0 ∧ 0 ≤ i1 ∧ cs.length ≤ 63, ?_, ?_⟩
    · refine ⟨_, rfl, b, _, _, _, rfl, rfl, SqL.of hb, bx1, rfl, _, rfl, ?_⟩
      refine ite2 (fun hz => ?_) (fun _ => ⟨_, _, rfl, SB.refl b H, i0, i1, i2, i3, cs, hb, j0, j1, lc⟩)
      refine ⟨_, rfl, b, _, _, _, rfl, rfl, SqL.of hb, bx0, _, rfl, b, _, rfl, .inl (SqL.of hb), _, _, rfl, rfl, _, rfl, ?_⟩
      refine ite2 (fun hlt => ?_) (fun _ => ⟨_, _, rfl, SB.refl b H, i0, i1, i2, i3, cs, hb, j0, j1, lc⟩)
      have lt : i0 < ((bxV i0 i1 i2 i3 cs).length : Int) := of_decide_eq_true hlt
      rw [bx_len] at lt
      obtain ⟨k, rfl⟩ : ∃ k : Nat, i0 = (k : Int) := ⟨i0.toNat, by omega⟩
      obtain ⟨z, hz⟩ : ∃ z, ((k : Int) :: i1 :: i2 :: i3 :: cs)[k]? = some z := ⟨_, List.getElem?_eq_getElem (by simp only [List.length_cons]; omega)⟩
      refine ⟨_, rfl, _, rfl, b, _, _, _, rfl, rfl, SqL.of hb, bx0, b, _, _, _, rfl, rfl, SqL.of hb, atI_nat (bx_get hz), ?_⟩
      refine ⟨_, rfl, b, _, _, _, rfl, rfl, SqL.of hb, bx0, _, _, rfl, rfl, _, rfl, set_at hb (bxI (k := 0) (by decide)) fun H1 s1 h1 => ?_⟩
      have h1 : H1 b = some (.lst (bxV ((k : Int) + 1) i1 i2 i3 cs)) := h1
      refine ⟨_, rfl, _, _, rfl, rfl, ⟨by decide, by decide, by decide⟩, _, _, rfl, rfl, _, rfl, ?_⟩
      refine ite2 (fun hbig => ?_) (fun _ => ?_)
      · have big : (10 : Int) ^ 18 ≤ z := of_decide_eq_true hbig
        have z0 : 0 ≤ z := Int.le_trans (by decide) big
        refine ⟨_, rfl, _, rfl, set_at h1 (bxI (k := 1) (by decide)) fun H2 s2 h2 => ⟨_, _, rfl, s1.trans s2, (k : Int) + 1, z, i2, i3, cs, h2, by omega, z0, lc⟩⟩
      · refine ⟨_, rfl, b, _, _, _, rfl, rfl, SqL.of h1, bx2, _, _, rfl, rfl, .inr ⟨by decide, by decide⟩, _, rfl, _, _, rfl, rfl, .inr ⟨by decide, by decide⟩, _, _, rfl, rfl, _, _, rfl, rfl, .inl ⟨_, rfl, _, _, rfl, rfl, (by show (0 : Int) < 2147483629; decide), _, rfl, set_at h1 (bxI (k := 2) (by decide)) fun H2 s2 h2 => ⟨_, _, rfl, s1.trans s2, (k : Int) + 1, i1, _, i3, cs, h2, by omega, j1, lc⟩⟩⟩
    · rintro σ H2 ⟨v2, v3, rfl, s2, i0, i1, i2, i3, cs, h2, j0, j1, lc⟩
      refine ⟨_, rfl, b, _, _, _, rfl, rfl, SqL.of h2, bx1, _, _, rfl, rfl, _, rfl, ?_⟩
      refine ite2 (fun hpos => ?_) (fun _ => ?_)
      · obtain ⟨d, hd, ed⟩ := mod_nat (i := i1) m1
        refine ⟨_, rfl, b, _, _, _, rfl, rfl, SqL.of h2, bx1, .inl ⟨_, rfl, _, rfl, _, _, rfl, rfl, (by show (0 : Int) < (m : Int); omega), ?_⟩⟩
        refine ⟨_, rfl, b, _, _, _, rfl, rfl, SqL.of h2, bx1, _, rfl, _, _, rfl, rfl, ⟨(by show (0 : Int) < (m : Int); omega), (by show (m : Int) < 1073741824; omega)⟩, _, rfl, set_at h2 (bxI (k := 1) (by decide)) fun H3 s3 h3 => ?_⟩
        refine ⟨_, rfl, ?_⟩
        show Q (V.int (i1 % (m : Int))) H3
        rw [ed]
        exact q d H3 hd (s2.trans s3) ⟨i0, i1 / (m : Int), i2, i3, cs, h3, j0, Int.ediv_nonneg j1 (by omega), lc⟩
      · refine ⟨_, rfl, b, _, _, _, rfl, rfl, SqL.of h2, bx3, _, _, rfl, rfl, _, rfl, set_at h2 (bxI (k := 3) (by decide)) fun H3 s3 h3 => ?_⟩
        have h3 : H3 b = some (.lst (bxV i0 i1 i2 (i3 + 1) cs)) := h3
        refine ⟨_, rfl, b, _, _, _, rfl, rfl, SqL.of h3, bx2, _, rfl, b, _, _, _, rfl, rfl, SqL.of h3, bx3, i2, i3 + 1, rfl, fun r => .inl ⟨_, rfl, _, rfl, _, _, rfl, rfl, (by show (0 : Int) < (m : Int); omega), ?_⟩⟩
        obtain ⟨d, hd, ed⟩ := mod_nat (i := r) m1
        show Q (V.int (r % (m : Int))) H3
        rw [ed]
        exact q d H3 hd (s2.trans s3) ⟨i0, i1, i2, i3 + 1, cs, h3, j0, j1, lc⟩
end
end Hue

end
section
set_option maxRecDepth 100000
namespace Hue
open PySem PySem.Spec PyProof.Rows L2
section
variable {P : Program} {w : World} {K : PySem.W.Frag} {mg : Str → Option Value} {base : Heap} {C : Addr}
theorem Box.at {H : Hp} {b : Addr} (h : Box H b) : ∃ xs, H b = some (.lst xs) := let ⟨_, _, _, _, _, e, _⟩ := h; ⟨_, e⟩
theorem Pairs.sb {H H' : Hp} {p : Addr} {xs : List V} {ts : List Addr} {ps : List (Nat × Nat)} (h : Pairs H ts ps) (hp : H p = some (.lst xs)) (s : SB p H H') : Pairs H' ts ps :=
  ⟨h.1, fun i t q a b => s _ _ (ne_of (h.2 i t q a b) hp (by intro z; cases z)) (h.2 i t q a b)⟩
theorem none_back {H H' : Hp} {a b : Addr} (s : SB b H H') (ne : a ≠ b) (n : H' a = Option.none) : H a = Option.none := by
  cases e : H a with
  | none => rfl
  | some o => rw [s _ _ ne e] at n; cases n
/-! ### the line of the lamps -/
abbrev s__law_line : Stmt := top 36
theorem sc__law_line : FnScope ["box", "count", "line", "lamp"] ["box", "count"] (defScope s__law_line) := ⟨rfl, rfl, rfl, by decide +kernel, rfl, by decide +kernel, by decide +kernel⟩
-- slots of _law_line: 0 box, 1 count, 2 line, 3 lamp
def LineOk (n : Nat) (line : List Nat) : Prop := line.length = n ∧ line.Nodup ∧ ∀ k ∈ line, k < n
def spLine : Sp := fun vs H Q _ => ∃ (b : Addr) (n : Nat), vs = [.ref b, .int n] ∧ n ≤ 16 ∧ Box H b ∧ ∀ (line : List Nat) (t : Addr) (H' : Hp), LineOk n line → SB b H H' → Box H' b → t ≠ b → H' t = some (.lst (nL line)) → Q (.ref t) H'
theorem nL_take (l : List Nat) (k : Nat) : (nL l).take k = nL (l.take k) := by unfold nL nI; rw [← List.map_take, ← List.map_take]
theorem nL_drop (l : List Nat) (k : Nat) : (nL l).drop k = nL (l.drop k) := by unfold nL nI; rw [← List.map_drop, ← List.map_drop]
theorem ok__law_line (T : Txt K mg C) {f : Addr} {fd : FuncData} (F : Fun K "_law_line" "_law_line" s__law_line f fd) (c__law_take : Cal P w K mg base "_law_take" 2 spTake) : FnOk P w K mg base CX0 3 f fd ["box", "count"] spLine := by
  refine F.ok sc__law_line (fun vs H Q E h => ?_) (fun cdv A outer s H vs Q E hr h => ?_)
  · obtain ⟨b, n, rfl, _⟩ := h; rfl
  · obtain ⟨b, n, rfl, n16, hb, q⟩ := h
    refine ⟨_, (pss_cons (ps_set (i := 2) sc__law_line.nd rfl (by first | exact Or.inl rfl | exact Or.inr rfl) (pe_lst pa_nil))
      (pss_cons (ps_for PassesOwn.never rfl (pi_range1 (by rfl) T.range (pa_cons (pv 1) pa_nil)) (pg_name (i := 3) sc__law_line.nd rfl (by first | exact Or.inl rfl | exact Or.inr rfl))
      (pss_one (ps_expr (pe_bm PySem.F.plainAttrs_list PySem.F.slot_list_insert PySem.F.type_list_insert mt_insert (pv 2) (pa_cons (pe_cal c__law_take (hr.mono (by decide)) (pa_cons (pv 0) (pa_cons (pe_op op_add (pv 3) pe_int) pa_nil))) (pa_cons (pv 3) pa_nil))))))
      (pss_one (ps_ret (pv 2))))), ?_⟩
    refine ⟨by decide, fun l nl => ?_⟩
    have nlb : l ≠ b := hb.new nl
    have hl0 : H l = Option.none := nl
    refine ⟨_, rfl, _, rfl, by omega, by omega, ?_⟩
    rw [Int.toNat_natCast]
    refine for_range (fun i σ H2 => ∃ (v : Option V) (line : List Nat), σ = [some (.ref b), some (.int n), some (.ref l), v] ∧ SB b H H2 ∧ Box H2 b ∧ H2 l = some (.lst (nL line)) ∧ line.Perm (List.range i))
      ⟨_, [], rfl, SB.of (same_new nl), hb.same (same_new nl), upd_same, .refl _⟩ ?_ ?_
    · rintro i σ H2 hi ⟨v, line, rfl, sb2, b2, hl2, perm⟩
      have e0 : (0 : Int) + (i : Int) = (i : Int) := by omega
      rw [e0]
      have len : line.length = i := by rw [perm.length_eq, List.length_range]
      have e1 : (i : Int) + 1 = ((i + 1 : Nat) : Int) := by omega
      refine ⟨_, rfl, .inl ⟨rfl, _, SqL.of hl2⟩, _, rfl, _, rfl, _, _, rfl, rfl, b, i + 1, by rw [← e1], by omega, by omega, b2, fun d H3 hd s3 b3 => ?_⟩
      have hl3 := s3 _ _ nlb hl2
      refine ⟨_, rfl, l, nL line, (d : Int), V.int (i : Int), rfl, rfl, hl3, by rw [nL_len, len, sizeLine_eq]; omega, by omega, by omega, ?_⟩
      rw [Int.toNat_natCast, nL_take, nL_drop, ← nL_one, ← nL_app, ← nL_app]
      refine ⟨_, line.take d ++ [i] ++ line.drop d, rfl, fun a o na e => by rw [upd_ne (ne_of_none e hl0)]; exact (sb2.trans s3) a o na e, b3.upd nlb, upd_same, ?_⟩
      have p1 : (line.take d ++ [i] ++ line.drop d).Perm (i :: (line.take d ++ line.drop d)) := by
        rw [List.append_assoc]
        exact List.perm_middle
      rw [List.take_append_drop] at p1
      rw [List.range_succ]
      exact p1.trans ((perm.cons i).trans (List.perm_append_singleton i _).symm)
    · rintro σ H2 ⟨v, line, rfl, sb2, b2, hl2, perm⟩
      exact ⟨_, rfl, q line l H2 ⟨by rw [perm.length_eq, List.length_range], perm.nodup_iff.mpr List.nodup_range, fun k hk => List.mem_range.mp (perm.mem_iff.mp hk)⟩ sb2 b2 nlb hl2⟩
end
end Hue

end
section
set_option maxRecDepth 100000
namespace Hue
open PySem PySem.Spec PyProof.Rows L2
section
variable {P : Program} {w : World} {K : PySem.W.Frag} {mg : Str → Option Value} {base : Heap} {C : Addr}
/-- the pairs lead down the line, all drawn before (lo, hi) -/
def DownI (line : List Nat) (lo hi : Nat) (ps : List (Nat × Nat)) : Prop := ∀ p ∈ ps, ∃ h l, h < l ∧ (l < lo ∨ (l = lo ∧ h < hi)) ∧ line[h]? = some p.1 ∧ line[l]? = some p.2
def Down (line : List Nat) (ps : List (Nat × Nat)) : Prop := ∀ p ∈ ps, ∃ h l : Nat, h < l ∧ line[h]? = some p.1 ∧ line[l]? = some p.2
def Tri : Nat → Nat
  | 0 => 0
  | k + 1 => Tri k + k
theorem tri16 : ∀ n, n ≤ 16 → Tri n < 121 := by decide
theorem nodup_at {l : List Nat} (nd : l.Nodup) {i j k : Nat} (h1 : l[i]? = some k) (h2 : l[j]? = some k) : i = j := by
  obtain ⟨a1, a2⟩ := List.getElem?_eq_some_iff.mp h1
  obtain ⟨b1, b2⟩ := List.getElem?_eq_some_iff.mp h2
  rcases Nat.lt_trichotomy i j with h | h | h
  · exact absurd (a2.trans b2.symm) (List.pairwise_iff_getElem.mp nd i j a1 b1 h)
  · exact h
  · exact absurd (b2.trans a2.symm) (List.pairwise_iff_getElem.mp nd j i b1 a1 h)
/-- the wires so far -/
structure WBox (H0 H : Hp) (b wz : Addr) (line : List Nat) (lo hi : Nat) : Prop where
  sb : SB b H0 H
  box : Box H b
  ne : wz ≠ b
  new : H0 wz = Option.none
  ex : ∃ (ts : List Addr) (ps : List (Nat × Nat)), H wz = some (.lst (ts.map V.ref)) ∧ Pairs H ts ps ∧ DownI line lo hi ps ∧ ps.Nodup ∧ ps.length ≤ Tri lo + hi
namespace WBox
variable {H0 H H' : Hp} {b wz : Addr} {line : List Nat} {lo hi : Nat}
theorem draw (h : WBox H0 H b wz line lo hi) (s : SB b H H') (box : Box H' b) : WBox H0 H' b wz line lo hi := by
  obtain ⟨xs, hp⟩ := h.box.at
  obtain ⟨ts, ps, a, b, c, d, e⟩ := h.ex
  exact ⟨h.sb.trans s, box, h.ne, h.new, ts, ps, s _ _ h.ne a, b.sb hp s, c, d, e⟩
theorem row (h : WBox H0 H b wz line lo hi) (le : hi ≤ lo) : WBox H0 H b wz line (lo + 1) 0 := by
  obtain ⟨ts, ps, a, b, c, d, e⟩ := h.ex
  refine ⟨h.sb, h.box, h.ne, h.new, ts, ps, a, b, fun q hq => ?_, d, ?_⟩
  · obtain ⟨x, y, h1, h2, h3⟩ := c q hq
    exact ⟨x, y, h1, by omega, h3⟩
  · show ps.length ≤ Tri lo + lo + 0
    omega
theorem upto (h : WBox H0 H b wz line lo hi) {hj : Nat} (le : hi ≤ hj) : WBox H0 H b wz line lo hj := by
  obtain ⟨ts, ps, a, b, c, d, e⟩ := h.ex
  refine ⟨h.sb, h.box, h.ne, h.new, ts, ps, a, b, fun q hq => ?_, d, by omega⟩
  obtain ⟨x, y, h1, h2, h3⟩ := c q hq
  exact ⟨x, y, h1, by omega, h3⟩
/-- one more: from the lamp at h of the line to that at lo -/
theorem add (W : WBox H0 H b wz line lo hi) (lnd : line.Nodup) {h k1 k2 : Nat} (ge : hi ≤ h) (lt : h < lo) (hk1 : line[h]? = some k1) (hk2 : line[lo]? = some k2) {t : Addr} (nt : H t = Option.none) (few : Tri lo + hi < 1000) :
    ∃ acc, (upd H t (.tup [.int (k1 : Int), .int (k2 : Int)])) wz = some (.lst acc) ∧ acc.length < sizeLine ∧ WBox H0 (upd (upd H t (.tup [.int (k1 : Int), .int (k2 : Int)])) wz (.lst (acc ++ [V.ref t]))) b wz line lo (h + 1) := by
  obtain ⟨ts, ps, hw, hps, dn, nd, len⟩ := W.ex
  have s11 : Same H (upd H t (.tup [.int (k1 : Int), .int (k2 : Int)])) := same_new nt
  have nwt : t ≠ wz := (ne_of_none hw nt).symm
  refine ⟨_, s11 _ _ hw, by rw [List.length_map, hps.1, sizeLine_eq]; omega, fun c o nb e => ?_, (W.box.same s11).upd W.ne, W.ne, W.new, ts ++ [t], ps ++ [(k1, k2)], by rw [upd_same, List.map_append]; rfl, ⟨by rw [List.length_append, List.length_append, hps.1]; rfl, fun i c r hc hr => ?_⟩, ?_, ?_, by rw [List.length_append, List.length_singleton]; omega⟩
  · rw [upd_ne (ne_of_none e W.new)]
    exact s11 _ _ (W.sb c o nb e)
  · rcases Nat.lt_or_ge i ts.length with l | g
    · rw [List.getElem?_append_left l] at hc
      rw [List.getElem?_append_left (by rw [← hps.1]; exact l)] at hr
      have z := hps.2 i c r hc hr
      rw [upd_ne (ne_of z hw (by intro z; cases z))]
      exact s11 _ _ z
    · rw [List.getElem?_append_right g] at hc
      rw [List.getElem?_append_right (by rw [← hps.1]; exact g)] at hr
      have j0 : i - ts.length = 0 := by
        rcases Nat.eq_zero_or_pos (i - ts.length) with z | z
        · exact z
        · rw [List.getElem?_eq_none (by rw [List.length_singleton]; exact z)] at hc; cases hc
      rw [j0] at hc
      rw [← hps.1, j0] at hr
      cases hc
      cases hr
      rw [upd_ne nwt, upd_same]
  · intro r hr
    rcases List.mem_append.mp hr with hr | hr
    · obtain ⟨x, y, h1, h2, h3⟩ := dn r hr
      exact ⟨x, y, h1, by omega, h3⟩
    · rw [List.mem_singleton.mp hr]
      exact ⟨h, lo, lt, .inr ⟨rfl, Nat.lt_succ_self _⟩, hk1, hk2⟩
  · rw [List.nodup_append]
    refine ⟨nd, by simp, fun r hr r2 hr2 e => ?_⟩
    rw [List.mem_singleton.mp hr2] at e
    obtain ⟨x, y, h1, h2, h3, h4⟩ := dn r hr
    rw [e] at h3 h4
    have e1 := nodup_at lnd h3 hk1
    have e2 := nodup_at lnd h4 hk2
    omega
end WBox
theorem cut_front {α : Type} {xs : List V} {l : List α} {g : α → V} (e : xs = l.map g) (k : Nat) : cutV xs none (some (k : Int)) = (l.take k).map g := by
  unfold cutV
  rw [HT.sIx_none, HT.sIx_nat, e, List.length_map, List.drop_zero, Nat.sub_zero, ← List.map_take]
  congr 1
  rcases Nat.lt_or_ge k l.length with h | h
  · rw [Nat.min_eq_left (by omega)]
  · rw [Nat.min_eq_right h, List.take_length, List.take_of_length_le h]
theorem cut_rest {α : Type} {xs : List V} {l : List α} {g : α → V} (e : xs = l.map g) (k : Nat) : cutV xs (some (k : Int)) none = (l.drop k).map g := by
  unfold cutV
  rw [HT.sIx_none, HT.sIx_nat, e, List.length_map, ← List.map_drop, ← List.map_take]
  congr 1
  rcases Nat.lt_or_ge k l.length with h | h
  · rw [Nat.min_eq_left (by omega), List.take_of_length_le (by rw [List.length_drop]; omega)]
  · rw [Nat.min_eq_right h, List.drop_length, List.drop_eq_nil_of_le h]
    simp
theorem Pairs.turn {H : Hp} {ts : List Addr} {ps : List (Nat × Nat)} (h : Pairs H ts ps) (k : Nat) : Pairs H (ts.drop k ++ ts.take k) (ps.drop k ++ ps.take k) := by
  obtain ⟨l, v⟩ := h
  have l1 : (ts.drop k).length = (ps.drop k).length := by rw [List.length_drop, List.length_drop, l]
  refine ⟨by rw [List.length_append, List.length_append, List.length_drop, List.length_drop, List.length_take, List.length_take, l], fun i t p e1 e2 => ?_⟩
  rcases Nat.lt_or_ge i (ts.drop k).length with lt | ge
  · rw [List.getElem?_append_left lt, List.getElem?_drop] at e1
    rw [List.getElem?_append_left (by rw [← l1]; exact lt), List.getElem?_drop] at e2
    exact v _ t p e1 e2
  · rw [List.getElem?_append_right ge] at e1
    rw [List.getElem?_append_right (by rw [← l1]; exact ge), ← l1] at e2
    have h1 := (List.getElem?_eq_some_iff.mp e1).1
    rw [List.length_take] at h1
    rw [List.getElem?_take] at e1 e2
    split at e1
    · rw [if_pos (by assumption)] at e2
      exact v _ t p e1 e2
    · cases e1
theorem turn_perm {α : Type} (l : List α) (k : Nat) : (l.drop k ++ l.take k).Perm l := by
  have h := (List.perm_append_comm (l₁ := l.drop k) (l₂ := l.take k))
  rw [List.take_append_drop] at h
  exact h
abbrev s__law_wires : Stmt := top 37
theorem sc__law_wires : FnScope ["box", "line", "shape", "wires", "low", "high", "cut"] ["box", "line"] (defScope s__law_wires) := ⟨rfl, rfl, rfl, by decide +kernel, rfl, by decide +kernel, by decide +kernel⟩
-- slots of _law_wires: 0 box, 1 line, 2 shape, 3 wires, 4 low, 5 high, 6 cut
def spWires : Sp := fun vs H Q _ => ∃ (b a : Addr) (n : Nat) (line : List Nat), vs = [.ref b, .ref a] ∧ 1 ≤ n ∧ n ≤ 16 ∧ LineOk n line ∧ Box H b ∧ a ≠ b ∧ H a = some (.lst (nL line)) ∧
  ∀ (ts : List Addr) (ps : List (Nat × Nat)) (t : Addr) (H' : Hp), Down line ps → ps.Nodup → ps.length < 121 → SB b H H' → Box H' b → t ≠ b → H' t = some (.lst (ts.map V.ref)) → Pairs H' ts ps → Q (.ref t) H'
theorem ok__law_wires (T : Txt K mg C) {f : Addr} {fd : FuncData} (F : Fun K "_law_wires" "_law_wires" s__law_wires f fd) (c__law_take : Cal P w K mg base "_law_take" 2 spTake) : FnOk P w K mg base CX0 3 f fd ["box", "line"] spWires := by
  refine F.ok sc__law_wires (fun vs H Q E h => ?_) (fun cdv A outer s H vs Q E hr h => ?_)
  · obtain ⟨b, a, n, line, rfl, _⟩ := h; rfl
  · obtain ⟨b, a, n, line, rfl, n1, n16, ⟨ll, lnd, llt⟩, hb, nab, ha, q⟩ := h
    refine ⟨_, (pss_cons (ps_set (i := 2) sc__law_wires.nd rfl (by first | exact Or.inl rfl | exact Or.inr rfl) (pe_cal c__law_take (hr.mono (by decide)) (pa_cons (pv 0) (pa_cons pe_int pa_nil))))
      (pss_cons (ps_set (i := 3) sc__law_wires.nd rfl (by first | exact Or.inl rfl | exact Or.inr rfl) (pe_lst pa_nil))
      (pss_cons (ps_for PassesOwn.never rfl (pi_range2 (by rfl) T.range (pa_cons pe_int (pa_cons (pe_callB (lenS_ K) (by rfl) T.len b_len (pa_cons (pv 1) pa_nil)) pa_nil))) (pg_name (i := 4) sc__law_wires.nd rfl (by first | exact Or.inl rfl | exact Or.inr rfl))
      (C8.pss_cut (ps_if (pt_cmpR op_eq (pv 2) pe_int (nomark _))
      (pss_one (ps_expr (pe_bm PySem.F.plainAttrs_list PySem.F.slot_list_append PySem.F.type_list_append mt_append (pv 3) (pa_cons (pe_tup (pa_cons (pe_ix (ixL_ K) (pv 1) (pe_op op_sub (pv 4) pe_int) (fun _ _ => rfl)) (pa_cons (pe_ix (ixL_ K) (pv 1) (pv 4) (fun _ _ => rfl)) pa_nil))) pa_nil)))) pss_nil)
      (C8.pss_cut (ps_if (PW.pt (pw_and (pt_cmpR op_eq (pv 2) pe_int (nomark _)) (pw_and1 (pt_cmpR op_gt (pe_cal c__law_take (hr.mono (by decide)) (pa_cons (pv 0) (pa_cons pe_int pa_nil))) pe_int (nomark _)))))
      (pss_one (ps_expr (pe_bm PySem.F.plainAttrs_list PySem.F.slot_list_append PySem.F.type_list_append mt_append (pv 3) (pa_cons (pe_tup (pa_cons (pe_ix (ixL_ K) (pv 1) (pe_cal c__law_take (hr.mono (by decide)) (pa_cons (pv 0) (pa_cons (pv 4) pa_nil))) (fun _ _ => rfl)) (pa_cons (pe_ix (ixL_ K) (pv 1) (pv 4) (fun _ _ => rfl)) pa_nil))) pa_nil)))) pss_nil)
      (pss_one (ps_if (pt_cmpR op_gt (pv 2) pe_int (nomark _))
      (pss_one (ps_for PassesOwn.never rfl (pi_range1 (by rfl) T.range (pa_cons (pv 4) pa_nil)) (pg_name (i := 5) sc__law_wires.nd rfl (by first | exact Or.inl rfl | exact Or.inr rfl))
      (pss_one (ps_if (pt_cmpR op_eq (pe_cal c__law_take (hr.mono (by decide)) (pa_cons (pv 0) (pa_cons (pe_op op_sub (pv 2) pe_int) pa_nil))) pe_int (nomark _))
      (pss_one (ps_expr (pe_bm PySem.F.plainAttrs_list PySem.F.slot_list_append PySem.F.type_list_append mt_append (pv 3) (pa_cons (pe_tup (pa_cons (pe_ix (ixL_ K) (pv 1) (pv 5) (fun _ _ => rfl)) (pa_cons (pe_ix (ixL_ K) (pv 1) (pv 4) (fun _ _ => rfl)) pa_nil))) pa_nil)))) pss_nil)))) pss_nil)))))
      (pss_cons (ps_set (i := 6) sc__law_wires.nd rfl (by first | exact Or.inl rfl | exact Or.inr rfl) (pe_cal c__law_take (hr.mono (by decide)) (pa_cons (pv 0) (pa_cons (pe_op op_add (pe_callB (lenS_ K) (by rfl) T.len b_len (pa_cons (pv 3) pa_nil)) pe_int) pa_nil))))
      (pss_one (ps_ret (pe_op op_cat (pe_slice (slL_ K) (pv 3) (po_some (pv 6)) po_none) (pe_slice (slL_ K) (pv 3) po_none (po_some (pv 6)))))))))), ?_⟩
    refine ⟨_, rfl, b, 6, rfl, by decide, by decide, hb, fun sh H1 hsh s1 b1 => ?_⟩
    refine ⟨by decide, fun wz nw => ?_⟩
    have nwb : wz ≠ b := b1.new nw
    have hw0 : H wz = Option.none := none_back s1 nwb nw
    have W0 : WBox H (upd H1 wz (.lst [])) b wz line 1 0 := ⟨s1.trans (SB.of (same_new nw)), b1.same (same_new nw), nwb, hw0, [], [], upd_same, ⟨rfl, fun i t q h => by simp at h⟩, fun q hq => absurd hq List.not_mem_nil, List.nodup_nil, Nat.zero_le _⟩
    generalize upd H1 wz (.lst []) = H2 at W0 ⊢
    refine ⟨_, rfl, a, _, rfl, .inl (SqL.of (W0.sb _ _ nab ha)), _, _, rfl, ⟨by decide, by decide, by rw [nL_len, ll]; omega, by rw [nL_len, ll]; omega⟩, ?_⟩
    have en : (((nL line).length : Int) - 1).toNat = n - 1 := by rw [nL_len, ll]; omega
    rw [en]
    refine for_range (lo := 1) (n := n - 1) (fun i σ H4 => ∃ v4 v5 : Option V, σ = [some (.ref b), some (.ref a), some (.int sh), some (.ref wz), v4, v5, Option.none] ∧ WBox H H4 b wz line (1 + i) 0)
      ⟨_, _, rfl, W0⟩ ?_ ?_
    · rintro i σ H4 hi ⟨v4, v5, rfl, W4⟩
      obtain ⟨lo, elo⟩ : ∃ lo, 1 + i = lo := ⟨_, rfl⟩
      have e0 : (1 : Int) + (i : Int) = (lo : Int) := by omega
      rw [e0]
      rw [elo] at W4
      have lo1 : 1 ≤ lo := by omega
      have lon : lo < n := by omega
      have tri := tri16 lo (by omega)
      obtain ⟨k2, hk2⟩ : ∃ k, line[lo]? = some k := ⟨_, List.getElem?_eq_getElem (by omega)⟩
      refine ⟨fun σ H5 => ∃ hi, hi ≤ lo ∧ (hi = 0 ∨ sh = 0) ∧ σ = [some (.ref b), some (.ref a), some (.int sh), some (.ref wz), some (.int lo), v5, Option.none] ∧ WBox H H5 b wz line lo hi, ⟨_, rfl, rfl, _, rfl, ?_⟩, ?_⟩
      · refine ite2 (fun hz => ?_) (fun _ => ⟨0, Nat.zero_le _, .inl rfl, rfl, W4⟩)
        have sh0 : sh = 0 := by
          have := of_decide_eq_true hz
          injection this with this
          omega
        obtain ⟨k1, hk1⟩ : ∃ k, line[lo - 1]? = some k := ⟨_, List.getElem?_eq_getElem (by omega)⟩
        have e1 : (lo : Int) - 1 = ((lo - 1 : Nat) : Int) := by omega
        obtain ⟨ts, ps, hw, _⟩ := W4.ex
        have ha4 := W4.sb _ _ nab ha
        refine ⟨_, rfl, .inl ⟨rfl, _, SqL.of hw⟩, _, rfl, _, rfl, _, _, rfl, rfl, a, _, _, _, rfl, rfl, SqL.of ha4, (by show atI (nL line) ((lo : Int) - 1) = _; rw [e1]; exact atI_nat (nL_get hk1)), _, rfl, _, rfl, a, _, _, _, rfl, rfl, SqL.of ha4, atI_nat (nL_get hk2), by show 2 ≤ sizeLine; decide, fun t nt => ?_⟩
        obtain ⟨acc, c1, c2, W5⟩ := W4.add lnd (h := lo - 1) (Nat.zero_le _) (by omega) hk1 hk2 nt (by omega)
        exact ⟨wz, acc, _, rfl, rfl, c1, c2, lo - 1 + 1, by omega, .inr sh0, rfl, W5⟩
      rintro σ H5 ⟨hi5, le5, or5, rfl, W5⟩
      refine ⟨fun σ H6 => ∃ hi, hi ≤ lo ∧ (hi = 0 ∨ sh ≤ 1) ∧ σ = [some (.ref b), some (.ref a), some (.int sh), some (.ref wz), some (.int lo), v5, Option.none] ∧ WBox H H6 b wz line lo hi, ⟨_, rfl, rfl, _, rfl, ?_⟩, ?_⟩
      · refine ite2 (fun hz => ?_) (fun _ => ⟨hi5, le5, or5.imp id (by omega), rfl, W5⟩)
        have sh1 : sh = 1 := by
          have := of_decide_eq_true hz
          injection this with this
          omega
        have h0 : hi5 = 0 := or5.elim id (fun z => by omega)
        refine ⟨_, rfl, b, 4, rfl, by decide, by decide, W5.box, fun d H6 _ s6 b6 => ⟨_, _, rfl, rfl, _, rfl, ?_⟩⟩
        have W6 := W5.draw s6 b6
        refine ite2 (fun _ => ?_) (fun _ => ⟨hi5, le5, or5.imp id (by omega), rfl, W6⟩)
        obtain ⟨ts, ps, hw, _⟩ := W6.ex
        have ha6 := W6.sb _ _ nab ha
        refine ⟨_, rfl, .inl ⟨rfl, _, SqL.of hw⟩, _, rfl, _, rfl, _, rfl, b, lo, rfl, lo1, by omega, W6.box, fun d2 H7 hd2 s7 b7 => ?_⟩
        have W7 := W6.draw s7 b7
        have ha7 := W7.sb _ _ nab ha
        obtain ⟨k1, hk1⟩ : ∃ k, line[d2]? = some k := ⟨_, List.getElem?_eq_getElem (by omega)⟩
        refine ⟨a, _, _, _, rfl, rfl, SqL.of ha7, atI_nat (nL_get hk1), _, rfl, _, rfl, a, _, _, _, rfl, rfl, SqL.of ha7, atI_nat (nL_get hk2), by show 2 ≤ sizeLine; decide, fun t nt => ?_⟩
        rw [h0] at W7
        obtain ⟨acc, c1, c2, W8⟩ := W7.add lnd (h := d2) (Nat.zero_le _) hd2 hk1 hk2 nt (by omega)
        exact ⟨wz, acc, _, rfl, rfl, c1, c2, d2 + 1, hd2, .inr (by omega), rfl, W8⟩
      rintro σ H6 ⟨hi6, le6, or6, rfl, W6⟩
      refine ⟨_, rfl, _, _, rfl, rfl, _, rfl, ?_⟩
      have elo2 : 1 + (i + 1) = lo + 1 := by omega
      refine ite2 (fun hgt => ?_) (fun _ => ⟨_, _, rfl, by rw [elo2]; exact W6.row le6⟩)
      have sh2 : 2 < sh := by
        have := of_decide_eq_true hgt
        omega
      have h0 : hi6 = 0 := or6.elim id (fun z => by omega)
      rw [h0] at W6
      refine ⟨_, rfl, _, rfl, by omega, by omega, ?_⟩
      rw [Int.toNat_natCast]
      refine for_range (fun j σ H7 => ∃ v5 : Option V, σ = [some (.ref b), some (.ref a), some (.int sh), some (.ref wz), some (.int lo), v5, Option.none] ∧ WBox H H7 b wz line lo j) ⟨_, rfl, W6⟩ ?_ ?_
      · rintro j σ H7 hj ⟨v5, rfl, W7⟩
        have e0 : (0 : Int) + (j : Int) = (j : Int) := by omega
        rw [e0]
        have e1 : (sh : Int) - 1 = ((sh - 1 : Nat) : Int) := by omega
        refine ⟨_, rfl, _, rfl, _, _, rfl, rfl, b, sh - 1, by rw [← e1], by omega, by omega, W7.box, fun d H8 _ s8 b8 => ⟨rfl, _, rfl, ?_⟩⟩
        have W8 := W7.draw s8 b8
        refine ite2 (fun _ => ?_) (fun _ => ⟨_, rfl, W8.upto (Nat.le_succ j)⟩)
        obtain ⟨ts, ps, hw, _⟩ := W8.ex
        have ha8 := W8.sb _ _ nab ha
        obtain ⟨k1, hk1⟩ : ∃ k, line[j]? = some k := ⟨_, List.getElem?_eq_getElem (by omega)⟩
        refine ⟨_, rfl, .inl ⟨rfl, _, SqL.of hw⟩, _, rfl, _, rfl, a, _, _, _, rfl, rfl, SqL.of ha8, atI_nat (nL_get hk1), _, rfl, _, rfl, a, _, _, _, rfl, rfl, SqL.of ha8, atI_nat (nL_get hk2), by show 2 ≤ sizeLine; decide, fun t nt => ?_⟩
        obtain ⟨acc, c1, c2, W9⟩ := W8.add lnd (h := j) (Nat.le_refl j) hj hk1 hk2 nt (by omega)
        exact ⟨wz, acc, _, rfl, rfl, c1, c2, _, rfl, W9⟩
      · rintro σ H7 ⟨v5, rfl, W7⟩
        exact ⟨_, _, rfl, by rw [elo2]; exact W7.row (Nat.le_refl lo)⟩
    · rintro σ H4 ⟨v4, v5, rfl, W4⟩
      rw [show 1 + (n - 1) = n by omega] at W4
      obtain ⟨ts, ps, hw, hps, dn, nd, len⟩ := W4.ex
      have tri := tri16 n n16
      have dn2 : Down line ps := fun r hr => by
        obtain ⟨x, y, h1, _, h2⟩ := dn r hr
        exact ⟨x, y, h1, h2⟩
      have lts : (ts.map V.ref).length = ps.length := by rw [List.length_map, hps.1]
      have e1 : ((ts.map V.ref).length : Int) + 1 = ((ps.length + 1 : Nat) : Int) := by rw [lts]; omega
      refine ⟨_, rfl, _, rfl, wz, _, rfl, .inl (SqL.of hw), _, _, rfl, rfl, b, ps.length + 1, by rw [← e1], by omega, by omega, W4.box, fun k H5 hk s5 b5 => ?_⟩
      have W5 := W4.draw s5 b5
      have hw5 := s5 _ _ W4.ne hw
      obtain ⟨xs, hbx⟩ := W4.box.at
      have hps5 := hps.sb hbx s5
      refine ⟨_, rfl, _, rfl, _, rfl, wz, _, rfl, SqL.of hw5, fun p1 np1 => ?_⟩
      rw [cut_rest rfl]
      have s6 : Same H5 (upd H5 p1 (.lst ((ts.drop k).map V.ref))) := same_new np1
      have hp1 : (upd H5 p1 (.lst ((ts.drop k).map V.ref))) p1 = some (.lst ((ts.drop k).map V.ref)) := upd_same
      generalize upd H5 p1 (.lst ((ts.drop k).map V.ref)) = H6 at s6 hp1 ⊢
      refine ⟨_, rfl, _, rfl, _, rfl, wz, _, rfl, SqL.of (s6 _ _ hw5), fun p2 np2 => ?_⟩
      rw [cut_front rfl]
      have s7 : Same H6 (upd H6 p2 (.lst ((ts.take k).map V.ref))) := same_new np2
      have hp2 : (upd H6 p2 (.lst ((ts.take k).map V.ref))) p2 = some (.lst ((ts.take k).map V.ref)) := upd_same
      generalize upd H6 p2 (.lst ((ts.take k).map V.ref)) = H7 at s7 hp2 ⊢
      have s57 := s6.trans s7
      refine ⟨p1, p2, _, _, rfl, rfl, s7 _ _ hp1, hp2, ?_, fun t nt => ?_⟩
      · rw [List.length_map, List.length_map, List.length_drop, List.length_take, hps.1, sizeLine_eq]; omega
      · rw [← List.map_append]
        have pm := turn_perm ps k
        exact q (ts.drop k ++ ts.take k) (ps.drop k ++ ps.take k) t _ (fun r hr => dn2 r (pm.mem_iff.mp hr)) (pm.nodup_iff.mpr nd) (by rw [pm.length_eq]; omega) (W5.sb.trans (SB.of (s57.trans (same_new nt)))) (b5.same (s57.trans (same_new nt))) ((b5.same s57).new nt) upd_same ((hps5.turn k).same (s57.trans (same_new nt)))
end
end Hue

end
section
set_option maxRecDepth 100000
namespace Hue
open PySem PySem.Spec PyProof.Rows L2
section
variable {P : Program} {w : World} {K : PySem.W.Frag} {mg : Str → Option Value} {base : Heap} {C : Addr}
/-- by the first wire of a way down -/
theorem rel_first {ps : List (Nat × Nat)} {i j : Nat} : relOf ps i j = true ↔ ∃ u, (i, u) ∈ ps ∧ (j = u ∨ relOf ps u j = true) := by
  have key : ∀ (ps qs : List (Nat × Nat)) (R : Rel), (∀ i j, R i j = true → ∃ u, (i, u) ∈ qs ∧ (j = u ∨ R u j = true)) →
      ∀ i j, ps.foldl (fun R p => addW R p.1 p.2) R i j = true → ∃ u, (i, u) ∈ qs ++ ps ∧ (j = u ∨ ps.foldl (fun R p => addW R p.1 p.2) R u j = true) := by
    intro ps
    induction ps with
    | nil =>
      intro qs R h i j hr
      rw [List.append_nil]
      exact h i j hr
    | cons p ps ih =>
      intro qs R h i j hr
      have z := ih (qs ++ [p]) (addW R p.1 p.2) (fun i j h2 => ?_) i j hr
      · rw [List.append_assoc] at z
        exact z
      · rcases addW_iff.mp h2 with h3 | ⟨h3, h4⟩
        · obtain ⟨u, hu, e⟩ := h i j h3
          exact ⟨u, List.mem_append_left _ hu, e.imp id fun z => addW_iff.mpr (.inl z)⟩
        · rcases h3 with e | e
          · refine ⟨p.2, List.mem_append_right _ (by rw [e]; exact List.mem_cons_self), ?_⟩
            exact h4.imp id fun z => addW_iff.mpr (.inl z)
          · obtain ⟨u, hu, e2⟩ := h i p.1 e
            refine ⟨u, List.mem_append_left _ hu, .inr (addW_iff.mpr (.inr ⟨?_, h4⟩))⟩
            exact e2.imp Eq.symm id
  constructor
  · intro h
    have z := key ps [] (fun _ _ => false) (fun i j h => by cases h) i j h
    rw [List.nil_append] at z
    exact z
  · rintro ⟨u, hu, e⟩
    have w : relOf ps i u = true := fold_wire ps _ (i, u) hu
    rcases e with e | e
    · rw [e]; exact w
    · exact relOf_trans ps _ _ _ w e
/-- m truths -/
def bls (m : Nat) (f : Nat → Bool) : List V := (List.range m).map fun j => V.bl (f j)
theorem bls_len (m : Nat) (f : Nat → Bool) : (bls m f).length = m := by unfold bls; rw [List.length_map, List.length_range]
theorem bls_get {m : Nat} {f : Nat → Bool} {j : Nat} (h : j < m) : (bls m f)[j]? = some (V.bl (f j)) := by
  unfold bls
  rw [List.getElem?_map, List.getElem?_range h]
  rfl
theorem bls_set (m : Nat) (f : Nat → Bool) (k : Nat) : (bls m f).set k (V.bl true) = bls m fun j => f j || j == k := by
  refine List.ext_getElem? fun i => ?_
  rw [List.getElem?_set, bls_len]
  by_cases hi : i < m
  · rw [bls_get (f := fun j => f j || j == k) hi]
    by_cases e : k = i
    · rw [if_pos e, if_pos (by omega), e]; simp
    · have z : (i == k) = false := by simp; omega
      rw [if_neg e, bls_get hi, z, Bool.or_false]
  · rw [List.getElem?_eq_none (l := bls m fun j => f j || j == k) (by rw [bls_len]; omega), List.getElem?_eq_none (l := bls m f) (by rw [bls_len]; omega)]
    by_cases e : k = i
    · rw [if_pos e, if_neg (by omega)]
    · rw [if_neg e]
theorem filter_more (f : Nat → Bool) (i : Nat) : (List.range (i + 1)).filter f = (List.range i).filter f ++ (if f i = true then [i] else []) := by
  rw [List.range_succ, List.filter_append, List.filter_cons]
  rfl
theorem filter_few (f : Nat → Bool) (i : Nat) : ((List.range i).filter f).length ≤ i := by
  have := List.length_filter_le f (List.range i)
  rw [List.length_range] at this
  exact this
theorem LineOk.all {n : Nat} {line : List Nat} (h : LineOk n line) {k : Nat} (hk : k < n) : k ∈ line := by
  obtain ⟨l, nd, lt⟩ := h
  exact Classical.byContradiction fun hn => by
    have z := nat_nodup_len (k :: line) (List.range n) (List.nodup_cons.mpr ⟨hn, nd⟩) fun x hx => by
      rcases List.mem_cons.mp hx with e | hx
      · rw [e]; exact List.mem_range.mpr hk
      · exact List.mem_range.mpr (lt x hx)
    rw [List.length_cons, List.length_range, l] at z
    omega
/-- the lists of the lamps beneath, as far as they are made -/
def BelAt (H : Hp) (D : Addr) (n : Nat) (R : Rel) (done : List Nat) : Prop := ∃ (as : List Addr) (U : Nat → List Nat), H D = some (.lst (as.map V.ref)) ∧ as.length = n ∧ (∀ (k : Nat) a, as[k]? = some a → a ≠ D ∧ H a = some (.lst (nL (U k)))) ∧ ∀ k ∈ done, U k = Bel n R k
theorem BelAt.same {H H' : Hp} {D : Addr} {n : Nat} {R : Rel} {done : List Nat} (h : BelAt H D n R done) (s : Same H H') : BelAt H' D n R done := by
  obtain ⟨as, U, a, b, c, d⟩ := h
  exact ⟨as, U, s _ _ a, b, fun k x e => ⟨(c k x e).1, s _ _ (c k x e).2⟩, d⟩
theorem nL_item {l : List Nat} {i : Nat} {y : V} (h : (nL l)[i]? = some y) : ∃ k, l[i]? = some k ∧ y = V.int (k : Int) := by
  unfold nL nI at h
  rw [List.map_map, List.getElem?_map] at h
  obtain ⟨k, hk, e⟩ := Option.map_eq_some_iff.mp h
  exact ⟨k, hk, e.symm⟩
abbrev s__law_below : Stmt := top 38
theorem sc__law_below : FnScope ["line", "wires", "below", "lamp", "upper", "known", "wire"] ["line", "wires"] (defScope s__law_below) := ⟨rfl, rfl, rfl, by decide +kernel, rfl, by decide +kernel, by decide +kernel⟩
-- slots of _law_below: 0 line, 1 wires, 2 below, 3 lamp, 4 upper, 5 known, 6 wire
def spBelow : Sp := fun vs H Q _ => ∃ (a wz : Addr) (n : Nat) (line : List Nat) (ts : List Addr) (ps : List (Nat × Nat)), vs = [.ref a, .ref wz] ∧ n ≤ 16 ∧ LineOk n line ∧ H a = some (.lst (nL line)) ∧ H wz = some (.lst (ts.map V.ref)) ∧ Pairs H ts ps ∧ Down line ps ∧
  ∀ (t : Addr) (H' : Hp), Same H H' → H t = Option.none → Rows H' t (relRows n (relOf ps)) → Q (.ref t) H'
theorem ok__law_below (T : Txt K mg C) {f : Addr} {fd : FuncData} (F : Fun K "_law_below" "_law_below" s__law_below f fd) : FnOk P w K mg base CX0 1 f fd ["line", "wires"] spBelow := by
  refine F.ok sc__law_below (fun vs H Q E h => ?_) (fun cdv A outer s H vs Q E hr h => ?_)
  · obtain ⟨a, wz, n, line, ts, ps, rfl, _⟩ := h; rfl
  · obtain ⟨a, wz, n, line, ts, ps, rfl, n16, lok, ha, hw, hps, dn, q⟩ := h
    obtain ⟨ll, lnd, llt⟩ := id lok
    refine ⟨_, (pss_cons (ps_setLc (i := 2) (own := [("lamp", 3)]) (g := gName 3) (tt := tYes) rfl sc__law_below.nd rfl rfl (sw_true rfl rfl rfl (by kernel_rfl)) (pil_ K (pv 0)) (blkOk_by (by kernel_rfl)) (fun _ _ _ _ _ => (pg_name (i := 3) sc__law_below.nd rfl (by first | exact Or.inl rfl | exact Or.inr rfl))) (fun _ _ _ _ _ => pts_nil) (fun _ _ _ _ _ => (pe_lst pa_nil)))
      (pss_cons (ps_for PassesOwn.never rfl (pi_reversed (by rfl) T.reversed (pa_cons (pv 0) pa_nil)) (pg_name (i := 4) sc__law_below.nd rfl (by first | exact Or.inl rfl | exact Or.inr rfl))
      (pss_cons (ps_set (i := 5) sc__law_below.nd rfl (by first | exact Or.inl rfl | exact Or.inr rfl) (pe_lc (own := [("lamp", 3)]) (g := gName 3) (tt := tYes) rfl sc__law_below.nd (pil_ K (pv 0)) (blkOk_by (by kernel_rfl)) (fun _ _ _ _ _ => (pg_name (i := 3) sc__law_below.nd rfl (by first | exact Or.inl rfl | exact Or.inr rfl))) (fun _ _ _ _ _ => pts_nil) (fun _ _ _ _ _ => pe_bl)))
      (pss_cons (ps_for PassesOwn.never rfl (pil_ K (pv 1)) (pg_name (i := 6) sc__law_below.nd rfl (by first | exact Or.inl rfl | exact Or.inr rfl))
      (pss_one (ps_if (pt_cmpR op_eq (pe_ix (ixT_ K) (pv 6) pe_int (fun _ _ => rfl)) (pv 4) (nomark _))
      (pss_cons (ps_asg pe_bl (pg_sub (pv 5) (pe_ix (ixT_ K) (pv 6) pe_int (fun _ _ => rfl)) set_list))
      (pss_one (ps_for PassesOwn.never rfl (pil_ K (pe_ix (ixL_ K) (pv 2) (pe_ix (ixT_ K) (pv 6) pe_int (fun _ _ => rfl)) (fun _ _ => rfl))) (pg_name (i := 3) sc__law_below.nd rfl (by first | exact Or.inl rfl | exact Or.inr rfl))
      (pss_one (ps_asg pe_bl (pg_sub (pv 5) (pv 3) set_list)))))) pss_nil)))
      (pss_one (ps_asg (pe_lc (own := [("lamp", 3)]) (g := gName 3) rfl sc__law_below.nd (pi_range1 (by rfl) T.range (pa_cons (pe_callB (lenS_ K) (by rfl) T.len b_len (pa_cons (pv 0) pa_nil)) pa_nil)) (blkOk_by (by kernel_rfl)) (fun _ _ _ _ _ => (pg_name (i := 3) sc__law_below.nd rfl (by first | exact Or.inl rfl | exact Or.inr rfl))) (fun _ _ _ _ _ => (pts_one (pt_val (pe_ix (ixL_ K) (pv 5) (pv 3) (fun _ _ => rfl))))) (fun _ _ _ _ _ => (pv 3))) (pg_sub (pv 2) (pv 4) set_list))))))
      (pss_one (ps_ret (pv 2))))), ?_⟩
    refine ⟨_, rfl, a, rfl, ⟨_, SqL.of ha⟩, fun D hD => ?_⟩
    refine lc_list (xs := nL line) (fun i H2 => Coll H D (fun _ => []) i H2) (Coll.start hD) (fun i H2 _ c => SqL.of (c.same _ _ ha)) ?_ ?_
    · rintro i x H2 hx c
      obtain ⟨_, hD2, ll2, _, _⟩ := id c
      have il : i < n := by
        have := (List.getElem?_eq_some_iff.mp hx).1
        rw [nL_len, ll] at this; exact this
      refine ⟨rfl, yesT ⟨by decide, fun p hp => ?_⟩⟩
      exact c.more hD (same_new hp) (fun z => by rw [z, hD2] at hp; cases hp) upd_same (by omega)
    rintro H1 c1
    rw [nL_len, ll] at c1
    have s1 := c1.same
    have bel1 : BelAt H1 D n (relOf ps) (line.drop (n - 0)) := by
      obtain ⟨as, h1, h2, _, h3⟩ := c1
      refine ⟨as, fun _ => [], h1, h2, h3, fun k hk => ?_⟩
      rw [Nat.sub_zero, ← ll, List.drop_length] at hk
      cases hk
    refine ⟨_, rfl, a, _, rfl, SqL.of (s1 _ _ ha), ?_⟩
    refine for_it walk_rev (fun i σ H2 => ∃ v3 v4 v5 v6 : Option V, σ = [some (.ref a), some (.ref wz), some (.ref D), v3, v4, v5, v6] ∧ Same H H2 ∧ BelAt H2 D n (relOf ps) (line.drop (n - i)))
      ⟨_, _, _, _, rfl, s1, bel1⟩ (fun i σ H2 _ ⟨_, _, _, _, _, s, _⟩ => SqL.of (s _ _ ha)) ?_ ?_
    · rintro i x σ H2 H2' hi ⟨v3, v4, v5, v6, rfl, s2, bel2⟩ ⟨rfl, hx⟩
      rw [nL_len, ll] at hi hx
      obtain ⟨up, hup, rfl⟩ := nL_item hx
      have upn : up < n := llt up (List.mem_of_getElem? hup)
      -- known = [False for lamp in line]
      refine ⟨_, rfl, a, rfl, ⟨_, SqL.of (s2 _ _ ha)⟩, fun kz hkz => ?_⟩
      refine lc_list (xs := nL line) (fun j H3 => H3 kz = some (.lst (bls j fun _ => false)) ∧ Same H2' H3) ⟨upd_same, same_new hkz⟩ (fun j H3 _ ⟨_, s⟩ => SqL.of (s _ _ (s2 _ _ ha))) ?_ ?_
      · rintro j x H3 hx ⟨h3, s3⟩
        have jl : j < n := by
          have := (List.getElem?_eq_some_iff.mp hx).1
          rw [nL_len, ll] at this; exact this
        refine ⟨rfl, yesT ⟨_, h3, by rw [bls_len, sizeLine_eq]; omega, ?_, same_upd s3 hkz⟩⟩
        rw [upd_same]
        unfold bls
        rw [List.range_succ, List.map_append]; rfl
      rintro H3 ⟨h3, s3⟩
      rw [nL_len, ll] at h3
      have s23 := s2.trans s3
      refine ⟨_, rfl, wz, rfl, ⟨_, SqL.of (s23 _ _ hw)⟩, ?_⟩
      refine for_list (K := K) (a := wz) (xs := ts.map V.ref) (fun j σ H4 => ∃ (v3 v6 : Option V) (f : Nat → Bool), σ = [some (.ref a), some (.ref wz), some (.ref D), v3, some (.int up), some (.ref kz), v6] ∧ Same H2' H4 ∧ H4 kz = some (.lst (bls n f)) ∧
          ∀ x, x < n → (f x = true ↔ ∃ p ∈ ps.take j, p.1 = up ∧ (x = p.2 ∨ relOf ps p.2 x = true)))
        ⟨_, _, fun _ => false, rfl, s3, h3, fun x _ => by simp⟩ (fun j σ H4 _ ⟨_, _, _, _, s, _⟩ => SqL.of ((s2.trans s) _ _ hw)) ?_ ?_
      · rintro j y σ H4 hy ⟨v3, v6, f, rfl, s4, h4, val⟩
        rw [List.getElem?_map] at hy
        obtain ⟨tj, htj, rfl⟩ := Option.map_eq_some_iff.mp hy
        have jl : j < ps.length := by rw [← hps.1]; exact (List.getElem?_eq_some_iff.mp htj).1
        obtain ⟨p, hp⟩ : ∃ p, ps[j]? = some p := ⟨_, List.getElem?_eq_getElem jl⟩
        have tup := (s2.trans s4) _ _ (hps.2 j tj p htj hp)
        have tk : ps.take (j + 1) = ps.take j ++ [p] := by rw [List.take_add_one, hp]; rfl
        refine ⟨_, rfl, tj, _, _, _, rfl, rfl, SqT.of tup, rfl, _, rfl, rfl, _, rfl, ?_⟩
        refine ite2 (fun heq => ?_) (fun hne => ?_)
        · have e1 : p.1 = up := by
            have z := of_decide_eq_true heq
            injection z with z
            omega
          obtain ⟨h0, l0, hlt, hh, hl⟩ := dn p (List.mem_of_getElem? hp)
          rw [e1] at hh
          have h0i := nodup_at lnd hh hup
          have l0n : l0 < n := by rw [← ll]; exact (List.getElem?_eq_some_iff.mp hl).1
          have pin : p.2 ∈ line.drop (n - i) := by
            rw [List.mem_iff_getElem?]
            exact ⟨l0 - (n - i), by rw [List.getElem?_drop, show n - i + (l0 - (n - i)) = l0 by omega]; exact hl⟩
          have p2n : p.2 < n := llt _ (List.mem_of_getElem? hl)
          refine ⟨_, rfl, _, rfl, tj, _, _, _, rfl, rfl, SqT.of tup, rfl, set_at h4 (ixN_nat (by rw [bls_len]; exact p2n)) fun H5 s5 h5 => ?_⟩
          rw [bls_set] at h5
          have s25 : Same H2' H5 := s5.to_same s4 hkz
          obtain ⟨as, U, u1, u2, u3, u4⟩ := bel2.same s25
          obtain ⟨ap, hap⟩ : ∃ x, as[p.2]? = some x := ⟨_, List.getElem?_eq_getElem (by omega)⟩
          obtain ⟨nat_, hU⟩ := u3 p.2 ap hap
          rw [u4 p.2 pin] at hU
          have hap' : (as.map V.ref)[p.2]? = some (V.ref ap) := by rw [List.getElem?_map, hap]; rfl
          have tup5 := (s2.trans s25) _ _ (hps.2 j tj p htj hp)
          have hap2 : H2' ap = some (.lst (nL (Bel n (relOf ps) p.2))) := by
            obtain ⟨as', U', w1, w2, w3, w4⟩ := id bel2
            have e : as'.map V.ref = as.map V.ref := by
              have z := s25 _ _ w1
              rw [u1] at z
              injection z with z
              injection z with z
              exact z.symm
            have hap3 : as'[p.2]? = some ap := by
              have z := hap'
              rw [← e, List.getElem?_map] at z
              obtain ⟨c, hc, ec⟩ := Option.map_eq_some_iff.mp z
              injection ec with ec
              rw [hc, ec]
            have z := (w3 p.2 ap hap3).2
            rw [w4 p.2 pin] at z
            exact z
          refine ⟨_, rfl, _, rfl, tj, _, _, _, rfl, rfl, SqT.of tup5, rfl, D, _, _, _, rfl, rfl, SqL.of u1, atI_nat hap', ap, rfl, ⟨_, SqL.of hU⟩, ?_⟩
          refine for_list (K := K) (a := ap) (xs := nL (Bel n (relOf ps) p.2)) (fun m σ H6 => ∃ (v3 : Option V) (g : Nat → Bool), σ = [some (.ref a), some (.ref wz), some (.ref D), v3, some (.int up), some (.ref kz), some (.ref tj)] ∧ Same H2' H6 ∧ H6 kz = some (.lst (bls n g)) ∧
              ∀ x, x < n → (g x = true ↔ (f x = true ∨ x = p.2) ∨ x ∈ (Bel n (relOf ps) p.2).take m))
            ⟨_, _, rfl, s25, h5, fun x _ => by simp⟩ (fun m σ H6 _ ⟨_, _, _, s, _⟩ => SqL.of (s _ _ hap2)) ?_ ?_
          · rintro m y σ H6 hy ⟨v3, g, rfl, s6, h6, val6⟩
            obtain ⟨z, hz, rfl⟩ := nL_item hy
            have zn : z < n := (mem_Bel.mp (List.mem_of_getElem? hz)).1
            refine ⟨_, rfl, _, rfl, set_at h6 (ixN_nat (by rw [bls_len]; exact zn)) fun H7 s7 h7 => ?_⟩
            rw [bls_set] at h7
            refine ⟨_, _, rfl, s7.to_same s6 hkz, h7, fun x hx => ?_⟩
            rw [Bool.or_eq_true, val6 x hx, List.take_add_one, hz, beq_iff_eq]
            simp [or_assoc]
          · rintro σ H6 ⟨v3, g, rfl, s6, h6, val6⟩
            rw [nL_len, List.take_length] at val6
            refine ⟨_, _, g, rfl, s6, h6, fun x hx => ?_⟩
            rw [val6 x hx, val x hx, tk, mem_Bel]
            constructor
            · rintro ((⟨r, hr, z⟩ | z) | ⟨_, z⟩)
              · exact ⟨r, List.mem_append_left _ hr, z⟩
              · exact ⟨p, List.mem_append_right _ List.mem_cons_self, e1, .inl z⟩
              · exact ⟨p, List.mem_append_right _ List.mem_cons_self, e1, .inr z⟩
            · rintro ⟨r, hr, z1, z2⟩
              rcases List.mem_append.mp hr with hr | hr
              · exact .inl (.inl ⟨r, hr, z1, z2⟩)
              · rw [List.mem_singleton.mp hr] at z2
                exact z2.elim (fun z => .inl (.inr z)) fun z => .inr ⟨hx, z⟩
        · have ne1 : p.1 ≠ up := fun z => hne (decide_eq_true (by rw [z]))
          refine ⟨_, _, f, rfl, s4, h4, fun x hx => ?_⟩
          rw [val x hx, tk]
          constructor
          · rintro ⟨r, hr, z⟩
            exact ⟨r, List.mem_append_left _ hr, z⟩
          · rintro ⟨r, hr, z1, z2⟩
            rcases List.mem_append.mp hr with hr | hr
            · exact ⟨r, hr, z1, z2⟩
            · rw [List.mem_singleton.mp hr] at z1
              exact absurd z1 ne1
      · rintro σ H4 ⟨v3, v6, f, rfl, s4, h4, val⟩
        rw [List.length_map, hps.1, List.take_length] at val
        have val' : ∀ x, x < n → f x = relOf ps up x := fun x hx => by
          rw [Bool.eq_iff_iff, val x hx, rel_first]
          constructor
          · rintro ⟨p, hp, z1, z2⟩
            exact ⟨p.2, by rw [← z1]; exact hp, z2⟩
          · rintro ⟨u, hu, z⟩
            exact ⟨(up, u), hu, rfl, z⟩
        have s24 := s2.trans s4
        -- below[upper] = [lamp for lamp in range(len(line)) if known[lamp]]
        refine ⟨_, rfl, a, _, rfl, .inl (SqL.of (s24 _ _ ha)), _, rfl, by rw [nL_len, ll]; omega, by rw [nL_len, ll]; omega, fun L hL => ?_⟩
        rw [nL_len, ll, Int.toNat_natCast]
        refine lc_range (fun j H5 => H5 L = some (.lst (nL ((List.range j).filter f))) ∧ Same H4 H5) ⟨upd_same, same_new hL⟩ ?_ ?_
        · rintro j H5 hj ⟨h5, s5⟩
          have e0 : (0 : Int) + (j : Int) = (j : Int) := by omega
          rw [e0]
          have few := filter_few f j
          refine ⟨rfl, _, rfl, _, rfl, kz, _, _, _, rfl, rfl, SqL.of (s5 _ _ h4), atI_nat (bls_get hj), _, rfl, ?_⟩
          refine ite2 (fun hx => ?_) (fun hx => ?_)
          · refine ⟨_, rfl, _, h5, by rw [nL_len, sizeLine_eq]; omega, ?_, same_upd s5 hL⟩
            rw [upd_same, filter_more, if_pos hx, nL_app]; rfl
          · refine ⟨?_, s5⟩
            rw [h5, filter_more, if_neg hx, List.append_nil]
        · rintro H5 ⟨h5, s5⟩
          have eB : (List.range n).filter f = Bel n (relOf ps) up := by
            unfold Bel
            exact List.filter_congr fun x hx => val' x (List.mem_range.mp hx)
          rw [eB] at h5
          obtain ⟨as, U, u1, u2, u3, u4⟩ := bel2.same (s4.trans s5)
          have nLD : L ≠ D := fun z => by
            obtain ⟨as', U', w1, _⟩ := bel2.same s4
            rw [z, w1] at hL
            cases hL
          refine ⟨_, rfl, _, rfl, set_at u1 (ixN_nat (by rw [List.length_map, u2]; exact upn)) fun H6 s6 h6 => ?_⟩
          have h6' : H6 D = some (.lst ((as.set up L).map V.ref)) := by rw [List.map_set]; exact h6
          refine ⟨_, _, _, _, rfl, s6.to_same ((s2.trans s4).trans s5) hD, as.set up L, fun k => if k = up then Bel n (relOf ps) up else U k, h6', by rw [List.length_set]; exact u2, fun k c hc => ?_, fun k hk => ?_⟩
          · rw [List.getElem?_set] at hc
            by_cases e : up = k
            · rw [if_pos e] at hc
              split at hc
              · cases hc
                refine ⟨nLD, ?_⟩
                show _ = some (HO.lst (nL (if k = up then _ else _)))
                rw [if_pos e.symm]
                exact s6 _ _ nLD h5
              · cases hc
            · rw [if_neg e] at hc
              obtain ⟨x1, x2⟩ := u3 k c hc
              refine ⟨x1, ?_⟩
              show _ = some (HO.lst (nL (if k = up then _ else _)))
              rw [if_neg (fun z => e z.symm)]
              exact s6 _ _ x1 x2
          · show (if k = up then _ else _) = _
            by_cases e : k = up
            · rw [if_pos e, e]
            · rw [if_neg e]
              refine u4 k ?_
              have e3 : n - (i + 1) = n - 1 - i := by omega
              have dr : line.drop (n - 1 - i) = up :: line.drop (n - i) := by
                rw [List.drop_eq_getElem_cons (by omega)]
                have hg : line[n - 1 - i]'(by omega) = up := by
                  have z := List.getElem?_eq_getElem (l := line) (i := n - 1 - i) (by omega)
                  rw [hup] at z
                  exact (Option.some.inj z).symm
                rw [hg, show n - 1 - i + 1 = n - i by omega]
              rw [e3, dr] at hk
              exact (List.mem_cons.mp hk).resolve_left e
    · rintro σ H2 ⟨v3, v4, v5, v6, rfl, s2, as, U, u1, u2, u3, u4⟩
      rw [nL_len, ll, Nat.sub_self, List.drop_zero] at u4
      refine ⟨_, rfl, q D H2 s2 hD ⟨as, u1, by rw [u2, relRows_len], fun k c r hc hr => ?_⟩⟩
      have kn : k < n := by rw [← u2]; exact (List.getElem?_eq_some_iff.mp hc).1
      rw [relRows_at kn] at hr
      cases hr
      rw [← u4 k (lok.all kn)]
      exact (u3 k c hc).2
end
end Hue

end
section
set_option maxRecDepth 100000
namespace Hue
open PySem PySem.Spec PyProof.Rows L2
section
variable {P : Program} {w : World} {K : PySem.W.Frag} {mg : Str → Option Value} {base : Heap} {C : Addr}
/-! ### single moves -/
/-- the smallest lit lamp beneath -/
def litO (n : Nat) (R : Rel) (S : List Int) (k : Nat) : Option Nat := (Bel n R k).find? fun j => decide (at_ S j > 0)
def vO : Option Nat → V
  | some j => .int (j : Int)
  | none => .non
abbrev s_first_lit_beneath : Stmt := top 30
theorem sc_first_lit_beneath : FnScope ["house", "state", "lamp", "lower"] ["house", "state", "lamp"] (defScope s_first_lit_beneath) := ⟨rfl, rfl, rfl, by decide +kernel, rfl, by decide +kernel, by decide +kernel⟩
-- slots of first_lit_beneath: 0 house, 1 state, 2 lamp, 3 lower
def spFirstLit (C : Addr) : Sp := fun vs H Q _ => ∃ (x a : Addr) (n h k : Nat) (R : Rel) (S : List Int), vs = [.ref x, .ref a, .int k] ∧ HouseAt C H x n h R ∧ n ≤ 16 ∧ k < n ∧ H a = some (.tup (stV S)) ∧ S.length = n ∧ ∀ H', Same H H' → Q (vO (litO n R S k)) H'
theorem ok_first_lit_beneath (T : Txt K mg C) {f : Addr} {fd : FuncData} (F : Fun K "first_lit_beneath" "first_lit_beneath" s_first_lit_beneath f fd) (M_beneath : MCal P w K mg base C "beneath" 5 (spBeneath C)) : FnOk P w K mg base CX0 6 f fd ["house", "state", "lamp"] (spFirstLit C) := by
  refine F.ok sc_first_lit_beneath (fun vs H Q E h => ?_) (fun cdv A outer s H vs Q E hr h => ?_)
  · obtain ⟨x, a, n, h, k, R, S, rfl, _⟩ := h; rfl
  · obtain ⟨x, a, n, h, k, R, S, rfl, hx, n16, hk, ha, hS, q⟩ := h
    obtain ⟨f_beneath, fd_beneath, ps_beneath, F_beneath, m_beneath, b_beneath⟩ := M_beneath.ex
    obtain ⟨dx, fs, be, o, h1, h2, h3, h4, h5, h6, h7, h8, h9⟩ := id hx
    refine ⟨_, (pss_cons (ps_for PassesOwn.never rfl (pil_ K (pe_meth (pv 0) T.cl m_beneath F_beneath (hr.mono (by decide)) b_beneath .nil pass0 (pa_cons (pv 2) pa_nil))) (pg_name (i := 3) sc_first_lit_beneath.nd rfl (by first | exact Or.inl rfl | exact Or.inr rfl))
      (pss_one (ps_if (pt_cmpR op_gt (pe_ix (ixT_ K) (pv 1) (pv 3) (fun _ _ => rfl)) pe_int (nomark _))
      (pss_one (ps_ret (pv 3))) pss_nil)))
      (pss_one (ps_ret pe_non))), ?_⟩
    refine ⟨_, rfl, x, dx, fs, rfl, h1, h9, _, rfl, x, n, h, k, R, rfl, hx, hk, fun H1 l s1 nl hl => ⟨l, rfl, ⟨_, SqL.of hl⟩, ?_⟩⟩
    refine for_list (K := K) (a := l) (xs := nL (Bel n R k)) (fun i σ H2 => ∃ v : Option V, σ = [some (.ref x), some (.ref a), some (.int k), v] ∧ H2 = H1 ∧ litO n R S k = ((Bel n R k).drop i).find? fun j => decide (at_ S j > 0))
      ⟨_, rfl, rfl, rfl⟩ (fun i σ H2 _ ⟨_, _, e, _⟩ => by rw [e]; exact SqL.of hl) ?_ ?_
    · rintro i y σ H2 hy ⟨v, rfl, rfl, e⟩
      obtain ⟨j, hj, rfl⟩ : ∃ k', (Bel n R k)[i]? = some k' ∧ y = V.int (k' : Int) := by
        unfold nL nI at hy
        rw [List.map_map, List.getElem?_map] at hy
        obtain ⟨j, hj, e⟩ := Option.map_eq_some_iff.mp hy
        exact ⟨j, hj, e.symm⟩
      have jn : j < n := (mem_Bel.mp (List.mem_of_getElem? hj)).1
      have kS := stV_get (S := S) (k := j) (by rw [hS]; exact jn)
      have il := (List.getElem?_eq_some_iff.mp hj).1
      have dr : (Bel n R k).drop i = j :: (Bel n R k).drop (i + 1) := by
        rw [List.drop_eq_getElem_cons il]
        have z := List.getElem?_eq_getElem il
        rw [hj] at z
        rw [← Option.some.inj z]
      rw [dr, List.find?_cons] at e
      refine ⟨_, rfl, _, rfl, a, _, _, _, rfl, rfl, SqT.of (s1 _ _ ha), atI_nat kS, _, _, rfl, rfl, _, rfl, ?_⟩
      refine ite2 (fun hp => ?_) (fun hp => ?_)
      · have e2 : litO n R S k = some j := by
          rw [e]
          have hp' : decide (at_ S j > 0) = true := hp
          rw [hp']
        have z := q H2 s1
        rw [e2] at z
        exact ⟨_, rfl, z⟩
      · have hp' : decide (at_ S j > 0) = false := Bool.eq_false_iff.mpr hp
        rw [hp'] at e
        exact ⟨_, rfl, rfl, e⟩
    · rintro σ H2 ⟨v, rfl, rfl, e⟩
      rw [nL_len, List.drop_length] at e
      have z := q H2 s1
      rw [show litO n R S k = none from e] at z
      exact z
/-- what turning down the lamps ls by one leaves -/
def turnL (n h : Nat) (S : List Int) (ls : List Nat) (d : Int) : List Int := (List.range n).map fun j => if j ∈ ls then (at_ S j + d) % (h : Int) else at_ S j
theorem at_set {L : List Int} {i j : Nat} {v : Int} (hi : i < L.length) : at_ (L.set i v) j = if i = j then v else at_ L j := by
  unfold at_
  rw [List.getD_eq_getElem?_getD, List.getD_eq_getElem?_getD, List.getElem?_set]
  by_cases e : i = j
  · rw [if_pos e, if_pos (by omega), if_pos e]; rfl
  · rw [if_neg e, if_neg e]
theorem stV_set (L : List Int) (i : Nat) (v : Int) : (stV L).set i (V.int v) = stV (L.set i v) := by unfold stV; rw [List.map_set]
abbrev s_turned : Stmt := top 31
theorem sc_turned : FnScope ["house", "state", "lamps", "by", "hues", "lamp"] ["house", "state", "lamps", "by"] (defScope s_turned) := ⟨rfl, rfl, rfl, by decide +kernel, rfl, by decide +kernel, by decide +kernel⟩
-- slots of turned: 0 house, 1 state, 2 lamps, 3 by, 4 hues, 5 lamp
def spTurned (C : Addr) : Sp := fun vs H Q _ => ∃ (x a l : Addr) (n h : Nat) (R : Rel) (S : List Int) (ls : List Nat) (d : Int), vs = [.ref x, .ref a, .ref l, .int d] ∧ HouseAt C H x n h R ∧ n ≤ 16 ∧ 2 ≤ h ∧ H a = some (.tup (stV S)) ∧ S.length = n ∧ H l = some (.lst (nL ls)) ∧ ls.Nodup ∧ (∀ j ∈ ls, j < n) ∧
  ∀ (t : Addr) (H' : Hp), Same H H' → H' t = some (.tup (stV (turnL n h S ls d))) → Q (.ref t) H'
theorem ok_turned (T : Txt K mg C) {f : Addr} {fd : FuncData} (F : Fun K "turned" "turned" s_turned f fd) : FnOk P w K mg base CX0 1 f fd ["house", "state", "lamps", "by"] (spTurned C) := by
  refine F.ok sc_turned (fun vs H Q E h => ?_) (fun cdv A outer s H vs Q E hr h => ?_)
  · obtain ⟨x, a, l, n, h, R, S, ls, d, rfl, _⟩ := h; rfl
  · obtain ⟨x, a, l, n, h, R, S, ls, d, rfl, hx, n16, hh, ha, hS, hl, nd, lt, q⟩ := h
    obtain ⟨dx, fs, be, o, h1, h2, h3, h4, h5, h6, h7, h8, h9⟩ := id hx
    refine ⟨_, (pss_cons (ps_set (i := 4) sc_turned.nd rfl (by first | exact Or.inl rfl | exact Or.inr rfl) (pe_callTy (lstOf_ K) (by rfl) T.list b_list (pa_cons (pv 1) pa_nil)))
      (pss_cons (ps_for PassesOwn.never rfl (pil_ K (pv 2)) (pg_name (i := 5) sc_turned.nd rfl (by first | exact Or.inl rfl | exact Or.inr rfl))
      (pss_one (ps_asg (pe_op op_mod (pe_op op_add (pe_ix (ixL_ K) (pv 4) (pv 5) (fun _ _ => rfl)) (pv 3)) (fld_ K (pv 0))) (pg_sub (pv 4) (pv 5) set_list))))
      (pss_one (ps_ret (pe_callTy (tupOf_ K) (by rfl) T.tuple b_tuple (pa_cons (pv 4) pa_nil)))))), ?_⟩
    refine ⟨_, rfl, a, _, rfl, .inr (SqT.of ha), fun fr nf => ?_⟩
    have s1 : Same H (upd H fr (.lst (stV S))) := same_new nf
    have hf1 : (upd H fr (.lst (stV S))) fr = some (.lst (stV S)) := upd_same
    generalize upd H fr (.lst (stV S)) = H3 at s1 hf1 ⊢
    refine ⟨_, rfl, l, rfl, ⟨_, SqL.of (s1 _ _ hl)⟩, ?_⟩
    refine for_list (K := K) (a := l) (xs := nL ls) (fun i σ H5 => ∃ (v : Option V) (L : List Int), σ = [some (.ref x), some (.ref a), some (.ref l), some (.int d), some (.ref fr), v] ∧ Same H H5 ∧ H5 fr = some (.lst (stV L)) ∧ L.length = n ∧
        ∀ j, j < n → at_ L j = if j ∈ ls.take i then (at_ S j + d) % (h : Int) else at_ S j)
      ⟨_, S, rfl, s1, hf1, hS, fun j hj => by simp⟩ (fun i σ H5 _ ⟨_, _, _, s, _⟩ => SqL.of (s _ _ hl)) ?_ ?_
    · rintro i y σ H5 hy ⟨v, L, rfl, s5, h5', lL, val⟩
      obtain ⟨j, hj, rfl⟩ : ∃ k', ls[i]? = some k' ∧ y = V.int (k' : Int) := by
        unfold nL nI at hy
        rw [List.map_map, List.getElem?_map] at hy
        obtain ⟨j, hj, e⟩ := Option.map_eq_some_iff.mp hy
        exact ⟨j, hj, e.symm⟩
      have jn := lt j (List.mem_of_getElem? hj)
      have jL := stV_get (S := L) (k := j) (by rw [lL]; exact jn)
      refine ⟨_, rfl, _, rfl, fr, _, _, _, rfl, rfl, SqL.of h5', atI_nat jL, _, rfl, _, _, rfl, rfl, _, rfl, x, C, dx, _, _, rfl, s5 _ _ h1, T.cl, T.nHues, h3, _, _, rfl, rfl, (by show (0 : Int) < (h : Int); omega), _, rfl, _, rfl, set_at h5' (ixN_nat (by rw [List.length_map, lL]; exact jn)) fun H6 s6 h6 => ?_⟩
      have h6 : H6 fr = some (.lst ((stV L).set j (V.int ((at_ L j + d) % (h : Int))))) := h6
      rw [stV_set] at h6
      have njt : j ∉ ls.take i := fun z => by
        obtain ⟨m, hm, em⟩ := List.getElem_of_mem z
        rw [List.length_take] at hm
        rw [List.getElem_take] at em
        have := nodup_at' nd (show ls[m]? = some j by rw [List.getElem?_eq_getElem (by omega), em]) hj
        omega
      have vj := val j jn
      rw [if_neg njt] at vj
      refine ⟨_, _, rfl, s6.to_same s5 nf, h6, by rw [List.length_set]; exact lL, fun m hm => ?_⟩
      rw [at_set (by omega), vj]
      have tk : ls.take (i + 1) = ls.take i ++ [j] := by rw [List.take_add_one, hj]; rfl
      by_cases e : j = m
      · rw [if_pos e, if_pos (by rw [tk, ← e]; exact List.mem_append_right _ List.mem_cons_self), e]
      · rw [if_neg e, val m hm, tk]
        have e2 : (m ∈ ls.take i ++ [j]) ↔ m ∈ ls.take i := by
          rw [List.mem_append]
          exact ⟨fun z => z.elim id fun z => absurd (List.mem_singleton.mp z).symm e, .inl⟩
        simp only [e2]
    · rintro σ H5 ⟨v, L, rfl, s5, h5', lL, val⟩
      rw [nL_len, List.take_length] at val
      have eL : L = turnL n h S ls d := st_ext lL val
      rw [eL] at h5'
      exact ⟨_, rfl, fr, _, rfl, .inl ⟨SqL.of h5', fun t2 nt2 => q t2 _ (s5.trans (same_new nt2)) upd_same⟩⟩
/-- a move as the program asks of it -/
def canB (n : Nat) (R : Rel) (S : List Int) (k : Nat) (c : Bool) : Bool := decide (at_ S k > 0) && !(c && (litO n R S k).isSome)
theorem vO_non (o : Option Nat) : (!decide (vO o = V.non)) = o.isSome := by
  cases o with
  | none => rfl
  | some j => rfl
end
end Hue

end
section
set_option maxRecDepth 100000
namespace Hue
open PySem PySem.Spec PyProof.Rows L2
section
variable {P : Program} {w : World} {K : PySem.W.Frag} {mg : Str → Option Value} {base : Heap} {C : Addr}
theorem turn_step {n h : Nat} {R : Rel} {S : List Int} {k : Nat} (irr : Irr R) (hk : k < n) (ok : StOk n h S) (pos : at_ S k > 0) : turnL n h S (k :: Bel n R k) (-1) = stepL n h R S k false := by
  unfold stepL
  refine st_ext (by unfold turnL; rw [List.length_map, List.length_range]) fun j hj => ?_
  unfold turnL
  rw [at_map hj]
  have b := ok.at hk
  by_cases e : j = k
  · rw [if_pos e, if_pos (by rw [e]; exact List.mem_cons_self), e]
    show (at_ S k + -1) % (h : Int) = at_ S k + -1
    exact emod_small (by omega) (by omega)
  · rw [if_neg e]
    by_cases r : R k j = true
    · rw [if_pos r, if_pos (List.mem_cons_of_mem _ (mem_Bel.mpr ⟨hj, r⟩))]
      rfl
    · rw [if_neg r, if_neg (fun z => r (mem_Bel.mp ((List.mem_cons.mp z).resolve_left e)).2)]
abbrev s_moved : Stmt := top 29
theorem sc_moved : FnScope ["house", "state", "lamp", "step", "careful", "lower"] ["house", "state", "lamp", "step", "careful"] (defScope s_moved) := ⟨rfl, rfl, rfl, by decide +kernel, rfl, by decide +kernel, by decide +kernel⟩
-- slots of moved: 0 house, 1 state, 2 lamp, 3 step, 4 careful, 5 lower
/-- the state behind a move that is allowed -/
def spMovedP (C : Addr) : Sp := fun vs H Q _ => ∃ (x a : Addr) (n h k : Nat) (R : Rel) (S : List Int) (c : Bool) (st : Int), vs = [.ref x, .ref a, .int k, .int st, .bl c] ∧ HouseAt C H x n h R ∧ n ≤ 16 ∧ 2 ≤ h ∧ k < n ∧ Irr R ∧ H a = some (.tup (stV S)) ∧ StOk n h S ∧ canB n R S k c = true ∧
  ∀ (t : Addr) (H' : Hp), Same H H' → H' t = some (.tup (stV (stepL n h R S k false))) → Q (.ref t) H'
theorem canB_iff {n : Nat} {R : Rel} {S : List Int} {k : Nat} {c : Bool} : canB n R S k c = true ↔ at_ S k > 0 ∧ (c = true → litO n R S k = none) := by
  unfold canB
  rw [Bool.and_eq_true, decide_eq_true_eq, Bool.not_eq_true', Bool.and_eq_false_iff]
  constructor
  · rintro ⟨a, b⟩
    refine ⟨a, fun hc => ?_⟩
    rcases b with b | b
    · rw [hc] at b; cases b
    · cases e : litO n R S k with
      | none => rfl
      | some j => rw [e] at b; cases b
  · rintro ⟨a, b⟩
    refine ⟨a, ?_⟩
    cases c with
    | false => exact .inl rfl
    | true => exact .inr (by rw [b rfl]; rfl)
theorem ok_moved (T : Txt K mg C) {f : Addr} {fd : FuncData} (F : Fun K "moved" "moved" s_moved f fd) (c_first_lit_beneath : Cal P w K mg base "first_lit_beneath" 6 (spFirstLit C)) (c_turned : Cal P w K mg base "turned" 1 (spTurned C)) (M_beneath : MCal P w K mg base C "beneath" 5 (spBeneath C)) :
    FnOk P w K mg base CX0 7 f fd ["house", "state", "lamp", "step", "careful"] (spMovedP C) := by
  refine F.ok sc_moved (fun vs H Q E h => ?_) (fun cdv A outer s H vs Q E hr h => ?_)
  · obtain ⟨x, a, n, h, k, R, S, c, st, rfl, _⟩ := h; rfl
  · obtain ⟨x, a, n, h, k, R, S, c, st, rfl, hx, n16, hh, hk, irr, ha, okS, can, q⟩ := h
    obtain ⟨f_beneath, fd_beneath, ps_beneath, F_beneath, m_beneath, b_beneath⟩ := M_beneath.ex
    obtain ⟨dx, fs, be, o, h1, h2, h3, h4, h5, h6, h7, h8, h9⟩ := id hx
    obtain ⟨pos, calm⟩ := canB_iff.mp can
    refine ⟨_, (pss_cons (ps_if (pt_cmpR op_eq (pe_ix (ixT_ K) (pv 1) (pv 2) (fun _ _ => rfl)) pe_int (nomark _))
      pss_never pss_nil)
      (C8.pss_cut (ps_if (truth_ K (pv 4))
      (pss_cons (ps_set (i := 5) sc_moved.nd rfl (by first | exact Or.inl rfl | exact Or.inr rfl) (pe_cal c_first_lit_beneath (hr.mono (by decide)) (pa_cons (pv 0) (pa_cons (pv 1) (pa_cons (pv 2) pa_nil)))))
      (pss_one (ps_if (pt_cmpR op_notN (pv 5) pe_non (nomark _))
      pss_never pss_nil))) pss_nil)
      (pss_one (ps_ret (pe_cal c_turned (hr.mono (by decide)) (pa_cons (pv 0) (pa_cons (pv 1) (pa_cons (pe_lst (pa_cons (pv 2) (star_ K (pe_meth (pv 0) T.cl m_beneath F_beneath (hr.mono (by decide)) b_beneath .nil pass0 (pa_cons (pv 2) pa_nil)) pa_nil))) (pa_cons (pe_un un_neg pe_int) pa_nil))))))))), ?_⟩
    have kS := stV_get (S := S) (k := k) (by rw [okS.1]; exact hk)
    have nz : decide (V.int (at_ S k) = V.int 0) = false := decide_eq_false fun z => by
      injection z with z
      omega
    refine ⟨_, rfl, _, rfl, a, _, _, _, rfl, rfl, SqT.of ha, atI_nat kS, rfl, _, rfl, ifF nz ?_⟩
    refine ⟨fun σ H2 => ∃ v : Option V, σ = [some (.ref x), some (.ref a), some (.int k), some (.int st), some (.bl c), v] ∧ Same H H2, ⟨_, rfl, c, rfl, ?_⟩, ?_⟩
    · refine ite2 (fun hc => ?_) (fun _ => ⟨_, rfl, Same.refl H⟩)
      refine ⟨_, rfl, _, rfl, _, rfl, x, a, n, h, k, R, S, rfl, hx, n16, hk, ha, okS.1, fun H1 s1 => ?_⟩
      rw [calm hc]
      exact ⟨_, rfl, rfl, _, rfl, ifF rfl ⟨_, rfl, s1⟩⟩
    rintro σ H2 ⟨v, rfl, s2⟩
    refine ⟨_, rfl, _, rfl, _, rfl, _, rfl, x, dx, fs, rfl, s2 _ _ h1, h9, _, rfl, x, n, h, k, R, rfl, hx.same s2, hk, fun H3 l s3 nl hl => ⟨l, _, rfl, .inr (SqL.of hl), ?_, fun g hg => ?_⟩⟩
    · have := Bel_len n R k
      rw [List.length_cons, List.length_append, nL_len, List.length_nil, sizeLine_eq]
      omega
    have eg : (V.int (k : Int) :: (nL (Bel n R k) ++ [])) = nL (k :: Bel n R k) := by rw [List.append_nil]; rfl
    rw [eg]
    have s4 : Same H3 (upd H3 g (.lst (nL (k :: Bel n R k)))) := same_new hg
    have hg4 : (upd H3 g (.lst (nL (k :: Bel n R k)))) g = some (.lst (nL (k :: Bel n R k))) := upd_same
    generalize upd H3 g (.lst (nL (k :: Bel n R k))) = H4 at s4 hg4 ⊢
    have s24 := (s2.trans s3).trans s4
    have nd : (k :: Bel n R k).Nodup := List.nodup_cons.mpr ⟨(fun z => by
      have := (mem_Bel.mp z).2
      rw [irr k] at this
      cases this), by
      unfold Bel
      exact List.Pairwise.filter _ List.nodup_range⟩
    refine ⟨_, rfl, x, a, g, n, h, R, S, k :: Bel n R k, -1, rfl, hx.same s24, n16, hh, s24 _ _ ha, okS.1, hg4, nd, fun j hj => ?_, fun t H5 s5 ht => ?_⟩
    · rcases List.mem_cons.mp hj with e | hj
      · rw [e]; exact hk
      · exact (mem_Bel.mp hj).1
    · rw [turn_step irr hk okS pos] at ht
      exact q t H5 (s24.trans s5) ht
theorem filt_more (f : Nat → Bool) (i : Nat) : (List.range (i + 1)).filter f = (List.range i).filter f ++ (if f i = true then [i] else []) := by
  rw [List.range_succ, List.filter_append, List.filter_cons]
  rfl
theorem filt_few (f : Nat → Bool) (i : Nat) : ((List.range i).filter f).length ≤ i := by
  have := List.length_filter_le f (List.range i)
  rw [List.length_range] at this
  exact this
abbrev s_after : Stmt := top 27
theorem sc_after : FnScope ["house", "state", "lamp", "careful"] ["house", "state", "lamp", "careful"] (defScope s_after) := ⟨rfl, rfl, rfl, by decide +kernel, rfl, by decide +kernel, by decide +kernel⟩
-- slots of after: 0 house, 1 state, 2 lamp, 3 careful
def spAfter (C : Addr) : Sp := fun vs H Q _ => ∃ (x a : Addr) (n h k : Nat) (R : Rel) (S : List Int) (c : Bool), vs = [.ref x, .ref a, .int k, .bl c] ∧ HouseAt C H x n h R ∧ n ≤ 16 ∧ 2 ≤ h ∧ k < n ∧ Irr R ∧ H a = some (.tup (stV S)) ∧ StOk n h S ∧ canB n R S k c = true ∧
  ∀ (t : Addr) (H' : Hp), Same H H' → H' t = some (.tup (stV (stepL n h R S k false))) → Q (.ref t) H'
theorem ok_after (T : Txt K mg C) {f : Addr} {fd : FuncData} (F : FunV K "after" "after" s_after f fd) (c_check_state : Cal P w K mg base "check_state" 4 (spCheckState C)) (c_check_lamp : Cal P w K mg base "check_lamp" 4 (spCheckLamp C)) (c_moved : Cal P w K mg base "moved" 7 (spMovedP C)) :
    FnOk P w K mg base CX0 8 f fd ["house", "state", "lamp", "careful"] (spAfter C) := by
  refine F.ok sc_after (fun vs H Q E h => ?_) (fun cdv A outer s H vs Q E hr h => ?_)
  · obtain ⟨x, a, n, h, k, R, S, c, rfl, _⟩ := h; rfl
  · obtain ⟨x, a, n, h, k, R, S, c, rfl, hx, n16, hh, hk, irr, ha, okS, can, q⟩ := h
    refine ⟨_, (pss_cons (ps_expr (pe_cal c_check_state (hr.mono (by decide)) (pa_cons (pv 0) (pa_cons (pv 1) pa_nil))))
      (pss_cons (ps_expr (pe_cal c_check_lamp (hr.mono (by decide)) (pa_cons (pv 0) (pa_cons (pv 2) pa_nil))))
      (pss_one (ps_ret (pe_cal c_moved (hr.mono (by decide)) (pa_cons (pv 0) (pa_cons (pv 1) (pa_cons (pv 2) (pa_cons pe_int (pa_cons (pv 3) pa_nil)))))))))), ?_⟩
    refine ⟨_, rfl, _, rfl, x, a, n, h, R, S, rfl, hx, n16, ha, okS, fun H1 s1 => ?_⟩
    refine ⟨_, rfl, _, rfl, x, n, h, R, (k : Int), rfl, hx.same s1, by omega, by omega, ?_⟩
    exact ⟨_, rfl, _, rfl, _, rfl, _, rfl, x, a, n, h, k, R, S, c, 0, rfl, hx.same s1, n16, hh, hk, irr, s1 _ _ ha, okS, can, fun t H2 s2 ht => q t H2 (s1.trans s2) ht⟩
/-! ### backwards -/
theorem nL_it {l : List Nat} {i : Nat} {y : V} (h : (nL l)[i]? = some y) : ∃ k, l[i]? = some k ∧ y = V.int (k : Int) := by
  unfold nL nI at h
  rw [List.map_map, List.getElem?_map] at h
  obtain ⟨k, hk, e⟩ := Option.map_eq_some_iff.mp h
  exact ⟨k, hk, e.symm⟩
theorem turn_up {n h : Nat} {R : Rel} {S : List Int} {k : Nat} (irr : Irr R) (hk : k < n) (ok : StOk n h S) (ne : at_ S k ≠ (h : Int) - 1) : turnL n h S (k :: Bel n R k) 1 = stepL n h R S k true := by
  unfold stepL
  refine st_ext (by unfold turnL; rw [List.length_map, List.length_range]) fun j hj => ?_
  unfold turnL
  rw [at_map hj]
  have b := ok.at hk
  by_cases e : j = k
  · rw [if_pos e, if_pos (by rw [e]; exact List.mem_cons_self), e]
    show (at_ S k + 1) % (h : Int) = at_ S k + 1
    exact emod_small (by omega) (by omega)
  · rw [if_neg e]
    by_cases r : R k j = true
    · rw [if_pos r, if_pos (List.mem_cons_of_mem _ (mem_Bel.mpr ⟨hj, r⟩))]
      rfl
    · rw [if_neg r, if_neg (fun z => r (mem_Bel.mp ((List.mem_cons.mp z).resolve_left e)).2)]
/-- the state before a move, if there is one -/
def upO (n h : Nat) (R : Rel) (S : List Int) (k : Nat) (c : Bool) : Option (List Int) := if mayB n h R S k c true = true then some (stepL n h R S k true) else none
/-- None, or the state -/
def OptAt (H : Hp) (v : V) : Option (List Int) → Prop
  | none => v = .non
  | some S => ∃ t, v = .ref t ∧ H t = some (.tup (stV S))
theorem OptAt.same {H H' : Hp} {v : V} {o : Option (List Int)} (a : OptAt H v o) (s : Same H H') : OptAt H' v o := by
  cases o with
  | none => exact a
  | some S => obtain ⟨t, e, ht⟩ := a; exact ⟨t, e, s _ _ ht⟩
theorem upO_none {n h : Nat} {R : Rel} {S : List Int} {k : Nat} {c : Bool} (e : ¬ mayB n h R S k c true = true) : upO n h R S k c = none := if_neg e
theorem upO_some {n h : Nat} {R : Rel} {S : List Int} {k : Nat} {c : Bool} (e : mayB n h R S k c true = true) : upO n h R S k c = some (stepL n h R S k true) := if_pos e
theorem last_up (h : Nat) : lastI h true = (h : Int) - 1 := rfl
abbrev s_before : Stmt := top 28
theorem sc_before : FnScope ["house", "state", "lamp", "careful", "brightest", "lowers", "lower"] ["house", "state", "lamp", "careful"] (defScope s_before) := ⟨rfl, rfl, rfl, by decide +kernel, rfl, by decide +kernel, by decide +kernel⟩
-- slots of before: 0 house, 1 state, 2 lamp, 3 careful, 4 brightest, 5 lowers, 6 lower
def spBefore (C : Addr) : Sp := fun vs H Q _ => ∃ (x a : Addr) (n h k : Nat) (R : Rel) (S : List Int) (c : Bool), vs = [.ref x, .ref a, .int k, .bl c] ∧ HouseAt C H x n h R ∧ n ≤ 16 ∧ 2 ≤ h ∧ k < n ∧ Irr R ∧ H a = some (.tup (stV S)) ∧ StOk n h S ∧
  ∀ (v : V) (H' : Hp), Same H H' → OptAt H' v (upO n h R S k c) → Q v H'
theorem ok_before (T : Txt K mg C) {f : Addr} {fd : FuncData} (F : FunV K "before" "before" s_before f fd) (c_check_state : Cal P w K mg base "check_state" 4 (spCheckState C)) (c_check_lamp : Cal P w K mg base "check_lamp" 4 (spCheckLamp C)) (c_turned : Cal P w K mg base "turned" 1 (spTurned C)) (M_beneath : MCal P w K mg base C "beneath" 5 (spBeneath C)) :
    FnOk P w K mg base CX0 8 f fd ["house", "state", "lamp", "careful"] (spBefore C) := by
  refine F.ok sc_before (fun vs H Q E h => ?_) (fun cdv A outer s H vs Q E hr h => ?_)
  · obtain ⟨x, a, n, h, k, R, S, c, rfl, _⟩ := h; rfl
  · obtain ⟨x, a, n, h, k, R, S, c, rfl, hx, n16, hh, hk, irr, ha, okS, q⟩ := h
    obtain ⟨f_beneath, fd_beneath, ps_beneath, F_beneath, m_beneath, b_beneath⟩ := M_beneath.ex
    refine ⟨_, (pss_cons (ps_expr (pe_cal c_check_state (hr.mono (by decide)) (pa_cons (pv 0) (pa_cons (pv 1) pa_nil))))
      (pss_cons (ps_expr (pe_cal c_check_lamp (hr.mono (by decide)) (pa_cons (pv 0) (pa_cons (pv 2) pa_nil))))
      (pss_cons (ps_set (i := 4) sc_before.nd rfl (by first | exact Or.inl rfl | exact Or.inr rfl) (pe_op op_sub (fld_ K (pv 0)) pe_int))
      (pss_cons (ps_set (i := 5) sc_before.nd rfl (by first | exact Or.inl rfl | exact Or.inr rfl) (pe_meth (pv 0) T.cl m_beneath F_beneath (hr.mono (by decide)) b_beneath .nil pass0 (pa_cons (pv 2) pa_nil)))
      (pss_cons (ps_if (pt_cmpR op_eq (pe_ix (ixT_ K) (pv 1) (pv 2) (fun _ _ => rfl)) (pv 4) (nomark _))
      (pss_one (ps_ret pe_non)) pss_nil)
      (pss_cons (ps_if (PW.pt (pw_and (truth_ K (pv 3)) (pw_and1 (pt_val (pe_callB (any_ K rfl) (by rfl) T.any b_any (pa_cons (pe_lc (own := [("lower", 6)]) (g := gName 6) (tt := tYes) rfl sc_before.nd (pil_ K (pv 5)) (blkOk_by (by kernel_rfl)) (fun _ _ _ _ _ => (pg_name (i := 6) sc_before.nd rfl (by first | exact Or.inl rfl | exact Or.inr rfl))) (fun _ _ _ _ _ => pts_nil) (fun _ _ _ _ _ => (pe_cmpR op_lt (pe_ix (ixT_ K) (pv 1) (pv 6) (fun _ _ => rfl)) (pv 4) (nomark _)))) pa_nil))))))
      (pss_one (ps_ret pe_non)) pss_nil)
      (pss_one (ps_ret (pe_cal c_turned (hr.mono (by decide)) (pa_cons (pv 0) (pa_cons (pv 1) (pa_cons (pe_lst (pa_cons (pv 2) (star_ K (pv 5) pa_nil))) (pa_cons pe_int pa_nil))))))))))))), ?_⟩
    have bk := okS.at hk
    have kS := stV_get (S := S) (k := k) (by rw [okS.1]; exact hk)
    refine ⟨_, rfl, _, rfl, x, a, n, h, R, S, rfl, hx, n16, ha, okS, fun H1 s1 => ?_⟩
    have hx1 := hx.same s1
    refine ⟨_, rfl, _, rfl, x, n, h, R, (k : Int), rfl, hx1, by omega, by omega, ?_⟩
    obtain ⟨dx, fs, be, o, h1, h2, h3, h4, h5, h6, h7, h8, h9⟩ := id hx1
    refine ⟨_, rfl, x, C, dx, _, _, rfl, h1, T.cl, T.nHues, h3, _, _, rfl, rfl, ?_⟩
    refine ⟨_, rfl, x, dx, fs, rfl, h1, h9, _, rfl, x, n, h, k, R, rfl, hx1, hk, fun H2 l s2 nl hl => ?_⟩
    have s02 := s1.trans s2
    have none_ : ∀ H', Same H H' → ¬ mayB n h R S k c true = true → Q .non H' := fun H' s' nm => q .non H' s' (by rw [upO_none nm]; exact rfl)
    refine ⟨_, rfl, _, rfl, a, _, _, _, rfl, rfl, SqT.of (s02 _ _ ha), atI_nat kS, _, rfl, rfl, _, rfl, ?_⟩
    refine ite2 (fun heq => ?_) (fun hne => ?_)
    · have e : at_ S k = (h : Int) - 1 := by
        have z := of_decide_eq_true heq
        injection z
      exact none_ H2 s02 fun m => (may_iff.mp m).1 e
    have ne : at_ S k ≠ (h : Int) - 1 := fun z => hne (decide_eq_true (by rw [z]))
    have fin : ∀ H3, Same H2 H3 → mayB n h R S k c true = true → tCal (spTurned C) (tCons (tVar 0) (tCons (tVar 1) (tCons (tLst (tCons (tVar 2) (StX.tStar K (tVar 5) tNil))) (tCons (tC (.int 1)) tNil))))
        [some (.ref x), some (.ref a), some (.int k), some (.bl c), some (.int ((h : Int) - 1)), some (.ref l), Option.none] H3 Q := by
      intro H3 s3 may
      have s03 := s02.trans s3
      refine ⟨_, rfl, _, rfl, _, rfl, _, rfl, l, _, rfl, .inr (SqL.of (s3 _ _ hl)), ?_, fun g hg => ?_⟩
      · have := Bel_len n R k
        rw [List.length_cons, List.length_append, nL_len, List.length_nil, sizeLine_eq]
        omega
      have eg : (V.int (k : Int) :: (nL (Bel n R k) ++ [])) = nL (k :: Bel n R k) := by rw [List.append_nil]; rfl
      rw [eg]
      have s4 : Same H3 (upd H3 g (.lst (nL (k :: Bel n R k)))) := same_new hg
      have hg4 : (upd H3 g (.lst (nL (k :: Bel n R k)))) g = some (.lst (nL (k :: Bel n R k))) := upd_same
      generalize upd H3 g (.lst (nL (k :: Bel n R k))) = H4 at s4 hg4 ⊢
      have s04 := s03.trans s4
      have nd : (k :: Bel n R k).Nodup := List.nodup_cons.mpr ⟨(fun z => by
        have := (mem_Bel.mp z).2
        rw [irr k] at this
        cases this), by
        unfold Bel
        exact List.Pairwise.filter _ List.nodup_range⟩
      refine ⟨x, a, g, n, h, R, S, k :: Bel n R k, 1, rfl, hx.same s04, n16, hh, s04 _ _ ha, okS.1, hg4, nd, fun j hj => ?_, fun t H5 s5 ht => ?_⟩
      · rcases List.mem_cons.mp hj with e | hj
        · rw [e]; exact hk
        · exact (mem_Bel.mp hj).1
      · rw [turn_up irr hk okS ne] at ht
        exact q (.ref t) H5 (s04.trans s5) (by rw [upO_some may]; exact ⟨t, rfl, ht⟩)
    refine ⟨_, rfl, c, rfl, ?_⟩
    refine ite2 (fun hc => ?_) (fun hc => ?_)
    · refine ⟨_, rfl, l, rfl, ⟨_, SqL.of hl⟩, fun D hD => ?_⟩
      refine lc_list (xs := nL (Bel n R k)) (fun i H3 => H3 D = some (.lst ((((Bel n R k).take i).map fun m => decide (at_ S m < (h : Int) - 1)).map V.bl)) ∧ Same H2 H3) ⟨upd_same, same_new hD⟩ (fun i H3 _ ⟨_, s⟩ => SqL.of (s _ _ hl)) ?_ ?_
      · rintro i y H3 hy ⟨h3', s3⟩
        obtain ⟨m, hm, rfl⟩ := nL_it hy
        have mn : m < n := (mem_Bel.mp (List.mem_of_getElem? hm)).1
        have kM := stV_get (S := S) (k := m) (by rw [okS.1]; exact mn)
        have few := Bel_len n R k
        have few2 : ((Bel n R k).take i).length ≤ n := by rw [List.length_take]; omega
        refine ⟨rfl, yesT ⟨_, rfl, _, rfl, a, _, _, _, rfl, rfl, SqT.of (s3 _ _ (s02 _ _ ha)), atI_nat kM, _, rfl, _, _, rfl, rfl, _, h3', by rw [List.length_map, List.length_map, sizeLine_eq]; omega, ?_, same_upd s3 hD⟩⟩
        rw [upd_same, List.take_add_one, hm, List.map_append, List.map_append]
        rfl
      · rintro H3 ⟨h3', s3⟩
        rw [nL_len, List.take_length] at h3'
        refine ⟨D, _, rfl, SqL.of h3', _, rfl, ?_⟩
        refine ite2 (fun hany => ?_) (fun hall => ?_)
        · refine none_ H3 (s02.trans s3) fun may => ?_
          obtain ⟨b, hb, eb⟩ := List.any_eq_true.mp hany
          obtain ⟨m, hm, em⟩ := List.mem_map.mp hb
          obtain ⟨mn, rm⟩ := mem_Bel.mp hm
          have z := (may_iff.mp may).2 hc m mn rm
          rw [last_up] at z
          have lt : at_ S m < (h : Int) - 1 := of_decide_eq_true (em.trans eb)
          omega
        · refine fin H3 s3 (may_iff.mpr ⟨ne, fun _ j hj r => ?_⟩)
          have bj := okS.at hj
          rw [last_up]
          refine Classical.byContradiction fun nz => hall (List.any_eq_true.mpr ⟨true, List.mem_map.mpr ⟨j, mem_Bel.mpr ⟨hj, r⟩, decide_eq_true ?_⟩, rfl⟩)
          omega
    · exact fin H2 (Same.refl H2) (may_iff.mpr ⟨ne, fun z => absurd z hc⟩)
end
end Hue

end
section
set_option maxRecDepth 100000
namespace Hue
open PySem PySem.Spec PyProof.Rows L2
section
variable {P : Program} {w : World} {K : PySem.W.Frag} {mg : Str → Option Value} {base : Heap} {C : Addr}
theorem StOk.add {n h : Nat} {S : List Int} {z : Int} (ok : StOk n h S) (z0 : 0 ≤ z) (z1 : z < (h : Int)) : StOk (n + 1) h (S ++ [z]) := ⟨by rw [List.length_append, ok.1]; rfl, fun y hy => by
  rcases List.mem_append.mp hy with hy | hy
  · exact ok.2 y hy
  · rw [List.mem_singleton.mp hy]; exact ⟨z0, z1⟩⟩
/-! ### a state -/
abbrev s__law_state : Stmt := top 40
theorem sc__law_state : FnScope ["box", "count", "hues", "lamp"] ["box", "count", "hues"] (defScope s__law_state) := ⟨rfl, rfl, rfl, by decide +kernel, rfl, by decide +kernel, by decide +kernel⟩
-- slots of _law_state: 0 box, 1 count, 2 hues, 3 lamp
def spState : Sp := fun vs H Q _ => ∃ (b : Addr) (n h : Nat), vs = [.ref b, .int n, .int h] ∧ n ≤ 16 ∧ 2 ≤ h ∧ h ≤ 10 ∧ Box H b ∧ ∀ (S : List Int) (t : Addr) (H' : Hp), StOk n h S → SB b H H' → Box H' b → H' t = some (.tup (stV S)) → Q (.ref t) H'
theorem ok__law_state (T : Txt K mg C) {f : Addr} {fd : FuncData} (F : Fun K "_law_state" "_law_state" s__law_state f fd) (c__law_take : Cal P w K mg base "_law_take" 2 spTake) : FnOk P w K mg base CX0 3 f fd ["box", "count", "hues"] spState := by
  refine F.ok sc__law_state (fun vs H Q E h => ?_) (fun cdv A outer s H vs Q E hr h => ?_)
  · obtain ⟨b, n, h, rfl, _⟩ := h; rfl
  · obtain ⟨b, n, h, rfl, n16, h2, h10, hb, q⟩ := h
    refine ⟨_, (pss_cons (ps_if (pt_cmpR op_eq (pe_cal c__law_take (hr.mono (by decide)) (pa_cons (pv 0) (pa_cons pe_int pa_nil))) pe_int (nomark _))
      (pss_one (ps_ret (pe_callTy (tupOf_ K) (by rfl) T.tuple b_tuple (pa_cons (pe_lc (own := [("lamp", 3)]) (g := gName 3) (tt := tYes) rfl sc__law_state.nd (pi_range1 (by rfl) T.range (pa_cons (pv 1) pa_nil)) (blkOk_by (by kernel_rfl)) (fun _ _ _ _ _ => (pg_name (i := 3) sc__law_state.nd rfl (by first | exact Or.inl rfl | exact Or.inr rfl))) (fun _ _ _ _ _ => pts_nil) (fun _ _ _ _ _ => (pe_op op_mul (pe_op op_sub (pv 2) pe_int) (pe_cal c__law_take (hr.mono (by decide)) (pa_cons (pv 0) (pa_cons pe_int pa_nil)))))) pa_nil)))) pss_nil)
      (pss_one (ps_ret (pe_callTy (tupOf_ K) (by rfl) T.tuple b_tuple (pa_cons (pe_lc (own := [("lamp", 3)]) (g := gName 3) (tt := tYes) rfl sc__law_state.nd (pi_range1 (by rfl) T.range (pa_cons (pv 1) pa_nil)) (blkOk_by (by kernel_rfl)) (fun _ _ _ _ _ => (pg_name (i := 3) sc__law_state.nd rfl (by first | exact Or.inl rfl | exact Or.inr rfl))) (fun _ _ _ _ _ => pts_nil) (fun _ _ _ _ _ => (pe_cal c__law_take (hr.mono (by decide)) (pa_cons (pv 0) (pa_cons (pv 2) pa_nil))))) pa_nil))))), ?_⟩
    refine ⟨_, rfl, b, 4, rfl, by decide, by decide, hb, fun d0 H1 _ s1 b1 => ⟨rfl, _, rfl, ?_⟩⟩
    refine ite2 (fun _ => ?_) (fun _ => ?_)
    · refine ⟨_, rfl, _, rfl, by omega, by omega, fun D hD => ?_⟩
      rw [Int.toNat_natCast]
      have nDb := b1.new hD
      have hD0 := none_back s1 nDb hD
      refine lc_range (fun i H2 => ∃ S : List Int, H2 D = some (.lst (stV S)) ∧ StOk i h S ∧ SB b H H2 ∧ Box H2 b) ⟨[], upd_same, ⟨rfl, fun z hz => absurd hz List.not_mem_nil⟩, s1.trans (SB.of (same_new hD)), b1.same (same_new hD)⟩ ?_ ?_
      · rintro i H2 hi ⟨S, hS, ok, sb, b2⟩
        refine ⟨rfl, yesT ⟨_, rfl, _, _, rfl, rfl, _, rfl, b, 2, rfl, by decide, by decide, b2, fun d H3 hd s3 b3 => ⟨_, _, rfl, rfl, .inl ⟨by omega, by omega⟩, ?_⟩⟩⟩
        have bd : 0 ≤ ((h : Int) - 1) * (d : Int) ∧ ((h : Int) - 1) * (d : Int) < (h : Int) := by
          rcases (show d = 0 ∨ d = 1 by omega) with e | e
          · rw [e]; omega
          · rw [e]; omega
        refine ⟨_, s3 _ _ nDb hS, by rw [List.length_map, ok.1, sizeLine_eq]; omega, S ++ [((h : Int) - 1) * (d : Int)], ?_, ok.add bd.1 bd.2, fun a o na e => ?_, b3.upd nDb⟩
        · rw [upd_same]; unfold stV; rw [List.map_append]; rfl
        · rw [upd_ne (ne_of_none e hD0)]
          exact (sb.trans s3) a o na e
      · rintro H2 ⟨S, hS, ok, sb, b2⟩
        refine ⟨D, _, rfl, .inl ⟨SqL.of hS, fun t nt => ?_⟩⟩
        exact q S t _ ok (sb.trans (SB.of (same_new nt))) (b2.same (same_new nt)) upd_same
    · refine ⟨_, rfl, _, rfl, by omega, by omega, fun D hD => ?_⟩
      rw [Int.toNat_natCast]
      have nDb := b1.new hD
      have hD0 := none_back s1 nDb hD
      refine lc_range (fun i H2 => ∃ S : List Int, H2 D = some (.lst (stV S)) ∧ StOk i h S ∧ SB b H H2 ∧ Box H2 b) ⟨[], upd_same, ⟨rfl, fun z hz => absurd hz List.not_mem_nil⟩, s1.trans (SB.of (same_new hD)), b1.same (same_new hD)⟩ ?_ ?_
      · rintro i H2 hi ⟨S, hS, ok, sb, b2⟩
        refine ⟨rfl, yesT ⟨_, rfl, _, rfl, b, h, rfl, by omega, by omega, b2, fun d H3 hd s3 b3 => ?_⟩⟩
        refine ⟨_, s3 _ _ nDb hS, by rw [List.length_map, ok.1, sizeLine_eq]; omega, S ++ [(d : Int)], ?_, ok.add (by omega) (by omega), fun a o na e => ?_, b3.upd nDb⟩
        · rw [upd_same]; unfold stV; rw [List.map_append]; rfl
        · rw [upd_ne (ne_of_none e hD0)]
          exact (sb.trans s3) a o na e
      · rintro H2 ⟨S, hS, ok, sb, b2⟩
        refine ⟨D, _, rfl, .inl ⟨SqL.of hS, fun t nt => ?_⟩⟩
        exact q S t _ ok (sb.trans (SB.of (same_new nt))) (b2.same (same_new nt)) upd_same
/-! ### a move, as the law makes it -/
abbrev s__law_step : Stmt := top 41
theorem sc__law_step : FnScope ["hues", "below", "state", "lamp", "found", "other"] ["hues", "below", "state", "lamp"] (defScope s__law_step) := ⟨rfl, rfl, rfl, by decide +kernel, rfl, by decide +kernel, by decide +kernel⟩
-- slots of _law_step: 0 hues, 1 below, 2 state, 3 lamp, 4 found, 5 other
def spStep : Sp := fun vs H Q _ => ∃ (lz s : Addr) (n h k : Nat) (R : Rel) (S : List Int), vs = [.int h, .ref lz, .ref s, .int k] ∧ n ≤ 16 ∧ 2 ≤ h ∧ k < n ∧ Irr R ∧ Rows H lz (relRows n R) ∧ H s = some (.tup (stV S)) ∧ StOk n h S ∧
  ∀ (t : Addr) (H' : Hp), Same H H' → H' t = some (.tup (stV (stepL n h R S k false))) → Q (.ref t) H'
theorem ok__law_step (T : Txt K mg C) {f : Addr} {fd : FuncData} (F : Fun K "_law_step" "_law_step" s__law_step f fd) : FnOk P w K mg base CX0 1 f fd ["hues", "below", "state", "lamp"] spStep := by
  refine F.ok sc__law_step (fun vs H Q E h => ?_) (fun cdv A outer s H vs Q E hr h => ?_)
  · obtain ⟨lz, s, n, h, k, R, S, rfl, _⟩ := h; rfl
  · obtain ⟨lz, t, n, h, k, R, S, rfl, n16, h2, hk, irr, rows, ht, okS, q⟩ := h
    have hS := okS.1
    refine ⟨_, (pss_cons (ps_set (i := 4) sc__law_step.nd rfl (by first | exact Or.inl rfl | exact Or.inr rfl) (pe_callTy (lstOf_ K) (by rfl) T.list b_list (pa_cons (pv 2) pa_nil)))
      (pss_cons (ps_asg (pe_op op_sub (pe_ix (ixL_ K) (pv 4) (pv 3) (fun _ _ => rfl)) pe_int) (pg_sub (pv 4) (pv 3) set_list))
      (pss_cons (ps_for PassesOwn.never rfl (pil_ K (pe_ix (ixL_ K) (pv 1) (pv 3) (fun _ _ => rfl))) (pg_name (i := 5) sc__law_step.nd rfl (by first | exact Or.inl rfl | exact Or.inr rfl))
      (pss_cons (ps_asg (pe_op op_sub (pe_ix (ixL_ K) (pv 4) (pv 5) (fun _ _ => rfl)) pe_int) (pg_sub (pv 4) (pv 5) set_list))
      (pss_one (ps_if (pt_cmpR op_lt (pe_ix (ixL_ K) (pv 4) (pv 5) (fun _ _ => rfl)) pe_int (nomark _))
      (pss_one (ps_asg (pe_op op_sub (pv 0) pe_int) (pg_sub (pv 4) (pv 5) set_list))) pss_nil))))
      (pss_one (ps_ret (pe_callTy (tupOf_ K) (by rfl) T.tuple b_tuple (pa_cons (pv 4) pa_nil))))))), ?_⟩
    have kS := stV_get (S := S) (k := k) (by rw [hS]; exact hk)
    refine ⟨_, rfl, t, _, rfl, .inr (SqT.of ht), fun fr nf => ?_⟩
    have s1 : Same H (upd H fr (.lst (stV S))) := same_new nf
    have hf1 : (upd H fr (.lst (stV S))) fr = some (.lst (stV S)) := upd_same
    generalize upd H fr (.lst (stV S)) = H3 at s1 hf1 ⊢
    refine ⟨_, rfl, _, rfl, fr, _, _, _, rfl, rfl, SqL.of hf1, atI_nat kS, _, _, rfl, rfl, _, rfl, _, rfl, set_at hf1 (ixN_nat (by rw [List.length_map, hS]; exact hk)) fun H4 s4 h4 => ?_⟩
    have h4 : H4 fr = some (.lst ((stV S).set k (V.int (at_ S k + shI false)))) := h4
    rw [stV_set] at h4
    have s24 : Same H H4 := s4.to_same s1 nf
    obtain ⟨xs, al, hb, _, hal, hL⟩ := rows.at (relRows_at (R := R) hk)
    refine ⟨_, rfl, _, rfl, lz, xs, _, _, rfl, rfl, SqL.of (s24 _ _ hb), atI_nat hal, al, rfl, ⟨_, SqL.of (s24 _ _ hL)⟩, ?_⟩
    have bnd : (Bel n R k).Nodup := by
      unfold Bel
      exact List.Pairwise.filter _ List.nodup_range
    refine for_list (K := K) (a := al) (xs := nL (Bel n R k)) (fun i σ H5 => ∃ (v : Option V) (L : List Int), σ = [some (.int h), some (.ref lz), some (.ref t), some (.int k), some (.ref fr), v] ∧ Same H H5 ∧ H5 fr = some (.lst (stV L)) ∧ L.length = n ∧
        ∀ j, j < n → at_ L j = if j = k then at_ S k + shI false else if j ∈ (Bel n R k).take i then (at_ S j + shI false) % (h : Int) else at_ S j)
      ⟨_, _, rfl, s24, h4, by rw [List.length_set]; exact hS, fun j hj => ?_⟩ (fun i σ H5 _ ⟨_, _, _, s, _⟩ => SqL.of (s _ _ hL)) ?_ ?_
    · rw [at_set (by omega)]
      by_cases e : k = j
      · rw [if_pos e, if_pos e.symm]
      · rw [if_neg e, if_neg (fun z => e z.symm), if_neg (by simp)]
    · rintro i y σ H5 hy ⟨v, L, rfl, s5, h5, lL, val⟩
      obtain ⟨j, hj, rfl⟩ := nL_item hy
      obtain ⟨jn, rj⟩ := mem_Bel.mp (List.mem_of_getElem? hj)
      have jL := stV_get (S := L) (k := j) (by rw [lL]; exact jn)
      have nj : j ≠ k := fun z => by rw [z, irr k] at rj; cases rj
      have njt : j ∉ (Bel n R k).take i := fun z => by
        obtain ⟨m, hm, em⟩ := List.getElem_of_mem z
        rw [List.length_take] at hm
        rw [List.getElem_take] at em
        have := nodup_at' bnd (show (Bel n R k)[m]? = some j by rw [List.getElem?_eq_getElem (by omega), em]) hj
        omega
      have vj := val j jn
      rw [if_neg nj, if_neg njt] at vj
      have bj := okS.at jn
      -- what comes of it
      have fin : ∀ (H7 : Hp) (z : Int), z = (at_ S j + shI false) % (h : Int) → Same H H7 → H7 fr = some (.lst (stV (L.set j z))) →
          ∃ (v : Option V) (L : List Int), ([some (.int h), some (.ref lz), some (.ref t), some (.int k), some (.ref fr), some (.int (j : Int))] : L2.St) = [some (.int h), some (.ref lz), some (.ref t), some (.int k), some (.ref fr), v] ∧ Same H H7 ∧ H7 fr = some (.lst (stV L)) ∧ L.length = n ∧
          ∀ m, m < n → at_ L m = if m = k then at_ S k + shI false else if m ∈ (Bel n R k).take (i + 1) then (at_ S m + shI false) % (h : Int) else at_ S m := fun H7 z ez s7 h7 => by
        refine ⟨_, _, rfl, s7, h7, by rw [List.length_set]; exact lL, fun m hm => ?_⟩
        rw [at_set (by omega)]
        have tk : (Bel n R k).take (i + 1) = (Bel n R k).take i ++ [j] := by rw [List.take_add_one, hj]; rfl
        by_cases e : j = m
        · rw [if_pos e, if_neg (fun z => nj (e.trans z)), if_pos (by rw [tk, ← e]; exact List.mem_append_right _ List.mem_cons_self), ez, e]
        · rw [if_neg e, val m hm, tk]
          have e2 : (m ∈ (Bel n R k).take i ++ [j]) ↔ m ∈ (Bel n R k).take i := by
            rw [List.mem_append]
            exact ⟨fun z => z.elim id fun z => absurd (List.mem_singleton.mp z).symm e, .inl⟩
          simp only [e2]
      refine ⟨_, rfl, _, rfl, fr, _, _, _, rfl, rfl, SqL.of h5, atI_nat jL, _, _, rfl, rfl, _, rfl, _, rfl, set_at h5 (ixN_nat (by rw [List.length_map, lL]; exact jn)) fun H6 s6 h6 => ?_⟩
      have h6 : H6 fr = some (.lst ((stV L).set j (V.int (at_ L j - 1)))) := h6
      rw [stV_set, vj] at h6
      have s06 : Same H H6 := s6.to_same s5 nf
      have jL6 : (stV (L.set j (at_ S j - 1)))[j]? = some (V.int (at_ S j - 1)) := by
        rw [stV_get (by rw [List.length_set, lL]; exact jn), at_set (by rw [lL]; exact jn), if_pos rfl]
      have sh : shI false = -1 := rfl
      refine ⟨_, rfl, _, rfl, fr, _, _, _, rfl, rfl, SqL.of h6, atI_nat jL6, _, _, rfl, rfl, _, rfl, ?_⟩
      refine ite2 (fun hlt => ?_) (fun hge => ?_)
      · have neg : at_ S j - 1 < 0 := of_decide_eq_true hlt
        have j0 : at_ S j = 0 := by omega
        refine ⟨_, rfl, _, _, rfl, rfl, _, rfl, _, rfl, set_at h6 (ixN_nat (by rw [List.length_map, List.length_set, lL]; exact jn)) fun H7 s7 h7 => ?_⟩
        have h7 : H7 fr = some (.lst ((stV (L.set j (at_ S j - 1))).set j (V.int ((h : Int) - 1)))) := h7
        rw [stV_set, List.set_set] at h7
        refine fin H7 _ ?_ (s7.to_same s06 nf) h7
        rw [j0, sh]
        have e1 : (0 + -1 : Int) % (h : Int) = (h : Int) - 1 := by
          have := Int.add_emod_right (0 + -1) (h : Int)
          rw [← this]
          exact Int.emod_eq_of_lt (by omega) (by omega)
        exact e1.symm
      · have pos : ¬ at_ S j - 1 < 0 := fun z => hge (decide_eq_true z)
        refine fin H6 _ ?_ s06 h6
        rw [sh]
        exact (Int.emod_eq_of_lt (by omega) (by omega)).symm
    · rintro σ H5 ⟨v, L, rfl, s5, h5, lL, val⟩
      rw [nL_len, List.take_length] at val
      have eL : L = stepL n h R S k false := by
        unfold stepL
        refine st_ext lL fun j hj => ?_
        rw [val j hj]
        have e2 : j ∈ Bel n R k ↔ R k j = true := ⟨fun z => (mem_Bel.mp z).2, fun z => mem_Bel.mpr ⟨hj, z⟩⟩
        simp only [e2]
      rw [eL] at h5
      exact ⟨_, rfl, fr, _, rfl, .inl ⟨SqL.of h5, fun t2 nt2 => q t2 _ (s5.trans (same_new nt2)) upd_same⟩⟩
/-! ### what is told is what is due -/
abbrev s__law_same : Stmt := top 42
theorem sc__law_same : FnScope ["told", "due", "k"] ["told", "due"] (defScope s__law_same) := ⟨rfl, rfl, rfl, by decide +kernel, rfl, by decide +kernel, by decide +kernel⟩
-- slots of _law_same: 0 told, 1 due, 2 k
def spSame : Sp := fun vs H Q _ => ∃ (a b : Addr) (S : List Int), vs = [.ref a, .ref b] ∧ S.length ≤ 16 ∧ H a = some (.tup (stV S)) ∧ H b = some (.tup (stV S)) ∧ Q (.bl true) H
theorem ok__law_same (T : Txt K mg C) {f : Addr} {fd : FuncData} (F : Fun K "_law_same" "_law_same" s__law_same f fd) : FnOk P w K mg base CX0 1 f fd ["told", "due"] spSame := by
  refine F.ok sc__law_same (fun vs H Q E h => ?_) (fun cdv A outer s H vs Q E hr h => ?_)
  · obtain ⟨a, b, S, rfl, _⟩ := h; rfl
  · obtain ⟨a, b, S, rfl, few, ha, hb, q⟩ := h
    refine ⟨_, (pss_cons (ps_if (PW.pt (pw_or (pt_not (pt_val (pe_callB (isi_ K) (by rfl) T.isinstance b_isinstance (pa_cons (pv 0) (pa_cons (pe_bltn (v := .ty "tuple") (by rfl) T.tuple b_tuple rfl) pa_nil))))) (pw_or1 (pt_cmpR op_ne (pe_callB (lenS_ K) (by rfl) T.len b_len (pa_cons (pv 0) pa_nil)) (pe_callB (lenS_ K) (by rfl) T.len b_len (pa_cons (pv 1) pa_nil)) (nomark _)))))
      (pss_one (ps_ret pe_bl)) pss_nil)
      (pss_cons (ps_for PassesOwn.never rfl (pi_range1 (by rfl) T.range (pa_cons (pe_callB (lenS_ K) (by rfl) T.len b_len (pa_cons (pv 1) pa_nil)) pa_nil)) (pg_name (i := 2) sc__law_same.nd rfl (by first | exact Or.inl rfl | exact Or.inr rfl))
      (pss_one (ps_if (PW.pt (pw_or (pt_not (pt_val (pe_callB (isi_ K) (by rfl) T.isinstance b_isinstance (pa_cons (pe_ix (ixT_ K) (pv 0) (pv 2) (fun _ _ => rfl)) (pa_cons (pe_bltn (v := .ty "int") (by rfl) T.int b_int rfl) pa_nil))))) (pw_or (pt_val (pe_callB (isi_ K) (by rfl) T.isinstance b_isinstance (pa_cons (pe_ix (ixT_ K) (pv 0) (pv 2) (fun _ _ => rfl)) (pa_cons (pe_bltn (v := .ty "bool") (by rfl) T.bool b_bool rfl) pa_nil)))) (pw_or1 (pt_cmpR op_ne (pe_ix (ixT_ K) (pv 0) (pv 2) (fun _ _ => rfl)) (pe_ix (ixT_ K) (pv 1) (pv 2) (fun _ _ => rfl)) (nomark _))))))
      (pss_one (ps_ret pe_bl)) pss_nil)))
      (pss_one (ps_ret pe_bl)))), ?_⟩
    refine ⟨_, rfl, _, _, _, _, true, rfl, .ty _, .base (.tup ha), kit_ty (by decide +kernel), true, rfl, iteF ?_⟩
    refine ⟨_, rfl, a, _, rfl, .inr (SqT.of ha), _, rfl, b, _, rfl, .inr (SqT.of hb), rfl, _, rfl, iteNS rfl ?_⟩
    refine ⟨_, rfl, b, _, rfl, .inr (SqT.of hb), _, rfl, by rw [List.length_map]; omega, by rw [List.length_map]; omega, ?_⟩
    rw [List.length_map, Int.toNat_natCast]
    refine for_range (fun i σ H2 => ∃ v : Option V, σ = [some (.ref a), some (.ref b), v] ∧ H2 = H) ⟨_, rfl, rfl⟩ ?_ ?_
    · rintro i σ H2 hi ⟨v, rfl, rfl⟩
      have e0 : (0 : Int) + (i : Int) = (i : Int) := by omega
      rw [e0]
      have kS := stV_get (S := S) (k := i) hi
      refine ⟨_, rfl, _, rfl, a, _, _, _, rfl, rfl, SqT.of ha, atI_nat kS, _, _, _, _, true, rfl, .ty _, .base (.int _), kit_ty (by decide +kernel), true, rfl, iteF ?_⟩
      refine ⟨_, rfl, _, rfl, a, _, _, _, rfl, rfl, SqT.of ha, atI_nat kS, _, _, _, _, false, rfl, .ty _, .base (.int _), kit_ty (by decide +kernel), false, rfl, iteF ?_⟩
      refine ⟨_, rfl, _, rfl, a, _, _, _, rfl, rfl, SqT.of ha, atI_nat kS, _, rfl, _, rfl, b, _, _, _, rfl, rfl, SqT.of hb, atI_nat kS, rfl, _, rfl, ?_⟩
      rw [decide_eq_true rfl]
      exact iteF ⟨_, rfl, rfl⟩
    · rintro σ H2 ⟨v, rfl, rfl⟩
      exact q
end
end Hue

end
section
set_option maxRecDepth 100000
namespace Hue
open PySem PySem.Spec PyProof.Rows L2
section
variable {P : Program} {w : World} {K : PySem.W.Frag} {mg : Str → Option Value} {base : Heap} {C : Addr}
/-- a plan at t: hues, line, wires, state -/
def PlanAt (H : Hp) (b t : Addr) (h : Nat) (line : List Nat) (ps : List (Nat × Nat)) (S : List Int) : Prop := ∃ (la wz st : Addr) (ts : List Addr), la ≠ b ∧ wz ≠ b ∧ H t = some (.tup [.int h, .ref la, .ref wz, .ref st]) ∧ H la = some (.lst (nL line)) ∧ H wz = some (.lst (ts.map V.ref)) ∧ Pairs H ts ps ∧ H st = some (.tup (stV S))
structure PlanOk (n h : Nat) (line : List Nat) (ps : List (Nat × Nat)) (S : List Int) : Prop where
  n1 : 1 ≤ n
  n16 : n ≤ 16
  h2 : 2 ≤ h
  h10 : h ≤ 10
  lok : LineOk n line
  dn : Down line ps
  nd : ps.Nodup
  few : ps.length < 121
  ok : StOk n h S
theorem Box.neT {H : Hp} {b a : Addr} {xs : List V} (hb : Box H b) (h : H a = some (.tup xs)) : a ≠ b := by
  obtain ⟨ys, e⟩ := hb.at
  exact ne_of h e (by intro z; cases z)
theorem PlanAt.sb {H H' : Hp} {b t : Addr} {h : Nat} {line : List Nat} {ps : List (Nat × Nat)} {S : List Int} (p : PlanAt H b t h line ps S) (hb : Box H b) (s : SB b H H') : PlanAt H' b t h line ps S := by
  obtain ⟨la, wz, st, ts, n1, n2, e1, e2, e3, e4, e5⟩ := p
  obtain ⟨xs, hx⟩ := hb.at
  exact ⟨la, wz, st, ts, n1, n2, s _ _ (hb.neT e1) e1, s _ _ n1 e2, s _ _ n2 e3, e4.sb hx s, s _ _ (hb.neT e5) e5⟩
theorem PlanAt.same {H H' : Hp} {b t : Addr} {h : Nat} {line : List Nat} {ps : List (Nat × Nat)} {S : List Int} (p : PlanAt H b t h line ps S) (s : Same H H') : PlanAt H' b t h line ps S := by
  obtain ⟨la, wz, st, ts, n1, n2, e1, e2, e3, e4, e5⟩ := p
  exact ⟨la, wz, st, ts, n1, n2, s _ _ e1, s _ _ e2, s _ _ e3, e4.same s, s _ _ e5⟩
abbrev s__law_plan : Stmt := top 43
theorem sc__law_plan : FnScope ["box", "count", "hues", "line", "wires"] ["box"] (defScope s__law_plan) := ⟨rfl, rfl, rfl, by decide +kernel, rfl, by decide +kernel, by decide +kernel⟩
-- slots of _law_plan: 0 box, 1 count, 2 hues, 3 line, 4 wires
def spPlan : Sp := fun vs H Q _ => ∃ b : Addr, vs = [.ref b] ∧ Box H b ∧ ∀ (n h : Nat) (line : List Nat) (ps : List (Nat × Nat)) (S : List Int) (t : Addr) (H' : Hp), PlanOk n h line ps S → SB b H H' → Box H' b → PlanAt H' b t h line ps S → Q (.ref t) H'
theorem ok__law_plan (T : Txt K mg C) {f : Addr} {fd : FuncData} (F : Fun K "_law_plan" "_law_plan" s__law_plan f fd) (c__law_take : Cal P w K mg base "_law_take" 2 spTake) (c__law_line : Cal P w K mg base "_law_line" 3 spLine) (c__law_wires : Cal P w K mg base "_law_wires" 3 spWires)
    (c__law_state : Cal P w K mg base "_law_state" 3 spState) : FnOk P w K mg base CX0 4 f fd ["box"] spPlan := by
  refine F.ok sc__law_plan (fun vs H Q E h => ?_) (fun cdv A outer s H vs Q E hr h => ?_)
  · obtain ⟨b, rfl, _⟩ := h; rfl
  · obtain ⟨b, rfl, hb, q⟩ := h
    refine ⟨_, (C8.pss_cut (ps_set (i := 1) sc__law_plan.nd rfl (by first | exact Or.inl rfl | exact Or.inr rfl) (pe_op op_add pe_int (pe_cal c__law_take (hr.mono (by decide)) (pa_cons (pv 0) (pa_cons (pe_ifExp (pt_cmpR op_eq (pe_cal c__law_take (hr.mono (by decide)) (pa_cons (pv 0) (pa_cons pe_int pa_nil))) pe_int (nomark _)) pe_int pe_int) pa_nil)))))
      (C8.pss_cut (ps_set (i := 2) sc__law_plan.nd rfl (by first | exact Or.inl rfl | exact Or.inr rfl) (pe_op op_add pe_int (pe_cal c__law_take (hr.mono (by decide)) (pa_cons (pv 0) (pa_cons (pe_ifExp (pt_cmpR op_eq (pe_cal c__law_take (hr.mono (by decide)) (pa_cons (pv 0) (pa_cons pe_int pa_nil))) pe_int (nomark _)) pe_int pe_int) pa_nil)))))
      (pss_cons (ps_set (i := 3) sc__law_plan.nd rfl (by first | exact Or.inl rfl | exact Or.inr rfl) (pe_cal c__law_line (hr.mono (by decide)) (pa_cons (pv 0) (pa_cons (pv 1) pa_nil))))
      (pss_cons (ps_set (i := 4) sc__law_plan.nd rfl (by first | exact Or.inl rfl | exact Or.inr rfl) (pe_cal c__law_wires (hr.mono (by decide)) (pa_cons (pv 0) (pa_cons (pv 3) pa_nil))))
      (pss_one (ps_ret (pe_tup (pa_cons (pv 2) (pa_cons (pv 3) (pa_cons (pv 4) (pa_cons (pe_cal c__law_state (hr.mono (by decide)) (pa_cons (pv 0) (pa_cons (pv 1) (pa_cons (pv 2) pa_nil)))) pa_nil))))))))))), ?_⟩
    refine ⟨fun σ H1 => ∃ n : Nat, 1 ≤ n ∧ n ≤ 16 ∧ σ = [some (.ref b), some (.int n), Option.none, Option.none, Option.none] ∧ SB b H H1 ∧ Box H1 b, ⟨_, rfl, _, rfl, b, 8, rfl, by decide, by decide, hb, fun d0 H1 _ s1 b1 => ⟨rfl, _, rfl, ?_⟩⟩, ?_⟩
    · refine ite2 (fun _ => ?_) (fun _ => ?_)
      · refine ⟨b, 16, rfl, by decide, by decide, b1, fun d H2 hd s2 b2 => ⟨_, _, rfl, rfl, 1 + d, by omega, by omega, ?_, s1.trans s2, b2⟩⟩
        have e : ((1 + d : Nat) : Int) = 1 + (d : Int) := by omega
        rw [e]; rfl
      · refine ⟨b, 6, rfl, by decide, by decide, b1, fun d H2 hd s2 b2 => ⟨_, _, rfl, rfl, 1 + d, by omega, by omega, ?_, s1.trans s2, b2⟩⟩
        have e : ((1 + d : Nat) : Int) = 1 + (d : Int) := by omega
        rw [e]; rfl
    rintro σ H1 ⟨n, n1, n16, rfl, s1, b1⟩
    refine ⟨fun σ H2 => ∃ h : Nat, 2 ≤ h ∧ h ≤ 10 ∧ σ = [some (.ref b), some (.int n), some (.int h), Option.none, Option.none] ∧ SB b H H2 ∧ Box H2 b, ⟨_, rfl, _, rfl, b, 8, rfl, by decide, by decide, b1, fun d0 H2 _ s2 b2 => ⟨rfl, _, rfl, ?_⟩⟩, ?_⟩
    · refine ite2 (fun _ => ?_) (fun _ => ?_)
      · refine ⟨b, 9, rfl, by decide, by decide, b2, fun d H3 hd s3 b3 => ⟨_, _, rfl, rfl, 2 + d, by omega, by omega, ?_, (s1.trans s2).trans s3, b3⟩⟩
        have e : ((2 + d : Nat) : Int) = 2 + (d : Int) := by omega
        rw [e]; rfl
      · refine ⟨b, 3, rfl, by decide, by decide, b2, fun d H3 hd s3 b3 => ⟨_, _, rfl, rfl, 2 + d, by omega, by omega, ?_, (s1.trans s2).trans s3, b3⟩⟩
        have e : ((2 + d : Nat) : Int) = 2 + (d : Int) := by omega
        rw [e]; rfl
    rintro σ H2 ⟨h, h2, h10, rfl, s2, b2⟩
    refine ⟨_, rfl, _, rfl, b, n, rfl, n16, b2, fun line la H3 lok s3 b3 nla hla => ?_⟩
    refine ⟨_, rfl, _, rfl, b, la, n, line, rfl, n1, n16, lok, b3, nla, hla, fun ts ps wz H4 dn nd few s4 b4 nwz hwz hps => ?_⟩
    have hla4 := s4 _ _ nla hla
    refine ⟨_, rfl, _, rfl, _, rfl, _, rfl, _, rfl, _, rfl, b, n, h, rfl, n16, h2, h10, b4, fun S st H5 ok s5 b5 hst => ⟨by show 4 ≤ sizeLine; decide, fun t nt => ?_⟩⟩
    obtain ⟨xs, hx⟩ := b4.at
    have s6 : Same H5 (upd H5 t (.tup [.int h, .ref la, .ref wz, .ref st])) := same_new nt
    exact q n h line ps S t _ ⟨n1, n16, h2, h10, lok, dn, nd, few, ok⟩ ((((s2.trans s3).trans s4).trans s5).trans (SB.of s6)) (b5.same s6)
      ⟨la, wz, st, ts, nla, nwz, upd_same, s6 _ _ (s5 _ _ nla hla4), s6 _ _ (s5 _ _ nwz hwz), (hps.sb hx s5).same s6, s6 _ _ hst⟩
theorem Pairs.drop1 {H : Hp} {ts : List Addr} {ps : List (Nat × Nat)} (h : Pairs H ts ps) (k : Nat) : Pairs H (ts.take k ++ ts.drop (k + 1)) (ps.take k ++ ps.drop (k + 1)) := by
  obtain ⟨l, v⟩ := h
  have l1 : (ts.take k).length = (ps.take k).length := by rw [List.length_take, List.length_take, l]
  refine ⟨by rw [List.length_append, List.length_append, List.length_drop, List.length_drop, List.length_take, List.length_take, l], fun i t p e1 e2 => ?_⟩
  rcases Nat.lt_or_ge i (ts.take k).length with lt | ge
  · rw [List.getElem?_append_left lt, List.getElem?_take] at e1
    rw [List.getElem?_append_left (by rw [← l1]; exact lt), List.getElem?_take] at e2
    split at e1
    · rw [if_pos (by assumption)] at e2
      exact v _ t p e1 e2
    · cases e1
  · rw [List.getElem?_append_right ge, List.getElem?_drop] at e1
    rw [List.getElem?_append_right (by rw [← l1]; exact ge), ← l1, List.getElem?_drop] at e2
    exact v _ t p e1 e2
theorem drop1_sub {α : Type} (l : List α) (k : Nat) : (l.take k ++ l.drop (k + 1)).Sublist l := by
  have h1 : (l.take k ++ l.drop (k + 1)).Sublist (l.take k ++ l.drop k) := List.Sublist.append (List.Sublist.refl _) (by
    rw [← List.drop_drop]
    exact List.drop_sublist 1 _)
  rw [List.take_append_drop] at h1
  exact h1
abbrev s__law_second : Stmt := top 44
theorem sc__law_second : FnScope ["box", "plan", "gone"] ["box", "plan"] (defScope s__law_second) := ⟨rfl, rfl, rfl, by decide +kernel, rfl, by decide +kernel, by decide +kernel⟩
-- slots of _law_second: 0 box, 1 plan, 2 gone
def spSecond : Sp := fun vs H Q _ => ∃ (b t : Addr) (n h : Nat) (line : List Nat) (ps : List (Nat × Nat)) (S : List Int), vs = [.ref b, .ref t] ∧ Box H b ∧ PlanOk n h line ps S ∧ PlanAt H b t h line ps S ∧
  ∀ (n h : Nat) (line : List Nat) (ps : List (Nat × Nat)) (S : List Int) (t : Addr) (H' : Hp), PlanOk n h line ps S → SB b H H' → Box H' b → PlanAt H' b t h line ps S → Q (.ref t) H'
theorem ok__law_second (T : Txt K mg C) {f : Addr} {fd : FuncData} (F : Fun K "_law_second" "_law_second" s__law_second f fd) (c__law_take : Cal P w K mg base "_law_take" 2 spTake) (c__law_plan : Cal P w K mg base "_law_plan" 4 spPlan) : FnOk P w K mg base CX0 5 f fd ["box", "plan"] spSecond := by
  refine F.ok sc__law_second (fun vs H Q E h => ?_) (fun cdv A outer s H vs Q E hr h => ?_)
  · obtain ⟨b, t, n, h, line, ps, S, rfl, _⟩ := h; rfl
  · obtain ⟨b, t, n, h, line, ps, S, rfl, hb, pok, pat, q⟩ := h
    refine ⟨_, (pss_cons (ps_if (pt_cmpR op_eq (pe_cal c__law_take (hr.mono (by decide)) (pa_cons (pv 0) (pa_cons pe_int pa_nil))) pe_int (nomark _))
      (pss_one (ps_ret (pe_cal c__law_plan (hr.mono (by decide)) (pa_cons (pv 0) pa_nil)))) pss_nil)
      (pss_cons (ps_set (i := 2) sc__law_second.nd rfl (by first | exact Or.inl rfl | exact Or.inr rfl) (pe_cal c__law_take (hr.mono (by decide)) (pa_cons (pv 0) (pa_cons (pe_callB (call_max2 rfl) (by rfl) T.max b_max (pa_cons pe_int (pa_cons (pe_callB (lenS_ K) (by rfl) T.len b_len (pa_cons (pe_ix (ixT_ K) (pv 1) pe_int (fun _ _ => rfl)) pa_nil)) pa_nil))) pa_nil))))
      (pss_one (ps_ret (pe_tup (pa_cons (pe_ix (ixT_ K) (pv 1) pe_int (fun _ _ => rfl)) (pa_cons (pe_ix (ixT_ K) (pv 1) pe_int (fun _ _ => rfl)) (pa_cons (pe_op op_cat (pe_slice (slL_ K) (pe_ix (ixT_ K) (pv 1) pe_int (fun _ _ => rfl)) po_none (po_some (pv 2))) (pe_slice (slL_ K) (pe_ix (ixT_ K) (pv 1) pe_int (fun _ _ => rfl)) (po_some (pe_op op_add (pv 2) pe_int)) po_none)) (pa_cons (pe_ix (ixT_ K) (pv 1) pe_int (fun _ _ => rfl)) pa_nil))))))))), ?_⟩
    refine ⟨_, rfl, b, 2, rfl, by decide, by decide, hb, fun d0 H1 _ s1 b1 => ⟨rfl, _, rfl, ?_⟩⟩
    refine ite2 (fun _ => ?_) (fun _ => ?_)
    · exact ⟨_, rfl, b, rfl, b1, fun n h line ps S t H' a1 a2 a3 a4 => q n h line ps S t H' a1 (s1.trans a2) a3 a4⟩
    · obtain ⟨la, wz, st, ts, nla, nwz, e1, e2, e3, e4, e5⟩ := pat.sb hb s1
      have lts : (ts.map V.ref).length = ps.length := by rw [List.length_map, e4.1]
      obtain ⟨m, em, m1, m2⟩ : ∃ m : Nat, (if ((ts.map V.ref).length : Int) > 1 then ((ts.map V.ref).length : Int) else 1) = (m : Int) ∧ 1 ≤ m ∧ m < 1000 := by
        have few := pok.few
        rw [lts]
        by_cases c : ((ps.length : Nat) : Int) > 1
        · rw [if_pos c]; exact ⟨ps.length, rfl, by omega, by omega⟩
        · rw [if_neg c]; exact ⟨1, rfl, by omega, by omega⟩
      refine ⟨_, rfl, _, rfl, t, _, _, _, rfl, rfl, SqT.of e1, rfl, wz, _, rfl, .inl (SqL.of e3), _, _, rfl, b, m, by rw [em], m1, by omega, b1, fun k H2 hk s2 b2 => ?_⟩
      obtain ⟨xs, hx⟩ := b1.at
      have e1' := s2 _ _ (b1.neT e1) e1
      have e3' := s2 _ _ nwz e3
      have ek : (k : Int) + 1 = ((k + 1 : Nat) : Int) := by omega
      refine ⟨_, rfl, t, _, _, _, rfl, rfl, SqT.of e1', rfl, _, rfl, t, _, _, _, rfl, rfl, SqT.of e1', rfl, _, rfl, t, _, _, _, rfl, rfl, SqT.of e1', rfl, _, rfl, _, rfl, wz, _, rfl, SqL.of e3', fun p1 np1 => ?_⟩
      rw [cut_front rfl]
      have s6 : Same H2 (upd H2 p1 (.lst ((ts.take k).map V.ref))) := same_new np1
      have hp1 : (upd H2 p1 (.lst ((ts.take k).map V.ref))) p1 = some (.lst ((ts.take k).map V.ref)) := upd_same
      generalize upd H2 p1 (.lst ((ts.take k).map V.ref)) = H6 at s6 hp1 ⊢
      refine ⟨_, rfl, t, _, _, _, rfl, rfl, SqT.of (s6 _ _ e1'), rfl, _, rfl, _, _, rfl, rfl, _, rfl, wz, _, rfl, SqL.of (s6 _ _ e3'), fun p2 np2 => ?_⟩
      rw [ek, cut_rest rfl]
      have s7 : Same H6 (upd H6 p2 (.lst ((ts.drop (k + 1)).map V.ref))) := same_new np2
      have hp2 : (upd H6 p2 (.lst ((ts.drop (k + 1)).map V.ref))) p2 = some (.lst ((ts.drop (k + 1)).map V.ref)) := upd_same
      generalize upd H6 p2 (.lst ((ts.drop (k + 1)).map V.ref)) = H7 at s7 hp2 ⊢
      have s27 := s6.trans s7
      refine ⟨p1, p2, _, _, rfl, rfl, s7 _ _ hp1, hp2, ?_, fun wn nwn => ?_⟩
      · have few := pok.few
        rw [List.length_map, List.length_map, List.length_drop, List.length_take, e4.1, sizeLine_eq]; omega
      rw [← List.map_append]
      have s8 : Same H7 (upd H7 wn (.lst ((ts.take k ++ ts.drop (k + 1)).map V.ref))) := same_new nwn
      have hwn : (upd H7 wn (.lst ((ts.take k ++ ts.drop (k + 1)).map V.ref))) wn = some (.lst ((ts.take k ++ ts.drop (k + 1)).map V.ref)) := upd_same
      have nwb : wn ≠ b := (b2.same s27).new nwn
      generalize upd H7 wn (.lst ((ts.take k ++ ts.drop (k + 1)).map V.ref)) = H8 at s8 hwn ⊢
      have s28 := s27.trans s8
      refine ⟨_, rfl, t, _, _, _, rfl, rfl, SqT.of (s28 _ _ e1'), rfl, by show 4 ≤ sizeLine; decide, fun tn ntn => ?_⟩
      have s29 := s28.trans (same_new (o := .tup [.int h, .ref la, .ref wn, .ref st]) ntn)
      have sub := drop1_sub ps k
      refine q n h line (ps.take k ++ ps.drop (k + 1)) S tn _ { pok with dn := fun r hr => pok.dn r (sub.subset hr), nd := sub.nodup pok.nd, few := Nat.lt_of_le_of_lt sub.length_le pok.few } ((s1.trans s2).trans (SB.of s29)) (b2.same s29)
        ⟨la, wn, st, ts.take k ++ ts.drop (k + 1), nla, nwb, upd_same, s29 _ _ (s2 _ _ nla e2), same_new ntn _ _ hwn, ((e4.sb hx s2).drop1 k).same s29, s29 _ _ (s2 _ _ (b1.neT e5) e5)⟩
end
end Hue

end
section
set_option maxRecDepth 100000
namespace Hue
open PySem PySem.Spec PyProof.Rows L2
section
variable {P : Program} {w : World} {K : PySem.W.Frag} {mg : Str → Option Value} {base : Heap} {C : Addr}
/-- a list of whole numbers as plain data -/
def liD (l : List Nat) : PyData := .list ((nI l).map .int)
theorem li_dp {K : PySem.W.Frag} {H : Hp} {a : Addr} {l : List Nat} (h : H a = some (.lst (nL l))) : Dp K H (.ref a) (liD l) := .lst (SqL.of h) (ints_dp (nI l))
theorem li_shaped (l : List Nat) : SeqAt.shaped (liD l) = true := by
  have h1 := ints_deep (nI l)
  have h2 : PyData.depth (liD l) ≤ 64 := by
    simp only [liD, PyData.depth]
    omega
  show (PyData.canLay0 (liD l) && decide (PyData.depth (liD l) ≤ 64)) = true
  rw [decide_eq_true h2, Bool.and_true]
  show PyData.canLay0 (.list ((nI l).map .int)) = true
  simp only [PyData.canLay0]
  exact ints_lay (nI l)
theorem li_eqv (l : List Nat) : PyData.eqv (liD l) (liD []) = decide (l = []) := by
  simp only [liD, PyData.eqv]
  rw [show (nI ([] : List Nat)) = [] from rfl, ints_eqv]
  unfold nI
  cases l <;> simp
/-- the lamps with an allowed move -/
def movL (n : Nat) (R : Rel) (S : List Int) (c : Bool) : List Nat := (List.range n).filter fun k => canB n R S k c
theorem mem_movL {n : Nat} {R : Rel} {S : List Int} {c : Bool} {k : Nat} : k ∈ movL n R S c ↔ k < n ∧ canB n R S k c = true := by unfold movL; simp
theorem movL_few (n : Nat) (R : Rel) (S : List Int) (c : Bool) : (movL n R S c).length ≤ n := filter_few _ n
theorem lit_none {n : Nat} {R : Rel} {S : List Int} {k : Nat} : ((Bel n R k).filter fun j => decide (at_ S j > 0)) = [] ↔ litO n R S k = none := by
  unfold litO
  rw [List.filter_eq_nil_iff, List.find?_eq_none]
theorem can_free (n : Nat) (R : Rel) (S : List Int) (k : Nat) : canB n R S k false = decide (at_ S k > 0) := by
  unfold canB
  simp
theorem can_calm (n : Nat) (R : Rel) (S : List Int) (k : Nat) : canB n R S k true = (decide (at_ S k > 0) && decide (((Bel n R k).filter fun j => decide (at_ S j > 0)) = [])) := by
  rw [Bool.eq_iff_iff, canB_iff, Bool.and_eq_true, decide_eq_true_eq, decide_eq_true_eq, lit_none]
  simp
theorem take_filter {l : List Nat} {i j : Nat} (f : Nat → Bool) (h : l[i]? = some j) : (l.take (i + 1)).filter f = (l.take i).filter f ++ (if f j = true then [j] else []) := by
  rw [List.take_add_one, h, List.filter_append]
  show _ ++ List.filter f [j] = _
  rw [List.filter_cons]
  rfl
end
end Hue

end
section
set_option maxRecDepth 100000
namespace Hue
open PySem PySem.Spec PyProof.Rows L2
section
variable {P : Program} {w : World} {K : PySem.W.Frag} {mg : Str → Option Value} {base : Heap} {C : Addr}
theorem in_movL {n : Nat} {R : Rel} {S : List Int} {c : Bool} {k : Nat} (hk : k < n) : inV (V.int (k : Int)) (nL (movL n R S c)) = canB n R S k c := by
  rw [in_nL, Bool.eq_iff_iff, decide_eq_true_eq, mem_movL]
  exact ⟨fun z => z.2, fun z => ⟨hk, z⟩⟩
theorem can_less {n : Nat} {R : Rel} {S : List Int} {k : Nat} (h : canB n R S k true = true) : canB n R S k false = true := canB_iff.mpr ⟨(canB_iff.mp h).1, fun z => absurd z Bool.false_ne_true⟩
/-- the world of a house, as it stood in a heap without the box -/
def Wld (C : Addr) (b : Addr) (H : Hp) (x lz a : Addr) (n h : Nat) (R : Rel) (S : List Int) : Prop := ∃ H0 : Hp, H0 b = Option.none ∧ Same H0 H ∧ HouseAt C H0 x n h R ∧ Rows H0 lz (relRows n R) ∧ H0 a = some (.tup (stV S))
theorem Wld.sb {b : Addr} {H H' : Hp} {x lz a : Addr} {n h : Nat} {R : Rel} {S : List Int} (v : Wld C b H x lz a n h R S) (s : SB b H H') : Wld C b H' x lz a n h R S := by
  obtain ⟨H0, n0, s0, r⟩ := v
  exact ⟨H0, n0, SB.past s0 n0 s, r⟩
theorem Wld.get {b : Addr} {H : Hp} {x lz a : Addr} {n h : Nat} {R : Rel} {S : List Int} (v : Wld C b H x lz a n h R S) : HouseAt C H x n h R ∧ Rows H lz (relRows n R) ∧ H a = some (.tup (stV S)) := by
  obtain ⟨H0, n0, s0, r1, r2, r3⟩ := v
  exact ⟨r1.same s0, r2.same s0, s0 _ _ r3⟩
theorem Wld.other {b : Addr} {H : Hp} {x lz a a2 : Addr} {n h : Nat} {R : Rel} {S S2 : List Int} (v : Wld C b H x lz a n h R S) (hb : Box H b) (h2 : H a2 = some (.tup (stV S2))) : Wld C b H x lz a2 n h R S2 := by
  obtain ⟨H0, n0, s0, r1, r2, r3⟩ := v
  have ne : a2 ≠ b := hb.neT h2
  refine ⟨hide H b, hide_same, fun c o e => (hide_some e).2, ?_, ?_, by rw [hide_ne ne]; exact h2⟩
  · exact r1.same fun c o e => by rw [hide_ne (ne_of_none e n0)]; exact s0 c o e
  · exact r2.same fun c o e => by rw [hide_ne (ne_of_none e n0)]; exact s0 c o e
end
end Hue

end
section
set_option maxRecDepth 100000
set_option maxHeartbeats 4000000
namespace Hue
open PySem PySem.Spec PyProof.Rows L2
section
variable {P : Program} {w : World} {K : PySem.W.Frag} {mg : Str → Option Value} {base : Heap} {C : Addr}
theorem rank_of {line : List Nat} (nd : line.Nodup) : ∃ ρ : Nat → Nat, ∀ (i : Nat) k, line[i]? = some k → ρ k = i := by
  classical
  refine ⟨fun k => if h : ∃ i : Nat, line[i]? = some k then Classical.choose h else 0, fun i k hi => ?_⟩
  have h : ∃ i : Nat, line[i]? = some k := ⟨i, hi⟩
  show (if h : ∃ i : Nat, line[i]? = some k then Classical.choose h else 0) = i
  rw [dif_pos h]
  exact nodup_at nd (Classical.choose_spec h) hi
theorem PlanOk.rank {n h : Nat} {line : List Nat} {ps : List (Nat × Nat)} {S : List Int} (p : PlanOk n h line ps S) : ∃ ρ : Nat → Nat, ∀ r ∈ ps, ρ r.1 < ρ r.2 := by
  obtain ⟨ρ, hρ⟩ := rank_of p.lok.2.1
  refine ⟨ρ, fun r hr => ?_⟩
  obtain ⟨x, y, h1, h2, h3⟩ := p.dn r hr
  rw [hρ x _ h2, hρ y _ h3]; exact h1
theorem PlanOk.ranked {n h : Nat} {line : List Nat} {ps : List (Nat × Nat)} {S : List Int} (p : PlanOk n h line ps S) : Ranked (relOf ps) := let ⟨_, hρ⟩ := p.rank; relOf_ranked hρ
theorem PlanOk.lt {n h : Nat} {line : List Nat} {ps : List (Nat × Nat)} {S : List Int} (p : PlanOk n h line ps S) : ∀ r ∈ ps, r.1 < n ∧ r.2 < n := fun r hr => by
  obtain ⟨x, y, h1, h2, h3⟩ := p.dn r hr
  exact ⟨p.lok.2.2 _ (List.mem_of_getElem? h2), p.lok.2.2 _ (List.mem_of_getElem? h3)⟩
/-- what _law_house is asked: a house of the wires at wz, built upon nothing of the box -/
def spHouse (C : Addr) : Sp := fun vs H Q _ => ∃ (b wz : Addr) (n h : Nat) (line : List Nat) (ts : List Addr) (ps : List (Nat × Nat)) (S : List Int), vs = [.ref b, .int n, .int h, .ref wz] ∧ Box H b ∧ PlanOk n h line ps S ∧ wz ≠ b ∧ H wz = some (.lst (ts.map V.ref)) ∧ Pairs H ts ps ∧
  ∀ (x : Addr) (H0 H' : Hp), H0 b = Option.none → Same H0 H' → HouseAt C H0 x n h (relOf ps) → SB b H H' → Box H' b → Q (.ref x) H'
abbrev s__law_world : Stmt := top 45
theorem sc__law_world : FnScope ["box", "plan", "house"] ["box", "plan"] (defScope s__law_world) := ⟨rfl, rfl, rfl, by decide +kernel, rfl, by decide +kernel, by decide +kernel⟩
-- slots of _law_world: 0 box, 1 plan, 2 house
def spWorld (C : Addr) : Sp := fun vs H Q _ => ∃ (b t : Addr) (n h : Nat) (line : List Nat) (ps : List (Nat × Nat)) (S : List Int), vs = [.ref b, .ref t] ∧ Box H b ∧ PlanOk n h line ps S ∧ PlanAt H b t h line ps S ∧
  ∀ (x lz st tw : Addr) (H' : Hp), Wld C b H' x lz st n h (relOf ps) S → SB b H H' → Box H' b → H' tw = some (.tup [.ref x, .int h, .ref lz, .ref st]) → Q (.ref tw) H'
theorem ok__law_world (T : Txt K mg C) {f : Addr} {fd : FuncData} (F : Fun K "_law_world" "_law_world" s__law_world f fd) (c__law_house : Cal P w K mg base "_law_house" 7 (spHouse C)) (c__law_below : Cal P w K mg base "_law_below" 1 (Off spBelow)) : FnOk P w K mg base CX0 8 f fd ["box", "plan"] (spWorld C) := by
  refine F.ok sc__law_world (fun vs H Q E h => ?_) (fun cdv A outer s H vs Q E hr h => ?_)
  · obtain ⟨b, t, n, h, line, ps, S, rfl, _⟩ := h; rfl
  · obtain ⟨b, t, n, h, line, ps, S, rfl, hb, pok, pat, q⟩ := h
    refine ⟨_, (pss_cons (ps_set (i := 2) sc__law_world.nd rfl (by first | exact Or.inl rfl | exact Or.inr rfl) (pe_cal c__law_house (hr.mono (by decide)) (pa_cons (pv 0) (pa_cons (pe_callB (lenS_ K) (by rfl) T.len b_len (pa_cons (pe_ix (ixT_ K) (pv 1) pe_int (fun _ _ => rfl)) pa_nil)) (pa_cons (pe_ix (ixT_ K) (pv 1) pe_int (fun _ _ => rfl)) (pa_cons (pe_ix (ixT_ K) (pv 1) pe_int (fun _ _ => rfl)) pa_nil))))))
      (pss_one (ps_ret (pe_tup (pa_cons (pv 2) (pa_cons (pe_ix (ixT_ K) (pv 1) pe_int (fun _ _ => rfl)) (pa_cons (pe_cal c__law_below (hr.mono (by decide)) (pa_cons (pe_ix (ixT_ K) (pv 1) pe_int (fun _ _ => rfl)) (pa_cons (pe_ix (ixT_ K) (pv 1) pe_int (fun _ _ => rfl)) pa_nil))) (pa_cons (pe_ix (ixT_ K) (pv 1) pe_int (fun _ _ => rfl)) pa_nil)))))))), ?_⟩
    obtain ⟨la, wz, st, ts, nla, nwz, e1, e2, e3, e4, e5⟩ := id pat
    have en : ((nL line).length : Int) = (n : Int) := by rw [nL_len, pok.lok.1]
    refine ⟨_, rfl, _, rfl, t, _, _, _, rfl, rfl, SqT.of e1, rfl, la, _, rfl, .inl (SqL.of e2), _, rfl, t, _, _, _, rfl, rfl, SqT.of e1, rfl, _, rfl, t, _, _, _, rfl, rfl, SqT.of e1, rfl, b, wz, n, h, line, ts, ps, S, by rw [en], hb, pok, nwz, e3, e4, fun x H0 H1 n0 s0 hx s1 b1 => ?_⟩
    obtain ⟨xs, hx1⟩ := hb.at
    have f1 := s1 _ _ (hb.neT e1) e1
    have f2 := s1 _ _ nla e2
    have f3 := s1 _ _ nwz e3
    have f4 := e4.sb hx1 s1
    have f5 := s1 _ _ (hb.neT e5) e5
    obtain ⟨i0, i1, i2, i3, cs, hbx, r1, r2, r3⟩ := b1
    have b1 : Box H1 b := ⟨i0, i1, i2, i3, cs, hbx, r1, r2, r3⟩
    have hp4 : Pairs (hide H1 b) ts ps := ⟨f4.1, fun i t p a c => by
      rw [hide_ne (ne_of (f4.2 i t p a c) hbx (by intro z; cases z))]
      exact f4.2 i t p a c⟩
    refine ⟨_, rfl, _, rfl, t, _, _, _, rfl, rfl, SqT.of f1, rfl, _, rfl, t, _, _, _, rfl, rfl, SqT.of f1, rfl, _, rfl, t, _, _, _, rfl, rfl, SqT.of f1, rfl, b, _, hbx, la, wz, n, line, ts, ps, rfl, pok.n16, pok.lok, by rw [hide_ne nla]; exact f2, by rw [hide_ne nwz]; exact f3, hp4, pok.dn, fun lz H2 s2 nlz rows nb2 => ?_⟩
    have sb2 : SB b H1 (upd H2 b (.lst (bxV i0 i1 i2 i3 cs))) := fun c o nc e => by
      rw [upd_ne nc]
      exact s2 _ _ (by rw [hide_ne nc]; exact e)
    have same2 : Same H2 (upd H2 b (.lst (bxV i0 i1 i2 i3 cs))) := same_new nb2
    have b2 : Box (upd H2 b (.lst (bxV i0 i1 i2 i3 cs))) b := ⟨i0, i1, i2, i3, cs, upd_same, r1, r2, r3⟩
    have w2 : Wld C b (upd H2 b (.lst (bxV i0 i1 i2 i3 cs))) x lz st n h (relOf ps) S := ⟨H2, nb2, same2, hx.same fun c o e => s2 _ _ (by rw [hide_ne (ne_of_none e n0)]; exact s0 _ _ e), rows, s2 _ _ (by rw [hide_ne (b1.neT f5)]; exact f5)⟩
    generalize upd H2 b (.lst (bxV i0 i1 i2 i3 cs)) = H3 at sb2 b2 w2 ⊢
    refine ⟨_, rfl, t, _, _, _, rfl, rfl, SqT.of (sb2 _ _ (b1.neT f1) f1), rfl, by show 4 ≤ sizeLine; decide, fun tw ntw => ?_⟩
    have s4 : Same H3 (upd H3 tw (.tup [.ref x, .int h, .ref lz, .ref st])) := same_new ntw
    exact q x lz st tw _ (w2.sb (SB.of s4)) ((s1.trans sb2).trans (SB.of s4)) (b2.same s4) upd_same
end
end Hue

end
section
set_option maxRecDepth 100000
set_option maxHeartbeats 4000000
namespace L2
open PySem PySem.Spec PyProof.Rows
/-- the making of an instance with defaults -/
structure NCalD (P : Program) (w : World) (K : PySem.W.Frag) (mg : Str → Option Value) (base : Heap) (C : Addr) (x : Str) (k : Nat) (sp : Sp) (dvs : List V) : Prop where
  ex : ∃ (f : Addr) (fd : FuncData) (ps : List Str) (ds : List Value), FnOk P w K mg base CX0 k f fd ps sp ∧ Mk K C f ∧ Binds K fd ps ds ∧ Vals dvs ds
  mg : mg x = some (.ref C)
section
variable {X : Cx} {e : Expr} {es : List Expr} {t : TA} {x : Str} {k : Nat} {sp : Sp} {C : Addr} {dvs : List V} {p pos : Pos}
def tNCalD (C : Addr) (sp : Sp) (dvs : List V) (t : TA) : TE := fun σ H Q => t σ H fun vs H1 => ∀ x dx, H1 x = none → H1 dx = none → dx ≠ x → sp (.ref x :: (vs ++ dvs)) (upd (upd H1 dx (.own x)) x (.ins C dx [])) (fun v H2 => v = .non ∧ Q (.ref x) H2) E0
theorem pe_ncalD (c : NCalD X.prog X.w X.K X.mg X.base C x k sp dvs) (hr : Room (k + 1) X.A) (ha : PA X (e :: es) t) (hg : Gl X x := by rfl) (hdb : (x == ("__debug__" : Str)) = false := by decide)
    (he : starEach (e :: es) X.env = (false, eval e X.env) :: starEach es X.env := by rfl) (hpl : (backTo pos (starEach es X.env)).any (·.1) = false := by rfl) :
    PE X (.Call (.Name x p) (e :: es) [] pos) (tNCalD C sp dvs t) := by
  obtain ⟨f, fd, ps, ds, F, M, hb, hd⟩ := c.ex
  exact (pe_make M F hr hg c.mg hb hd pass0 ha hdb he hpl).to fun σ H Q q => q
end
end L2
namespace Hue
open PySem PySem.Spec PyProof.Rows L2
section
variable {P : Program} {w : World} {K : PySem.W.Frag} {mg : Str → Option Value} {base : Heap} {C : Addr}
/-- a list of pairs as plain data -/
def prs (ps : List (Nat × Nat)) : PyData := .list (ps.map fun p => .tuple [.int p.1, .int p.2])
theorem prs_all {H : Hp} : ∀ (ts : List Addr) (ps : List (Nat × Nat)), Pairs H ts ps → DpAll K H (ts.map V.ref) (ps.map fun p => PyData.tuple [.int p.1, .int p.2])
  | [], [], _ => .nil
  | [], _ :: _, h => nomatch h.1
  | _ :: _, [], h => nomatch h.1
  | t :: ts, p :: ps, h => .cons (.tup (SqT.of (h.2 0 t p rfl rfl)) (.cons (.int _) (.cons (.int _) .nil))) (prs_all ts ps ⟨Nat.succ.inj h.1, fun i t p a b => h.2 (i + 1) t p a b⟩)
theorem prs_lay : ∀ ps : List (Nat × Nat), PyData.canLayAll0 (ps.map fun p => PyData.tuple [.int p.1, .int p.2]) = true
  | [] => by simp [PyData.canLayAll0]
  | p :: ps => by simp [PyData.canLayAll0, PyData.canLay0, prs_lay ps]
theorem prs_deep : ∀ ps : List (Nat × Nat), PyData.depthAll (ps.map fun p => PyData.tuple [.int p.1, .int p.2]) ≤ 3
  | [] => by simp [PyData.depthAll]
  | p :: ps => by
    have := prs_deep ps
    simp only [List.map_cons, PyData.depthAll, PyData.depth]
    omega
theorem prs_shaped (ps : List (Nat × Nat)) : SeqAt.shaped (prs ps) = true := by
  have h1 := prs_deep ps
  have h2 : PyData.depth (prs ps) ≤ 64 := by
    simp only [prs, PyData.depth]
    omega
  show (PyData.canLay0 (prs ps) && decide (PyData.depth (prs ps) ≤ 64)) = true
  rw [decide_eq_true h2, Bool.and_true]
  show PyData.canLay0 (.list (ps.map fun p => PyData.tuple [.int p.1, .int p.2])) = true
  simp only [PyData.canLay0]
  exact prs_lay ps
theorem prs_eqv (ps : List (Nat × Nat)) : PyData.eqv (prs ps) (prs []) = decide (ps = []) := by
  cases ps <;> simp [prs, PyData.eqv, PyData.eqvAll]
/-- the making of a house by a list or a tuple that is not the box -/
theorem made {b a : Addr} {n h : Nat} {line : List Nat} {ts : List Addr} {ps : List (Nat × Nat)} {S : List Int} {H H1 : Hp} {Q : VK} (b1 : Box H1 b) (s1 : SB b H H1) (pok : PlanOk n h line ps S) (sa : SqA K (hide H1 b) a (ts.map V.ref)) (hps : Pairs (hide H1 b) ts ps)
    (q : ∀ (x : Addr) (H0 H' : Hp), H0 b = Option.none → Same H0 H' → HouseAt C H0 x n h (relOf ps) → SB b H H' → Box H' b → Q (.ref x) H') (x dx : Addr) (nx : H1 x = Option.none) (ndx : H1 dx = Option.none) (nex : dx ≠ x) :
    Off (spInit K C) [.ref x, .int n, .int h, .ref a] (upd (upd H1 dx (.own x)) x (.ins C dx [])) (fun v H2 => v = .non ∧ Q (.ref x) H2) E0 := by
  have nxb := b1.new nx
  have ndb := b1.new ndx
  obtain ⟨i0, i1, i2, i3, cs, hbx, r1, r2, r3⟩ := b1
  have s12 : Same H1 (upd (upd H1 dx (.own x)) x (.ins C dx [])) := fun c o e => by
    rw [upd_ne (ne_of_none e nx), upd_ne (ne_of_none e ndx)]; exact e
  have hx2 : (upd (upd H1 dx (.own x)) x (.ins C dx [])) x = some (.ins C dx []) := upd_same
  generalize upd (upd H1 dx (.own x)) x (.ins C dx []) = H2 at s12 hx2 ⊢
  have sh : Same (hide H1 b) (hide H2 b) := fun c o e => by
    obtain ⟨ne, e2⟩ := hide_some e
    rw [hide_ne ne]
    exact s12 _ _ e2
  obtain ⟨ρ, hρ⟩ := pok.rank
  refine ⟨b, bxV i0 i1 i2 i3 cs, s12 _ _ hbx, x, dx, a, n, h, ps, rfl, by rw [hide_ne nxb]; exact hx2, pok.n1, pok.n16, pok.h2, pok.h10, ⟨⟨ts, sa.same sh, hps.same sh⟩, pok.nd, Nat.lt_of_lt_of_le pok.few (by decide), pok.lt, ρ, hρ⟩, fun H3 sb3 house nb3 => ⟨rfl, ?_⟩⟩
  refine q x H3 _ nb3 (same_new nb3) house (fun c o nc e => ?_) ⟨i0, i1, i2, i3, cs, upd_same, r1, r2, r3⟩
  have e1 := s1 _ _ nc e
  rw [upd_ne nc]
  exact sb3 _ _ (ne_of_none e1 nx) (by rw [hide_ne nc]; exact s12 _ _ e1)
abbrev s__law_house : Stmt := top 39
theorem sc__law_house : FnScope ["box", "count", "hues", "wires"] ["box", "count", "hues", "wires"] (defScope s__law_house) := ⟨rfl, rfl, rfl, by decide +kernel, rfl, by decide +kernel, by decide +kernel⟩
-- slots of _law_house: 0 box, 1 count, 2 hues, 3 wires
theorem ok__law_house (T : Txt K mg C) {f : Addr} {fd : FuncData} {T0 : Addr} (hT0 : ∀ H : Hp, SqT K H T0 []) (F : Fun K "_law_house" "_law_house" s__law_house f fd) (c__law_take : Cal P w K mg base "_law_take" 2 spTake) (c_House : NCal P w K mg base C "House" 5 (Off (spInit K C))) (c_House0 : NCalD P w K mg base C "House" 5 (Off (spInit K C)) [.ref T0]) :
    FnOk P w K mg base CX0 7 f fd ["box", "count", "hues", "wires"] (spHouse C) := by
  refine F.ok sc__law_house (fun vs H Q E h => ?_) (fun cdv A outer s H vs Q E hr h => ?_)
  · obtain ⟨b, wz, n, h, line, ts, ps, S, rfl, _⟩ := h; rfl
  · obtain ⟨b, wz, n, h, line, ts, ps, S, rfl, hb, pok, nwz, hw, hps, q⟩ := h
    refine ⟨_, (pss_cons (ps_if (pt_cmpR (hu_eqD K hr.units) (pv 3) (pe_lst pa_nil) (nomark _))
      (pss_one (ps_ret (pe_ncalD c_House0 (hr.mono (by decide)) (pa_cons (pv 1) (pa_cons (pv 2) pa_nil))))) pss_nil)
      (pss_cons (ps_if (pt_cmpR op_eq (pe_cal c__law_take (hr.mono (by decide)) (pa_cons (pv 0) (pa_cons pe_int pa_nil))) pe_int (nomark _))
      (pss_one (ps_ret (pe_ncal c_House (hr.mono (by decide)) (pa_cons (pv 1) (pa_cons (pv 2) (pa_cons (pe_callTy (tupOf_ K) (by rfl) T.tuple b_tuple (pa_cons (pv 3) pa_nil)) pa_nil)))))) pss_nil)
      (pss_one (ps_ret (pe_ncal c_House (hr.mono (by decide)) (pa_cons (pv 1) (pa_cons (pv 2) (pa_cons (pe_callTy (lstOf_ K) (by rfl) T.list b_list (pa_cons (pv 3) pa_nil)) pa_nil)))))))), ?_⟩
    refine ⟨_, rfl, by decide, fun e ne => ?_⟩
    have s1 : Same H (upd H e (.lst [])) := same_new ne
    have he : (upd H e (.lst [])) e = some (.lst (([] : List Addr).map V.ref)) := upd_same
    generalize upd H e (.lst []) = H1 at s1 he ⊢
    have b1 := hb.same s1
    have hps1 := hps.same s1
    have hw1 := s1 _ _ hw
    refine ⟨prs ps, prs [], .lst (SqL.of hw1) (prs_all ts ps hps1), .lst (SqL.of he) .nil, prs_shaped _, prs_shaped _, _, rfl, ?_⟩
    rw [prs_eqv]
    have hid : ∀ {G : Hp}, Box G b → Pairs G ts ps → Pairs (hide G b) ts ps := fun {G} bg hp => ⟨hp.1, fun i t p a c => by
      rw [hide_ne (bg.neT (hp.2 i t p a c))]
      exact hp.2 i t p a c⟩
    refine ite2 (fun hemp => ?_) (fun _ => ?_)
    · have ep : ps = [] := of_decide_eq_true hemp
      have et : ts = [] := List.eq_nil_of_length_eq_zero (by rw [hps.1, ep]; rfl)
      subst et
      exact ⟨_, rfl, _, rfl, made b1 (SB.of s1) pok (.inr (hT0 _)) (hid b1 hps1) q⟩
    · refine ⟨_, rfl, b, 2, rfl, by decide, by decide, b1, fun d H2 _ s2 b2 => ⟨rfl, _, rfl, ?_⟩⟩
      obtain ⟨xs, hbx⟩ := b1.at
      have hps2 := hps1.sb hbx s2
      have hw2 := s2 _ _ nwz hw1
      have s02 := (SB.of (x := b) s1).trans s2
      refine ite2 (fun _ => ?_) (fun _ => ?_)
      · refine ⟨_, rfl, _, rfl, _, rfl, wz, _, rfl, .inl ⟨SqL.of hw2, fun t nt => ?_⟩⟩
        have s3 : Same H2 (upd H2 t (.tup (ts.map V.ref))) := same_new nt
        have ht : (upd H2 t (.tup (ts.map V.ref))) t = some (.tup (ts.map V.ref)) := upd_same
        have ntb := b2.new nt
        generalize upd H2 t (.tup (ts.map V.ref)) = H3 at s3 ht ⊢
        have b3 := b2.same s3
        exact made b3 (s02.trans (SB.of s3)) pok (.inr (SqT.of (by rw [hide_ne ntb]; exact ht))) (hid b3 (hps2.same s3)) q
      · refine ⟨_, rfl, _, rfl, _, rfl, wz, _, rfl, .inl (SqL.of hw2), fun t nt => ?_⟩
        have s3 : Same H2 (upd H2 t (.lst (ts.map V.ref))) := same_new nt
        have ht : (upd H2 t (.lst (ts.map V.ref))) t = some (.lst (ts.map V.ref)) := upd_same
        have ntb := b2.new nt
        generalize upd H2 t (.lst (ts.map V.ref)) = H3 at s3 ht ⊢
        have b3 := b2.same s3
        exact made b3 (s02.trans (SB.of s3)) pok (.inl (SqL.of (by rw [hide_ne ntb]; exact ht))) (hid b3 (hps2.same s3)) q
end
end Hue

end
section
set_option maxRecDepth 100000
set_option maxHeartbeats 4000000
namespace Hue
open PySem PySem.Spec PyProof.Rows L2
section
variable {P : Program} {w : World} {K : PySem.W.Frag} {mg : Str → Option Value} {base : Heap} {C : Addr}
/-! ### a move and the one that takes it back -/
theorem step_back {n h : Nat} {R : Rel} (h2 : 2 ≤ h) (irr : Irr R) {k : Nat} {careful up : Bool} {S : List Int} (okS : StOk n h S) (hk : k < n) (m : mayB n h R S k careful up = true) :
    mayB n h R (stepL n h R S k up) k careful (!up) = true ∧ S = stepL n h R (stepL n h R S k up) k (!up) := by
  obtain ⟨m1, m2⟩ := may_iff.mp m
  have okT := step_ok h2 okS hk m
  have bk := okS.at hk
  refine ⟨may_iff.mpr ⟨?_, fun c j hj r => ?_⟩, ?_⟩
  · rw [step_k hk]
    unfold lastI at m1 ⊢
    unfold shI
    cases up <;> simp only [if_true, Bool.false_eq_true, if_false, Bool.not_true, Bool.not_false] at m1 ⊢ <;> omega
  · have nj : j ≠ k := fun z => by rw [z, irr k] at r; cases r
    rw [step_b hj nj r, m2 c j hj r]
    unfold lastI shI
    cases up with
    | true =>
      simp only [if_true, Bool.not_true, Bool.false_eq_true, if_false]
      rw [show (h : Int) - 1 + 1 = h by omega, Int.emod_self]
    | false =>
      simp only [if_true, Bool.not_false, Bool.false_eq_true, if_false]
      rw [show (0 : Int) + -1 = ((h : Int) - 1) + (h : Int) * (-1) by omega, Int.add_mul_emod_self_left, emod_small (by omega) (by omega)]
  · refine st_eq okS.1 (stepL_len ..) fun j hj => ?_
    rcases Nat.decEq j k with nj | e
    · rcases Classical.em (R k j = true) with r | r
      · rw [step_b hj nj r, step_b hj nj r]
        have bj := okS.at hj
        unfold shI
        cases up with
        | true => simp only [if_true, Bool.not_true, Bool.false_eq_true, if_false]; exact (up_down (by omega) bj).symm
        | false => simp only [if_true, Bool.not_false, Bool.false_eq_true, if_false]; exact (down_up (by omega) bj).symm
      · rw [step_o hj nj r, step_o hj nj r]
    · rw [e, step_k hk, step_k hk]
      unfold shI
      cases up <;> simp only [if_true, Bool.false_eq_true, if_false, Bool.not_true, Bool.not_false] <;> omega
/-- the program's word for an allowed move is the same -/
theorem can_may {n h : Nat} {R : Rel} {S : List Int} {k : Nat} {c : Bool} (ok : StOk n h S) (hk : k < n) : canB n R S k c = true ↔ mayB n h R S k c false = true := by
  rw [canB_iff, may_iff, ← lit_none, List.filter_eq_nil_iff]
  have bk := ok.at hk
  have l0 : lastI h false = 0 := rfl
  rw [l0]
  constructor
  · rintro ⟨a, b⟩
    refine ⟨by omega, fun hc j hj r => ?_⟩
    have z := b hc j (mem_Bel.mpr ⟨hj, r⟩)
    have bj := ok.at hj
    have z2 : ¬ at_ S j > 0 := fun y => z (decide_eq_true y)
    omega
  · rintro ⟨a, b⟩
    refine ⟨by omega, fun hc j hj z => ?_⟩
    obtain ⟨jn, r⟩ := mem_Bel.mp hj
    have e := b hc j jn r
    have z2 : at_ S j > 0 := of_decide_eq_true z
    omega
/-- the states from which a move at k leads to S -/
theorem pred_iff {n h : Nat} {R : Rel} (h2 : 2 ≤ h) (irr : Irr R) {k : Nat} {c : Bool} {S U : List Int} (okS : StOk n h S) (okU : StOk n h U) (hk : k < n) :
    (canB n R U k c = true ∧ stepL n h R U k false = S) ↔ (mayB n h R S k c true = true ∧ U = stepL n h R S k true) := by
  rw [can_may okU hk]
  constructor
  · rintro ⟨a, rfl⟩
    exact step_back h2 irr okU hk a
  · rintro ⟨a, rfl⟩
    obtain ⟨b, e⟩ := step_back h2 irr okS hk a
    exact ⟨b, e.symm⟩
/-! ### tuples of states -/
def Tups (H : Hp) (ts : List Addr) (Ss : List (List Int)) : Prop := ts.length = Ss.length ∧ ∀ (i : Nat) t S, ts[i]? = some t → Ss[i]? = some S → H t = some (.tup (stV S))
theorem Tups.same {H H' : Hp} {ts : List Addr} {Ss : List (List Int)} (h : Tups H ts Ss) (s : Same H H') : Tups H' ts Ss := ⟨h.1, fun i t S a b => s _ _ (h.2 i t S a b)⟩
theorem Tups.sb {H H' : Hp} {p : Addr} {xs : List V} {ts : List Addr} {Ss : List (List Int)} (h : Tups H ts Ss) (hp : H p = some (.lst xs)) (s : SB p H H') : Tups H' ts Ss :=
  ⟨h.1, fun i t S a b => s _ _ (ne_of (h.2 i t S a b) hp (by intro z; cases z)) (h.2 i t S a b)⟩
theorem Tups.upd {H : Hp} {p : Addr} {xs : List V} {o : HO} {ts : List Addr} {Ss : List (List Int)} (h : Tups H ts Ss) (hp : H p = some (.lst xs)) : Tups (upd H p o) ts Ss := h.sb hp (SB.upd (SB.refl p H))
theorem Tups.nil (H : Hp) : Tups H [] [] := ⟨rfl, fun i t S a _ => by simp at a⟩
theorem Tups.add {H : Hp} {ts : List Addr} {Ss : List (List Int)} {t : Addr} {S : List Int} (h : Tups H ts Ss) (ht : H t = some (.tup (stV S))) : Tups H (ts ++ [t]) (Ss ++ [S]) := by
  refine ⟨by rw [List.length_append, List.length_append, h.1]; rfl, fun i u U a b => ?_⟩
  rcases Nat.lt_or_ge i ts.length with lt | ge
  · rw [List.getElem?_append_left lt] at a
    rw [List.getElem?_append_left (by rw [← h.1]; exact lt)] at b
    exact h.2 i u U a b
  · rw [List.getElem?_append_right ge] at a
    rw [List.getElem?_append_right (by rw [← h.1]; exact ge), ← h.1] at b
    have z : i - ts.length = 0 := by
      rcases Nat.eq_zero_or_pos (i - ts.length) with z | z
      · exact z
      · rw [List.getElem?_eq_none (by rw [List.length_singleton]; exact z)] at a; cases a
    rw [z] at a b
    cases a
    cases b
    exact ht
theorem Tups.get {H : Hp} {ts : List Addr} {Ss : List (List Int)} (h : Tups H ts Ss) {i : Nat} {y : V} (e : (ts.map V.ref)[i]? = some y) : ∃ t S, ts[i]? = some t ∧ y = V.ref t ∧ Ss[i]? = some S ∧ H t = some (.tup (stV S)) := by
  rw [List.getElem?_map] at e
  obtain ⟨t, ht, rfl⟩ := Option.map_eq_some_iff.mp e
  have il : i < Ss.length := by rw [← h.1]; exact (List.getElem?_eq_some_iff.mp ht).1
  exact ⟨t, Ss[i], ht, rfl, List.getElem?_eq_getElem il, h.2 i t _ ht (List.getElem?_eq_getElem il)⟩
theorem Tups.pick {H : Hp} {ts : List Addr} {Ss : List (List Int)} (h : Tups H ts Ss) {i : Nat} {S : List Int} (e : Ss[i]? = some S) : ∃ t, ts[i]? = some t ∧ (ts.map V.ref)[i]? = some (V.ref t) ∧ H t = some (.tup (stV S)) := by
  have il : i < ts.length := by rw [h.1]; exact (List.getElem?_eq_some_iff.mp e).1
  exact ⟨ts[i], List.getElem?_eq_getElem il, by rw [List.getElem?_map, List.getElem?_eq_getElem il]; rfl, h.2 i _ _ (List.getElem?_eq_getElem il) e⟩
/-! ### what is wrong with a move -/
abbrev s__law_wrong : Stmt := top 46
theorem sc__law_wrong : FnScope ["below", "state", "lamp", "gentle", "lit", "other"] ["below", "state", "lamp", "gentle"] (defScope s__law_wrong) := ⟨rfl, rfl, rfl, by decide +kernel, rfl, by decide +kernel, by decide +kernel⟩
-- slots of _law_wrong: 0 below, 1 state, 2 lamp, 3 gentle, 4 lit, 5 other
def spWrong : Sp := fun vs H Q _ => ∃ (lz a : Addr) (n k : Nat) (R : Rel) (S : List Int) (c : Bool), vs = [.ref lz, .ref a, .int k, .bl c] ∧ n ≤ 16 ∧ k < n ∧ Rows H lz (relRows n R) ∧ H a = some (.tup (stV S)) ∧ (∀ j, j < n → 0 ≤ at_ S j) ∧ S.length = n ∧
  ∀ (t : Addr) (ws : List Int) (H' : Hp), Same H H' → H' t = some (.tup (stV ws)) → (ws = [] ↔ canB n R S k c = true) → Q (.ref t) H'
theorem ok__law_wrong (T : Txt K mg C) {f : Addr} {fd : FuncData} (F : Fun K "_law_wrong" "_law_wrong" s__law_wrong f fd) : FnOk P w K mg base CX0 1 f fd ["below", "state", "lamp", "gentle"] spWrong := by
  refine F.ok sc__law_wrong (fun vs H Q E h => ?_) (fun cdv A outer s H vs Q E hr h => ?_)
  · obtain ⟨lz, a, n, k, R, S, c, rfl, _⟩ := h; rfl
  · obtain ⟨lz, a, n, k, R, S, c, rfl, n16, hk, rows, ha, pos, hS, q⟩ := h
    refine ⟨_, (pss_cons (ps_if (pt_cmpR op_eq (pe_ix (ixT_ K) (pv 1) (pv 2) (fun _ _ => rfl)) pe_int (nomark _))
      (pss_one (ps_ret (pe_tup (pa_cons pe_int (pa_cons (pv 2) pa_nil))))) pss_nil)
      (pss_cons (ps_setLc (i := 4) (own := [("other", 5)]) (g := gName 5) rfl sc__law_wrong.nd rfl rfl (sw_true rfl rfl rfl (by kernel_rfl)) (pil_ K (pe_ix (ixL_ K) (pv 0) (pv 2) (fun _ _ => rfl))) (blkOk_by (by kernel_rfl)) (fun _ _ _ _ _ => (pg_name (i := 5) sc__law_wrong.nd rfl (by first | exact Or.inl rfl | exact Or.inr rfl))) (fun _ _ _ _ _ => (pts_one (pt_cmpR op_gt (pe_ix (ixT_ K) (pv 1) (pv 5) (fun _ _ => rfl)) pe_int (nomark _)))) (fun _ _ _ _ _ => (pv 5)))
      (pss_cons (ps_if (PW.pt (pw_and (truth_ K (pv 3)) (pw_and1 (pt_cmpR (hu_neD K hr.units) (pv 4) (pe_lst pa_nil) (nomark _)))))
      (pss_one (ps_ret (pe_tup (pa_cons pe_int (pa_cons (pv 2) (pa_cons (pe_ix (ixL_ K) (pv 4) pe_int (fun _ _ => rfl)) pa_nil)))))) pss_nil)
      (pss_one (ps_ret (pe_tup pa_nil)))))), ?_⟩
    have kS := stV_get (S := S) (k := k) (by rw [hS]; exact hk)
    have pk := pos k hk
    refine ⟨_, rfl, _, rfl, a, _, _, _, rfl, rfl, SqT.of ha, atI_nat kS, rfl, _, rfl, ?_⟩
    refine ite2 (fun hz => ?_) (fun hnz => ?_)
    · have e : at_ S k = 0 := by
        have z := of_decide_eq_true hz
        injection z
      refine ⟨_, rfl, by show 2 ≤ sizeLine; decide, fun t nt => q t [1, (k : Int)] _ (same_new nt) upd_same ?_⟩
      refine ⟨fun z => (by cases z), fun z => ?_⟩
      have := (canB_iff.mp z).1
      omega
    have nz : at_ S k ≠ 0 := fun z => hnz (decide_eq_true (by rw [z]))
    obtain ⟨xs, al, hb, _, hal, hL⟩ := rows.at (relRows_at (R := R) hk)
    refine ⟨_, rfl, _, rfl, lz, xs, _, _, rfl, rfl, SqL.of hb, atI_nat hal, al, rfl, ⟨_, SqL.of hL⟩, fun D hD => ?_⟩
    refine lc_list (xs := nL (Bel n R k)) (fun j H3 => H3 D = some (.lst (nL (((Bel n R k).take j).filter fun j => decide (at_ S j > 0)))) ∧ Same H H3) ⟨upd_same, same_new hD⟩ (fun j H3 _ ⟨_, s⟩ => SqL.of (s _ _ hL)) ?_ ?_
    · rintro j x H3 hx ⟨h3, s3⟩
      obtain ⟨m, hm, rfl⟩ := nL_item hx
      have mn : m < n := (mem_Bel.mp (List.mem_of_getElem? hm)).1
      have kM := stV_get (S := S) (k := m) (by rw [hS]; exact mn)
      have fewB := Bel_len n R k
      have few3 : (((Bel n R k).take j).filter fun j => decide (at_ S j > 0)).length ≤ n := by
        have z := List.length_filter_le (fun j => decide (at_ S j > 0)) ((Bel n R k).take j)
        rw [List.length_take] at z
        omega
      refine ⟨rfl, _, rfl, _, rfl, a, _, _, _, rfl, rfl, SqT.of (s3 _ _ ha), atI_nat kM, _, _, rfl, rfl, _, rfl, ?_⟩
      refine ite2 (fun hx' => ?_) (fun hx' => ?_)
      · refine ⟨_, rfl, _, h3, by rw [nL_len, sizeLine_eq]; omega, ?_, same_upd s3 hD⟩
        rw [upd_same, take_filter _ hm, if_pos hx', nL_app]; rfl
      · refine ⟨?_, s3⟩
        rw [h3, take_filter _ hm, if_neg hx', List.append_nil]
    rintro H3 ⟨h3, s3⟩
    rw [nL_len, List.take_length] at h3
    have okEnd : ∀ H4, Same H H4 → (c = true → ((Bel n R k).filter fun j => decide (at_ S j > 0)) = []) → ∀ t, H4 t = Option.none → Q (.ref t) (upd H4 t (.tup [])) := fun H4 s4 hc t nt =>
      q t [] _ (s4.trans (same_new nt)) upd_same ⟨fun _ => canB_iff.mpr ⟨by omega, fun z => lit_none.mp (hc z)⟩, fun _ => rfl⟩
    refine ⟨_, rfl, c, rfl, ?_⟩
    refine ite2 (fun hc => ?_) (fun hc => ?_)
    · refine ⟨_, rfl, by decide, fun e ne => ?_⟩
      have s4 : Same H3 (upd H3 e (.lst [])) := same_new ne
      have he : (upd H3 e (.lst [])) e = some (.lst (nL [])) := upd_same
      have hD4 := s4 _ _ h3
      generalize upd H3 e (.lst []) = H4 at s4 he hD4 ⊢
      have s04 := s3.trans s4
      refine ⟨liD _, liD [], li_dp hD4, li_dp he, li_shaped _, li_shaped _, _, rfl, ?_⟩
      rw [li_eqv]
      refine ite2 (fun hne => ?_) (fun hem => ?_)
      · have ne2 : ((Bel n R k).filter fun j => decide (at_ S j > 0)) ≠ [] := fun z => by rw [decide_eq_true z] at hne; cases hne
        obtain ⟨m, l, el⟩ := List.exists_cons_of_ne_nil ne2
        have at0 : (nL ((Bel n R k).filter fun j => decide (at_ S j > 0)))[0]? = some (V.int (m : Int)) := by rw [el]; rfl
        refine ⟨_, rfl, _, rfl, D, _, _, _, rfl, rfl, SqL.of hD4, atI_nat (j := 0) at0, by show 3 ≤ sizeLine; decide, fun t nt => q t [2, (k : Int), (m : Int)] _ (s04.trans (same_new nt)) upd_same ?_⟩
        refine ⟨fun z => (by cases z), fun z => absurd ?_ ne2⟩
        exact lit_none.mpr ((canB_iff.mp z).2 hc)
      · refine ⟨by decide, fun t nt => okEnd H4 s04 (fun _ => ?_) t nt⟩
        refine Classical.byContradiction fun z => hem ?_
        rw [decide_eq_false z]; rfl
    · exact ⟨by decide, fun t nt => okEnd H3 s3 (fun z => absurd z hc) t nt⟩
/-! ### the state before a move, as the law makes it -/
abbrev s__law_back : Stmt := top 49
theorem sc__law_back : FnScope ["hues", "below", "state", "lamp", "gentle", "found", "other"] ["hues", "below", "state", "lamp", "gentle"] (defScope s__law_back) := ⟨rfl, rfl, rfl, by decide +kernel, rfl, by decide +kernel, by decide +kernel⟩
-- slots of _law_back: 0 hues, 1 below, 2 state, 3 lamp, 4 gentle, 5 found, 6 other
def spBack : Sp := fun vs H Q _ => ∃ (lz a : Addr) (n h k : Nat) (R : Rel) (S : List Int) (c : Bool), vs = [.int h, .ref lz, .ref a, .int k, .bl c] ∧ n ≤ 16 ∧ 2 ≤ h ∧ k < n ∧ Irr R ∧ Rows H lz (relRows n R) ∧ H a = some (.tup (stV S)) ∧ StOk n h S ∧
  ∀ (v : V) (H' : Hp), Same H H' → OptAt H' v (upO n h R S k c) → Q v H'
theorem ok__law_back (T : Txt K mg C) {f : Addr} {fd : FuncData} (F : Fun K "_law_back" "_law_back" s__law_back f fd) : FnOk P w K mg base CX0 1 f fd ["hues", "below", "state", "lamp", "gentle"] spBack := by
  refine F.ok sc__law_back (fun vs H Q E h => ?_) (fun cdv A outer s H vs Q E hr h => ?_)
  · obtain ⟨lz, a, n, h, k, R, S, c, rfl, _⟩ := h; rfl
  · obtain ⟨lz, a, n, h, k, R, S, c, rfl, n16, h2, hk, irr, rows, ha, okS, q⟩ := h
    have hS := okS.1
    refine ⟨_, (pss_cons (ps_if (pt_cmpR op_eq (pe_ix (ixT_ K) (pv 2) (pv 3) (fun _ _ => rfl)) (pe_op op_sub (pv 0) pe_int) (nomark _))
      (pss_one (ps_ret pe_non)) pss_nil)
      (pss_cons (ps_set (i := 5) sc__law_back.nd rfl (by first | exact Or.inl rfl | exact Or.inr rfl) (pe_callTy (lstOf_ K) (by rfl) T.list b_list (pa_cons (pv 2) pa_nil)))
      (pss_cons (ps_asg (pe_op op_add (pe_ix (ixL_ K) (pv 5) (pv 3) (fun _ _ => rfl)) pe_int) (pg_sub (pv 5) (pv 3) set_list))
      (pss_cons (ps_for PassesOwn.never rfl (pil_ K (pe_ix (ixL_ K) (pv 1) (pv 3) (fun _ _ => rfl))) (pg_name (i := 6) sc__law_back.nd rfl (by first | exact Or.inl rfl | exact Or.inr rfl))
      (C8.pss_cut (ps_if (PW.pt (pw_and (truth_ K (pv 4)) (pw_and1 (pt_cmpR op_lt (pe_ix (ixT_ K) (pv 2) (pv 6) (fun _ _ => rfl)) (pe_op op_sub (pv 0) pe_int) (nomark _)))))
      (pss_one (ps_ret pe_non)) pss_nil)
      (pss_cons (ps_asg (pe_op op_add (pe_ix (ixL_ K) (pv 5) (pv 6) (fun _ _ => rfl)) pe_int) (pg_sub (pv 5) (pv 6) set_list))
      (pss_one (ps_if (pt_cmpR op_eq (pe_ix (ixL_ K) (pv 5) (pv 6) (fun _ _ => rfl)) (pv 0) (nomark _))
      (pss_one (ps_asg pe_int (pg_sub (pv 5) (pv 6) set_list))) pss_nil)))))
      (pss_one (ps_ret (pe_callTy (tupOf_ K) (by rfl) T.tuple b_tuple (pa_cons (pv 5) pa_nil)))))))), ?_⟩
    have kS := stV_get (S := S) (k := k) (by rw [hS]; exact hk)
    have none_ : ∀ H', Same H H' → ¬ mayB n h R S k c true = true → Q .non H' := fun H' s' nm => q .non H' s' (by rw [upO_none nm]; exact rfl)
    refine ⟨_, rfl, _, rfl, a, _, _, _, rfl, rfl, SqT.of ha, atI_nat kS, _, rfl, _, _, rfl, rfl, rfl, _, rfl, ?_⟩
    refine ite2 (fun heq => ?_) (fun hne => ?_)
    · have e : at_ S k = (h : Int) - 1 := by
        have z := of_decide_eq_true heq
        injection z
      exact none_ H (Same.refl H) fun m => (may_iff.mp m).1 e
    have ne : at_ S k ≠ (h : Int) - 1 := fun z => hne (decide_eq_true (by rw [z]))
    refine ⟨_, rfl, a, _, rfl, .inr (SqT.of ha), fun fr nf => ?_⟩
    have s1 : Same H (upd H fr (.lst (stV S))) := same_new nf
    have hf1 : (upd H fr (.lst (stV S))) fr = some (.lst (stV S)) := upd_same
    generalize upd H fr (.lst (stV S)) = H3 at s1 hf1 ⊢
    refine ⟨_, rfl, _, rfl, fr, _, _, _, rfl, rfl, SqL.of hf1, atI_nat kS, _, _, rfl, rfl, _, rfl, _, rfl, set_at hf1 (ixN_nat (by rw [List.length_map, hS]; exact hk)) fun H4 s4 h4 => ?_⟩
    have h4 : H4 fr = some (.lst ((stV S).set k (V.int (at_ S k + shI true)))) := h4
    rw [stV_set] at h4
    have s24 : Same H H4 := s4.to_same s1 nf
    obtain ⟨xs, al, hb, _, hal, hL⟩ := rows.at (relRows_at (R := R) hk)
    refine ⟨_, rfl, _, rfl, lz, xs, _, _, rfl, rfl, SqL.of (s24 _ _ hb), atI_nat hal, al, rfl, ⟨_, SqL.of (s24 _ _ hL)⟩, ?_⟩
    have bnd : (Bel n R k).Nodup := by
      unfold Bel
      exact List.Pairwise.filter _ List.nodup_range
    refine for_list (K := K) (a := al) (xs := nL (Bel n R k)) (fun i σ H5 => ∃ (v : Option V) (L : List Int), σ = [some (.int h), some (.ref lz), some (.ref a), some (.int k), some (.bl c), some (.ref fr), v] ∧ Same H H5 ∧ H5 fr = some (.lst (stV L)) ∧ L.length = n ∧
        (c = true → ∀ j ∈ (Bel n R k).take i, at_ S j = (h : Int) - 1) ∧ ∀ j, j < n → at_ L j = if j = k then at_ S k + shI true else if j ∈ (Bel n R k).take i then (at_ S j + shI true) % (h : Int) else at_ S j)
      ⟨_, _, rfl, s24, h4, by rw [List.length_set]; exact hS, fun _ j hj => by simp at hj, fun j hj => ?_⟩ (fun i σ H5 _ ⟨_, _, _, s, _⟩ => SqL.of (s _ _ hL)) ?_ ?_
    · rw [at_set (by omega)]
      by_cases e : k = j
      · rw [if_pos e, if_pos e.symm]
      · rw [if_neg e, if_neg (fun z => e z.symm), if_neg (by simp)]
    · rintro i y σ H5 hy ⟨v, L, rfl, s5, h5, lL, calm, val⟩
      obtain ⟨j, hj, rfl⟩ := nL_item hy
      obtain ⟨jn, rj⟩ := mem_Bel.mp (List.mem_of_getElem? hj)
      have jL := stV_get (S := L) (k := j) (by rw [lL]; exact jn)
      have jS := stV_get (S := S) (k := j) (by rw [hS]; exact jn)
      have nj : j ≠ k := fun z => by rw [z, irr k] at rj; cases rj
      have njt : j ∉ (Bel n R k).take i := fun z => by
        obtain ⟨m, hm, em⟩ := List.getElem_of_mem z
        rw [List.length_take] at hm
        rw [List.getElem_take] at em
        have := nodup_at' bnd (show (Bel n R k)[m]? = some j by rw [List.getElem?_eq_getElem (by omega), em]) hj
        omega
      have vj := val j jn
      rw [if_neg nj, if_neg njt] at vj
      have bj := okS.at jn
      have tk : (Bel n R k).take (i + 1) = (Bel n R k).take i ++ [j] := by rw [List.take_add_one, hj]; rfl
      -- what comes of it
      have fin : ∀ (H7 : Hp) (z : Int), (c = true → at_ S j = (h : Int) - 1) → z = (at_ S j + shI true) % (h : Int) → Same H H7 → H7 fr = some (.lst (stV (L.set j z))) →
          ∃ (v : Option V) (L : List Int), ([some (.int h), some (.ref lz), some (.ref a), some (.int k), some (.bl c), some (.ref fr), some (.int (j : Int))] : L2.St) = [some (.int h), some (.ref lz), some (.ref a), some (.int k), some (.bl c), some (.ref fr), v] ∧ Same H H7 ∧ H7 fr = some (.lst (stV L)) ∧ L.length = n ∧
          (c = true → ∀ j ∈ (Bel n R k).take (i + 1), at_ S j = (h : Int) - 1) ∧ ∀ m, m < n → at_ L m = if m = k then at_ S k + shI true else if m ∈ (Bel n R k).take (i + 1) then (at_ S m + shI true) % (h : Int) else at_ S m := fun H7 z hcj ez s7 h7 => by
        refine ⟨_, _, rfl, s7, h7, by rw [List.length_set]; exact lL, fun hc m hm => ?_, fun m hm => ?_⟩
        · rw [tk] at hm
          rcases List.mem_append.mp hm with hm | hm
          · exact calm hc m hm
          · rw [List.mem_singleton.mp hm]; exact hcj hc
        rw [at_set (by omega)]
        by_cases e : j = m
        · rw [if_pos e, if_neg (fun z => nj (e.trans z)), if_pos (by rw [tk, ← e]; exact List.mem_append_right _ List.mem_cons_self), ez, e]
        · rw [if_neg e, val m hm, tk]
          have e2 : (m ∈ (Bel n R k).take i ++ [j]) ↔ m ∈ (Bel n R k).take i := by
            rw [List.mem_append]
            exact ⟨fun z => z.elim id fun z => absurd (List.mem_singleton.mp z).symm e, .inl⟩
          simp only [e2]
      refine ⟨fun σ H6 => σ = [some (.int h), some (.ref lz), some (.ref a), some (.int k), some (.bl c), some (.ref fr), some (.int (j : Int))] ∧ H6 = H5 ∧ (c = true → at_ S j = (h : Int) - 1), ⟨_, rfl, c, rfl, ?_⟩, ?_⟩
      · refine ite2 (fun hc => ?_) (fun hc => ⟨rfl, rfl, fun z => absurd z hc⟩)
        refine ⟨_, rfl, _, rfl, a, _, _, _, rfl, rfl, SqT.of (s5 _ _ ha), atI_nat jS, _, rfl, _, _, rfl, rfl, _, _, rfl, rfl, _, rfl, ?_⟩
        refine ite2 (fun hlt => ?_) (fun hge => ?_)
        · refine none_ H5 s5 fun m => ?_
          have z := (may_iff.mp m).2 hc j jn rj
          rw [last_up] at z
          have lt : at_ S j < (h : Int) - 1 := of_decide_eq_true hlt
          omega
        · refine ⟨rfl, rfl, fun _ => ?_⟩
          have nlt : ¬ at_ S j < (h : Int) - 1 := fun z => hge (decide_eq_true z)
          omega
      rintro σ H6 ⟨rfl, rfl, hcj⟩
      refine ⟨_, rfl, _, rfl, fr, _, _, _, rfl, rfl, SqL.of h5, atI_nat jL, _, _, rfl, rfl, _, rfl, _, rfl, set_at h5 (ixN_nat (by rw [List.length_map, lL]; exact jn)) fun H7 s7 h7 => ?_⟩
      have h7 : H7 fr = some (.lst ((stV L).set j (V.int (at_ L j + 1)))) := h7
      rw [stV_set, vj] at h7
      have s07 : Same H H7 := s7.to_same s5 nf
      have jL7 : (stV (L.set j (at_ S j + 1)))[j]? = some (V.int (at_ S j + 1)) := by
        rw [stV_get (by rw [List.length_set, lL]; exact jn), at_set (by rw [lL]; exact jn), if_pos rfl]
      have sh : shI true = 1 := rfl
      refine ⟨_, rfl, _, rfl, fr, _, _, _, rfl, rfl, SqL.of h7, atI_nat jL7, _, rfl, rfl, _, rfl, ?_⟩
      refine ite2 (fun heq => ?_) (fun hne => ?_)
      · have e : at_ S j + 1 = (h : Int) := by
          have z := of_decide_eq_true heq
          injection z
        refine ⟨_, rfl, _, rfl, set_at h7 (ixN_nat (by rw [List.length_map, List.length_set, lL]; exact jn)) fun H8 s8 h8 => ?_⟩
        have h8 : H8 fr = some (.lst ((stV (L.set j (at_ S j + 1))).set j (V.int 0))) := h8
        rw [stV_set, List.set_set] at h8
        refine fin H8 _ hcj ?_ (s8.to_same s07 nf) h8
        rw [sh, e, Int.emod_self]
      · have ne2 : at_ S j + 1 ≠ (h : Int) := fun z => hne (decide_eq_true (by rw [z]))
        refine fin H7 _ hcj ?_ s07 h7
        rw [sh]
        exact (Int.emod_eq_of_lt (by omega) (by omega)).symm
    · rintro σ H5 ⟨v, L, rfl, s5, h5, lL, calm, val⟩
      rw [nL_len, List.take_length] at val calm
      have eL : L = stepL n h R S k true := by
        unfold stepL
        refine st_ext lL fun j hj => ?_
        rw [val j hj]
        have e2 : j ∈ Bel n R k ↔ R k j = true := ⟨fun z => (mem_Bel.mp z).2, fun z => mem_Bel.mpr ⟨hj, z⟩⟩
        simp only [e2]
      rw [eL] at h5
      have may : mayB n h R S k c true = true := may_iff.mpr ⟨ne, fun hc j hj r => calm hc j (mem_Bel.mpr ⟨hj, r⟩)⟩
      exact ⟨_, rfl, fr, _, rfl, .inl ⟨SqL.of h5, fun t2 nt2 => q (.ref t2) _ (s5.trans (same_new nt2)) (by rw [upO_some may]; exact ⟨t2, rfl, upd_same⟩)⟩⟩
abbrev s__law_maybe : Stmt := top 51
theorem sc__law_maybe : FnScope ["told", "due"] ["told", "due"] (defScope s__law_maybe) := ⟨rfl, rfl, rfl, by decide +kernel, rfl, by decide +kernel, by decide +kernel⟩
-- slots of _law_maybe: 0 told, 1 due
def spMaybe : Sp := fun vs H Q _ => ∃ (u v : V) (o : Option (List Int)), vs = [u, v] ∧ (∀ S, o = some S → S.length ≤ 16) ∧ OptAt H u o ∧ OptAt H v o ∧ Q (.bl true) H
theorem ok__law_maybe (T : Txt K mg C) {f : Addr} {fd : FuncData} (F : Fun K "_law_maybe" "_law_maybe" s__law_maybe f fd) (c__law_same : Cal P w K mg base "_law_same" 1 spSame) : FnOk P w K mg base CX0 2 f fd ["told", "due"] spMaybe := by
  refine F.ok sc__law_maybe (fun vs H Q E h => ?_) (fun cdv A outer s H vs Q E hr h => ?_)
  · obtain ⟨u, v, o, rfl, _⟩ := h; rfl
  · obtain ⟨u, v, o, rfl, few, hu, hv, q⟩ := h
    refine ⟨_, (pss_cons (ps_if (pt_cmpR op_isN (pv 1) pe_non (nomark _))
      (pss_one (ps_ret (pe_cmpR op_isN (pv 0) pe_non (nomark _)))) pss_nil)
      (pss_one (ps_ret (pe_cal c__law_same (hr.mono (by decide)) (pa_cons (pv 0) (pa_cons (pv 1) pa_nil)))))), ?_⟩
    cases o with
    | none =>
      cases hu
      cases hv
      exact ⟨_, rfl, rfl, _, rfl, iteT ⟨_, rfl, rfl, q⟩⟩
    | some S =>
      obtain ⟨t, rfl, ht⟩ := hu
      obtain ⟨t', rfl, ht'⟩ := hv
      exact ⟨_, rfl, rfl, _, rfl, iteF ⟨_, rfl, _, rfl, t, t', S, rfl, few S rfl, ht, ht', q⟩⟩
end
end Hue

end
section
set_option maxRecDepth 100000
set_option maxHeartbeats 4000000
namespace Hue
open PySem PySem.Spec PyProof.Rows L2
section
variable {P : Program} {w : World} {K : PySem.W.Frag} {mg : Str → Option Value} {base : Heap} {C : Addr}
theorem Box.off {H H' : Hp} {b p : Addr} (hb : Box H b) (ne : b ≠ p) (s : SB p H H') : Box H' b := by
  obtain ⟨i0, i1, i2, i3, cs, e, r⟩ := hb
  exact ⟨i0, i1, i2, i3, cs, s _ _ ne e, r⟩
theorem StOk.set {n h : Nat} {L : List Int} {j : Nat} {z : Int} (ok : StOk n h L) (z0 : 0 ≤ z) (z1 : z < (h : Int)) : StOk n h (L.set j z) := by
  refine ⟨by rw [List.length_set]; exact ok.1, fun y hy => ?_⟩
  rcases List.mem_or_eq_of_mem_set hy with hy | hy
  · exact ok.2 y hy
  · rw [hy]; exact ⟨z0, z1⟩
/-! ### a state that a move may have led to -/
abbrev s__law_ready : Stmt := top 47
theorem sc__law_ready : FnScope ["box", "hues", "below", "state", "lamp", "found", "other"] ["box", "hues", "below", "state"] (defScope s__law_ready) := ⟨rfl, rfl, rfl, by decide +kernel, rfl, by decide +kernel, by decide +kernel⟩
-- slots of _law_ready: 0 box, 1 hues, 2 below, 3 state, 4 lamp, 5 found, 6 other
def spReady (C : Addr) : Sp := fun vs H Q _ => ∃ (b x lz a : Addr) (n h : Nat) (R : Rel) (S : List Int), vs = [.ref b, .int h, .ref lz, .ref a] ∧ Box H b ∧ 1 ≤ n ∧ n ≤ 16 ∧ 2 ≤ h ∧ h ≤ 10 ∧ StOk n h S ∧ Wld C b H x lz a n h R S ∧
  ∀ (t : Addr) (U : List Int) (H' : Hp), StOk n h U → SB b H H' → Box H' b → Wld C b H' x lz t n h R U → Q (.ref t) H'
theorem ok__law_ready (T : Txt K mg C) {f : Addr} {fd : FuncData} (F : Fun K "_law_ready" "_law_ready" s__law_ready f fd) (c__law_take : Cal P w K mg base "_law_take" 2 spTake) : FnOk P w K mg base CX0 3 f fd ["box", "hues", "below", "state"] (spReady C) := by
  refine F.ok sc__law_ready (fun vs H Q E h => ?_) (fun cdv A outer s H vs Q E hr h => ?_)
  · obtain ⟨b, x, lz, a, n, h, R, S, rfl, _⟩ := h; rfl
  · obtain ⟨b, x, lz, a, n, h, R, S, rfl, hb, n1, n16, h2, h10, ok, wld, q⟩ := h
    refine ⟨_, (pss_cons (ps_if (pt_cmpR op_eq (pe_cal c__law_take (hr.mono (by decide)) (pa_cons (pv 0) (pa_cons pe_int pa_nil))) pe_int (nomark _))
      (pss_one (ps_ret (pv 3))) pss_nil)
      (pss_cons (ps_set (i := 4) sc__law_ready.nd rfl (by first | exact Or.inl rfl | exact Or.inr rfl) (pe_cal c__law_take (hr.mono (by decide)) (pa_cons (pv 0) (pa_cons (pe_callB (lenS_ K) (by rfl) T.len b_len (pa_cons (pv 3) pa_nil)) pa_nil))))
      (pss_cons (ps_set (i := 5) sc__law_ready.nd rfl (by first | exact Or.inl rfl | exact Or.inr rfl) (pe_callTy (lstOf_ K) (by rfl) T.list b_list (pa_cons (pv 3) pa_nil)))
      (pss_cons (ps_asg (pe_cal c__law_take (hr.mono (by decide)) (pa_cons (pv 0) (pa_cons (pe_op op_sub (pv 1) pe_int) pa_nil))) (pg_sub (pv 5) (pv 4) set_list))
      (pss_cons (ps_for PassesOwn.never rfl (pil_ K (pe_ix (ixL_ K) (pv 2) (pv 4) (fun _ _ => rfl))) (pg_name (i := 6) sc__law_ready.nd rfl (by first | exact Or.inl rfl | exact Or.inr rfl))
      (pss_one (ps_asg (pe_op op_sub (pv 1) pe_int) (pg_sub (pv 5) (pv 6) set_list))))
      (pss_one (ps_ret (pe_callTy (tupOf_ K) (by rfl) T.tuple b_tuple (pa_cons (pv 5) pa_nil))))))))), ?_⟩
    have lenS : (stV S).length = n := by rw [List.length_map, ok.1]
    refine ⟨_, rfl, b, 2, rfl, by decide, by decide, hb, fun d0 H1 _ s1 b1 => ⟨rfl, _, rfl, ?_⟩⟩
    refine ite2 (fun _ => ⟨_, rfl, q a S H1 ok s1 b1 (wld.sb s1)⟩) (fun _ => ?_)
    obtain ⟨H0, n0, s0, r1, r2, r3⟩ := id wld
    have past : ∀ G, SB b H G → Same H0 G := fun G s => SB.past s0 n0 s
    have p1 := past H1 s1
    refine ⟨_, rfl, _, rfl, a, _, rfl, .inr (SqT.of (p1 _ _ r3)), b, n, by rw [lenS], n1, by omega, b1, fun k H2 hk s2 b2 => ?_⟩
    have s02 := s1.trans s2
    refine ⟨_, rfl, a, _, rfl, .inr (SqT.of (past _ s02 _ _ r3)), fun fr nf => ?_⟩
    have s3 : Same H2 (upd H2 fr (.lst (stV S))) := same_new nf
    have hf3 : (upd H2 fr (.lst (stV S))) fr = some (.lst (stV S)) := upd_same
    have nfb : fr ≠ b := b2.new nf
    have hf0 : H fr = Option.none := none_back s02 nfb nf
    generalize upd H2 fr (.lst (stV S)) = H3 at s3 hf3 ⊢
    have b3 := b2.same s3
    have e1 : (h : Int) - 1 = ((h - 1 : Nat) : Int) := by omega
    refine ⟨_, rfl, _, rfl, _, _, rfl, rfl, b, h - 1, by rw [← e1], by omega, by omega, b3, fun d H4 hd s4 b4 => ?_⟩
    have hf4 := s4 _ _ nfb hf3
    refine ⟨_, rfl, _, rfl, set_at hf4 (ixN_nat (by rw [lenS]; exact hk)) fun H5 s5 h5 => ?_⟩
    have h5 : H5 fr = some (.lst ((stV S).set k (V.int (d : Int)))) := h5
    rw [stV_set] at h5
    have sb5 : SB b H H5 := fun c o nc e => s5 c o (ne_of_none e hf0) (((s02.trans (SB.of s3)).trans s4) c o nc e)
    have b5 : Box H5 b := b4.off nfb.symm s5
    have ok5 : StOk n h (S.set k (d : Int)) := ok.set (by omega) (by omega)
    obtain ⟨xs, al, hbl, _, hal, hL⟩ := r2.at (relRows_at (R := R) hk)
    have p5 := past _ sb5
    refine ⟨_, rfl, _, rfl, lz, xs, _, _, rfl, rfl, SqL.of (p5 _ _ hbl), atI_nat hal, al, rfl, ⟨_, SqL.of (p5 _ _ hL)⟩, ?_⟩
    refine for_list (K := K) (a := al) (xs := nL (Bel n R k)) (fun i σ H6 => ∃ (v : Option V) (L : List Int), σ = [some (.ref b), some (.int h), some (.ref lz), some (.ref a), some (.int k), some (.ref fr), v] ∧ SB b H H6 ∧ Box H6 b ∧ H6 fr = some (.lst (stV L)) ∧ StOk n h L)
      ⟨_, _, rfl, sb5, b5, h5, ok5⟩ (fun i σ H6 _ ⟨_, _, _, s, _⟩ => SqL.of (past _ s _ _ hL)) ?_ ?_
    · rintro i y σ H6 hy ⟨v, L, rfl, s6, b6, h6, okL⟩
      obtain ⟨j, hj, rfl⟩ := nL_item hy
      obtain ⟨jn, rj⟩ := mem_Bel.mp (List.mem_of_getElem? hj)
      refine ⟨_, rfl, _, _, rfl, rfl, _, rfl, _, rfl, set_at h6 (ixN_nat (by rw [List.length_map, okL.1]; exact jn)) fun H7 s7 h7 => ?_⟩
      have h7 : H7 fr = some (.lst ((stV L).set j (V.int ((h : Int) - 1)))) := h7
      rw [stV_set] at h7
      exact ⟨_, _, rfl, fun c o nc e => s7 c o (ne_of_none e hf0) (s6 c o nc e), b6.off nfb.symm s7, h7, okL.set (by omega) (by omega)⟩
    · rintro σ H6 ⟨v, L, rfl, s6, b6, h6, okL⟩
      refine ⟨_, rfl, fr, _, rfl, .inl ⟨SqL.of h6, fun t nt => ?_⟩⟩
      have s7 : Same H6 (upd H6 t (.tup (stV L))) := same_new nt
      have b7 := b6.same s7
      exact q t L _ okL (s6.trans (SB.of s7)) b7 ((wld.sb (s6.trans (SB.of s7))).other b7 upd_same)
/-! ### all states -/
def kids (h : Nat) (S : List Int) : List (List Int) := (List.range h).map fun d : Nat => S ++ [(d : Int)]
def allS (h : Nat) : Nat → List (List Int)
  | 0 => [[]]
  | i + 1 => (allS h i).flatMap (kids h)
theorem mem_allS {h : Nat} : ∀ {n : Nat} {S : List Int}, S ∈ allS h n ↔ StOk n h S
  | 0, S => by
    constructor
    · intro m
      rw [List.mem_singleton.mp m]
      exact ⟨rfl, fun z hz => absurd hz List.not_mem_nil⟩
    · intro ok
      rw [List.eq_nil_of_length_eq_zero ok.1]
      exact List.mem_singleton.mpr rfl
  | n + 1, S => by
    show S ∈ (allS h n).flatMap (kids h) ↔ _
    rw [List.mem_flatMap]
    constructor
    · rintro ⟨T, hT, hS⟩
      obtain ⟨d, hd, rfl⟩ := List.mem_map.mp hS
      have := List.mem_range.mp hd
      exact (mem_allS.mp hT).add (by omega) (by omega)
    · intro ok
      have ne : S ≠ [] := fun z => by
        have := ok.1
        rw [z] at this
        cases this
      have e := List.dropLast_concat_getLast ne
      have bl := ok.2 _ (List.getLast_mem ne)
      refine ⟨S.dropLast, mem_allS.mpr ⟨by rw [List.length_dropLast, ok.1]; rfl, fun z hz => ok.2 z ((List.dropLast_sublist S).subset hz)⟩, List.mem_map.mpr ⟨(S.getLast ne).toNat, List.mem_range.mpr (by omega), ?_⟩⟩
      rw [Int.toNat_of_nonneg bl.1]
      exact e
theorem kids_len (h : Nat) (S : List Int) : (kids h S).length = h := by unfold kids; rw [List.length_map, List.length_range]
theorem flat_len (h : Nat) : ∀ l : List (List Int), (l.flatMap (kids h)).length = l.length * h
  | [] => by simp
  | S :: l => by
    rw [List.flatMap_cons, List.length_append, kids_len, flat_len h l, List.length_cons, Nat.add_mul, Nat.one_mul, Nat.add_comm]
abbrev s__law_every : Stmt := top 48
theorem sc__law_every : FnScope ["count", "hues", "every", "lamp", "longer", "one", "hue"] ["count", "hues"] (defScope s__law_every) := ⟨rfl, rfl, rfl, by decide +kernel, rfl, by decide +kernel, by decide +kernel⟩
-- slots of _law_every: 0 count, 1 hues, 2 every, 3 lamp, 4 longer, 5 one, 6 hue
def spEvery : Sp := fun vs H Q _ => ∃ (n h : Nat), vs = [.int n, .int h] ∧ n ≤ 16 ∧ h ≤ 10 ∧ ∀ (e : Addr) (ts : List Addr) (Ss : List (List Int)) (H' : Hp), Same H H' → H' e = some (.lst (ts.map V.ref)) → Tups H' ts Ss → (Ss = [] ∨ Ss = allS h n) → Q (.ref e) H'
theorem ok__law_every (T : Txt K mg C) {f : Addr} {fd : FuncData} (F : Fun K "_law_every" "_law_every" s__law_every f fd) : FnOk P w K mg base CX0 1 f fd ["count", "hues"] spEvery := by
  refine F.ok sc__law_every (fun vs H Q E h => ?_) (fun cdv A outer s H vs Q E hr h => ?_)
  · obtain ⟨n, h, rfl, _⟩ := h; rfl
  · obtain ⟨n, h, rfl, n16, h10, q⟩ := h
    refine ⟨_, (pss_cons (ps_set (i := 2) sc__law_every.nd rfl (by first | exact Or.inl rfl | exact Or.inr rfl) (pe_lst (pa_cons (pe_tup pa_nil) pa_nil)))
      (pss_cons (ps_for PassesOwn.never rfl (pi_range1 (by rfl) T.range (pa_cons (pv 0) pa_nil)) (pg_name (i := 3) sc__law_every.nd rfl (by first | exact Or.inl rfl | exact Or.inr rfl))
      (pss_cons (ps_set (i := 4) sc__law_every.nd rfl (by first | exact Or.inl rfl | exact Or.inr rfl) (pe_lst pa_nil))
      (pss_cons (ps_for PassesOwn.never rfl (pil_ K (pv 2)) (pg_name (i := 5) sc__law_every.nd rfl (by first | exact Or.inl rfl | exact Or.inr rfl))
      (pss_one (ps_for PassesOwn.never rfl (pi_range1 (by rfl) T.range (pa_cons (pv 1) pa_nil)) (pg_name (i := 6) sc__law_every.nd rfl (by first | exact Or.inl rfl | exact Or.inr rfl))
      (pss_one (ps_expr (pe_bm PySem.F.plainAttrs_list PySem.F.slot_list_append PySem.F.type_list_append mt_append (pv 4) (pa_cons (pe_op (catA_ K) (pv 5) (pe_tup (pa_cons (pv 6) pa_nil))) pa_nil)))))))
      (pss_cons (ps_if (pt_cmpR op_gt (pe_callB (lenS_ K) (by rfl) T.len b_len (pa_cons (pv 4) pa_nil)) pe_int (nomark _))
      (pss_one (ps_ret (pe_lst pa_nil))) pss_nil)
      (pss_one (ps_set (i := 2) sc__law_every.nd rfl (by first | exact Or.inl rfl | exact Or.inr rfl) (pv 4)))))))
      (pss_one (ps_ret (pv 2))))), ?_⟩
    refine ⟨by show 0 ≤ sizeLine; decide, fun t nt => ⟨by show 1 ≤ sizeLine; decide, fun e ne => ?_⟩⟩
    have s1 : Same H (upd (upd H t (.tup [])) e (.lst [.ref t])) := (same_new nt).trans (same_new ne)
    have he1 : (upd (upd H t (.tup [])) e (.lst [.ref t])) e = some (.lst (([t] : List Addr).map V.ref)) := upd_same
    have ht1 : (upd (upd H t (.tup [])) e (.lst [.ref t])) t = some (.tup (stV [])) := same_new ne _ _ upd_same
    generalize upd (upd H t (.tup [])) e (.lst [.ref t]) = H1 at s1 he1 ht1 ⊢
    refine ⟨_, rfl, _, rfl, by omega, by omega, ?_⟩
    rw [Int.toNat_natCast]
    refine for_range (fun i σ H2 => ∃ (v3 v4 v5 v6 : Option V) (e : Addr) (ts : List Addr), σ = [some (.int n), some (.int h), some (.ref e), v3, v4, v5, v6] ∧ Same H H2 ∧ H2 e = some (.lst (ts.map V.ref)) ∧ Tups H2 ts (allS h i) ∧ (allS h i).length ≤ 100)
      ⟨_, _, _, _, e, [t], rfl, s1, he1, (Tups.nil H1).add ht1, (by show 1 ≤ 100; decide)⟩ ?_ ?_
    · rintro i σ H2 hi ⟨v3, v4, v5, v6, e, ts, rfl, s2, he2, tu2, few⟩
      refine ⟨by decide, fun g ng => ?_⟩
      have s3 : Same H2 (upd H2 g (.lst [])) := same_new ng
      have hg3 : (upd H2 g (.lst [])) g = some (.lst (([] : List Addr).map V.ref)) := upd_same
      generalize upd H2 g (.lst []) = H3 at s3 hg3 ⊢
      refine ⟨_, rfl, e, rfl, ⟨_, SqL.of (s3 _ _ he2)⟩, ?_⟩
      refine for_list (K := K) (a := e) (xs := ts.map V.ref) (fun j σ H4 => ∃ (v3 v5 v6 : Option V) (us : List Addr), σ = [some (.int n), some (.int h), some (.ref e), v3, some (.ref g), v5, v6] ∧ Same H2 H4 ∧ H4 g = some (.lst (us.map V.ref)) ∧ Tups H4 us (((allS h i).take j).flatMap (kids h)))
        ⟨_, _, _, [], rfl, s3, hg3, Tups.nil H3⟩ (fun j σ H4 _ ⟨_, _, _, _, _, s, _⟩ => SqL.of (s _ _ he2)) ?_ ?_
      · rintro j y σ H4 hy ⟨v3, v5, v6, us, rfl, s4, hg4, tu4⟩
        obtain ⟨tj, S, htj, rfl, hSj, htS⟩ := tu2.get hy
        have tS4 := s4 _ _ htS
        refine ⟨_, rfl, _, rfl, by omega, by omega, ?_⟩
        rw [Int.toNat_natCast]
        refine for_range (fun m σ H5 => ∃ (v3 v6 : Option V) (us : List Addr), σ = [some (.int n), some (.int h), some (.ref e), v3, some (.ref g), some (.ref tj), v6] ∧ Same H2 H5 ∧ H5 g = some (.lst (us.map V.ref)) ∧ Tups H5 us (((allS h i).take j).flatMap (kids h) ++ (List.range m).map fun d : Nat => S ++ [(d : Int)]))
          ⟨_, _, us, rfl, s4, hg4, by rw [List.range_zero, List.map_nil, List.append_nil]; exact tu4⟩ ?_ ?_
        · rintro m σ H5 hm ⟨v3, v6, us, rfl, s5, hg5, tu5⟩
          have e0 : (0 : Int) + (m : Int) = (m : Int) := by omega
          rw [e0]
          have tS5 := s5 _ _ htS
          have few5 : us.length ≤ 1100 := by
            have z := tu5.1
            rw [List.length_append, flat_len, List.length_map, List.length_range, List.length_take] at z
            have z2 : min j (allS h i).length * h ≤ 100 * 10 := Nat.mul_le_mul (by omega) h10
            omega
          have sz : (us.map V.ref).length < sizeLine := by rw [List.length_map, sizeLine_eq]; omega
          have key : ∀ (H6 : Hp) (r : Addr), Same H5 H6 → H6 r = some (.tup (stV (S ++ [(m : Int)]))) →
              ∃ (v3' v6' : Option V) (us' : List Addr), ([some (.int n), some (.int h), some (.ref e), v3, some (.ref g), some (.ref tj), some (.int (m : Int))] : L2.St) = [some (.int n), some (.int h), some (.ref e), v3', some (.ref g), some (.ref tj), v6'] ∧ Same H2 (upd H6 g (.lst (us.map V.ref ++ [V.ref r]))) ∧ (upd H6 g (.lst (us.map V.ref ++ [V.ref r]))) g = some (.lst (us'.map V.ref)) ∧ Tups (upd H6 g (.lst (us.map V.ref ++ [V.ref r]))) us' (((allS h i).take j).flatMap (kids h) ++ (List.range (m + 1)).map fun d : Nat => S ++ [(d : Int)]) := by
            intro H6 r s6 hr6
            have hg6 := s6 _ _ hg5
            refine ⟨_, _, us ++ [r], rfl, same_upd (s5.trans s6) ng, by rw [upd_same, List.map_append]; rfl, ?_⟩
            rw [List.range_succ, List.map_append, ← List.append_assoc]
            exact Tups.upd ((tu5.same s6).add hr6) hg6
          refine ⟨_, rfl, .inl ⟨rfl, _, SqL.of hg5⟩, _, rfl, _, rfl, by show 1 ≤ sizeLine; decide, fun p np => ?_⟩
          have s6 : Same H5 (upd H5 p (.tup [.int (m : Int)])) := same_new np
          have hp6 : (upd H5 p (.tup [.int (m : Int)])) p = some (.tup (stV [(m : Int)])) := upd_same
          generalize upd H5 p (.tup [.int (m : Int)]) = H6 at s6 hp6 ⊢
          have lS : S.length = i := (mem_allS.mp (List.mem_of_getElem? hSj)).1
          refine ⟨tj, p, stV S, stV [(m : Int)], rfl, rfl, SqT.of (s6 _ _ tS5), SqT.of hp6, by rw [List.length_map, lS, sizeLine_eq]; show i + 1 ≤ _; omega, fun ex => ?_, fun _ ex => ?_, fun _ _ r nr => ?_⟩
          · have eS : S = [] := List.eq_nil_of_length_eq_zero (by rw [← List.length_map (f := V.int), show S.map V.int = [] from ex]; rfl)
            exact ⟨g, _, _, rfl, rfl, s6 _ _ hg5, sz, key H6 p s6 (by rw [eS]; exact hp6)⟩
          · cases ex
          · have s7 : Same H6 (upd H6 r (.tup (stV S ++ stV [(m : Int)]))) := same_new nr
            refine ⟨g, _, _, rfl, rfl, s7 _ _ (s6 _ _ hg5), sz, key _ r (s6.trans s7) (by rw [upd_same]; unfold stV; rw [List.map_append])⟩
        · rintro σ H5 ⟨v3, v6, us, rfl, s5, hg5, tu5⟩
          refine ⟨_, _, _, us, rfl, s5, hg5, ?_⟩
          rw [List.take_add_one, hSj]
          show Tups H5 us (List.flatMap (kids h) ((allS h i).take j ++ [S]))
          rw [List.flatMap_append, List.flatMap_singleton]
          exact tu5
      · rintro σ H4 ⟨v3, v5, v6, us, rfl, s4, hg4, tu4⟩
        rw [List.length_map, tu2.1, List.take_length] at tu4
        have lus : us.length = (allS h (i + 1)).length := tu4.1
        refine ⟨_, rfl, g, _, rfl, .inl (SqL.of hg4), _, _, rfl, rfl, _, rfl, ?_⟩
        refine ite2 (fun hbig => ?_) (fun hsm => ?_)
        · exact ⟨by decide, fun l nl => q l [] [] _ ((s2.trans s4).trans (same_new nl)) upd_same (Tups.nil _) (.inl rfl)⟩
        · have nb : ¬ (((us.map V.ref).length : Int) > 100) := fun z => hsm (decide_eq_true z)
          rw [List.length_map, lus] at nb
          exact ⟨_, rfl, _, _, _, _, g, us, rfl, s2.trans s4, hg4, tu4, by omega⟩
    · rintro σ H2 ⟨v3, v4, v5, v6, e, ts, rfl, s2, he2, tu2, few⟩
      exact ⟨_, rfl, q e ts _ H2 s2 he2 tu2 (.inr rfl)⟩
/-! ### the state before a move, looked for among all states -/
def stsD (Ss : List (List Int)) : PyData := .list (Ss.map stD)
theorem sts_all {H : Hp} : ∀ (ts : List Addr) (Ss : List (List Int)), Tups H ts Ss → DpAll K H (ts.map V.ref) (Ss.map stD)
  | [], [], _ => .nil
  | [], _ :: _, h => nomatch h.1
  | _ :: _, [], h => nomatch h.1
  | t :: ts, S :: Ss, h => .cons (st_dp (h.2 0 t S rfl rfl)) (sts_all ts Ss ⟨Nat.succ.inj h.1, fun i t p a b => h.2 (i + 1) t p a b⟩)
theorem sts_lay : ∀ Ss : List (List Int), PyData.canLayAll0 (Ss.map stD) = true
  | [] => by simp [PyData.canLayAll0]
  | S :: Ss => by simp [PyData.canLayAll0, PyData.canLay0, sts_lay Ss, stD, ints_lay S]
theorem sts_deep : ∀ Ss : List (List Int), PyData.depthAll (Ss.map stD) ≤ 3
  | [] => by simp [PyData.depthAll]
  | S :: Ss => by
    have := sts_deep Ss
    have := ints_deep S
    simp only [List.map_cons, PyData.depthAll, stD, PyData.depth]
    omega
theorem sts_shaped (Ss : List (List Int)) : SeqAt.shaped (stsD Ss) = true := by
  have h1 := sts_deep Ss
  have h2 : PyData.depth (stsD Ss) ≤ 64 := by
    simp only [stsD, PyData.depth]
    omega
  show (PyData.canLay0 (stsD Ss) && decide (PyData.depth (stsD Ss) ≤ 64)) = true
  rw [decide_eq_true h2, Bool.and_true]
  show PyData.canLay0 (.list (Ss.map stD)) = true
  simp only [PyData.canLay0]
  exact sts_lay Ss
theorem sts_eqv (Ss : List (List Int)) : PyData.eqv (stsD Ss) (stsD []) = decide (Ss = []) := by
  cases Ss <;> simp [stsD, PyData.eqv, PyData.eqvAll]
abbrev s__law_due : Stmt := top 50
theorem sc__law_due : FnScope ["every", "hues", "below", "state", "lamp", "gentle", "one"] ["every", "hues", "below", "state", "lamp", "gentle"] (defScope s__law_due) := ⟨rfl, rfl, rfl, by decide +kernel, rfl, by decide +kernel, by decide +kernel⟩
-- slots of _law_due: 0 every, 1 hues, 2 below, 3 state, 4 lamp, 5 gentle, 6 one
def spDue : Sp := fun vs H Q _ => ∃ (e lz a : Addr) (ts : List Addr) (Ss : List (List Int)) (n h k : Nat) (R : Rel) (S : List Int) (c : Bool), vs = [.ref e, .int h, .ref lz, .ref a, .int k, .bl c] ∧ n ≤ 16 ∧ 2 ≤ h ∧ k < n ∧ Irr R ∧ Rows H lz (relRows n R) ∧ H a = some (.tup (stV S)) ∧ StOk n h S ∧
  H e = some (.lst (ts.map V.ref)) ∧ Tups H ts Ss ∧ (Ss = [] ∨ Ss = allS h n) ∧ ∀ (v : V) (H' : Hp), Same H H' → OptAt H' v (upO n h R S k c) → Q v H'
theorem ok__law_due (T : Txt K mg C) {f : Addr} {fd : FuncData} (F : Fun K "_law_due" "_law_due" s__law_due f fd) (c__law_back : Cal P w K mg base "_law_back" 1 spBack) (c__law_step : Cal P w K mg base "_law_step" 1 spStep) (c__law_wrong : Cal P w K mg base "_law_wrong" 1 spWrong) :
    FnOk P w K mg base CX0 2 f fd ["every", "hues", "below", "state", "lamp", "gentle"] spDue := by
  refine F.ok sc__law_due (fun vs H Q E h => ?_) (fun cdv A outer s H vs Q E hr h => ?_)
  · obtain ⟨e, lz, a, ts, Ss, n, h, k, R, S, c, rfl, _⟩ := h; rfl
  · obtain ⟨e, lz, a, ts, Ss, n, h, k, R, S, c, rfl, n16, h2, hk, irr, rows, ha, okS, he, tu, full, q⟩ := h
    refine ⟨_, (pss_cons (ps_if (pt_cmpR (hu_eqD K hr.units) (pv 0) (pe_lst pa_nil) (nomark _))
      (pss_one (ps_ret (pe_cal c__law_back (hr.mono (by decide)) (pa_cons (pv 1) (pa_cons (pv 2) (pa_cons (pv 3) (pa_cons (pv 4) (pa_cons (pv 5) pa_nil)))))))) pss_nil)
      (pss_cons (ps_for PassesOwn.never rfl (pil_ K (pv 0)) (pg_name (i := 6) sc__law_due.nd rfl (by first | exact Or.inl rfl | exact Or.inr rfl))
      (pss_one (ps_if (PW.pt (pw_and (pt_cmpR op_gt (pe_ix (ixT_ K) (pv 6) (pv 4) (fun _ _ => rfl)) pe_int (nomark _)) (pw_and1 (pt_cmpR (hu_eqD K hr.units) (pe_cal c__law_step (hr.mono (by decide)) (pa_cons (pv 1) (pa_cons (pv 2) (pa_cons (pv 6) (pa_cons (pv 4) pa_nil))))) (pv 3) (nomark _)))))
      (pss_one (ps_if (pt_cmpR (hu_eqD K hr.units) (pe_cal c__law_wrong (hr.mono (by decide)) (pa_cons (pv 2) (pa_cons (pv 6) (pa_cons (pv 4) (pa_cons (pv 5) pa_nil))))) (pe_tup pa_nil) (nomark _))
      (pss_one (ps_ret (pv 6))) pss_nil)) pss_nil)))
      (pss_one (ps_ret pe_non)))), ?_⟩
    refine ⟨_, rfl, by decide, fun e2 ne2 => ?_⟩
    have s1 : Same H (upd H e2 (.lst [])) := same_new ne2
    have he2 : (upd H e2 (.lst [])) e2 = some (.lst (([] : List Addr).map V.ref)) := upd_same
    generalize upd H e2 (.lst []) = H1 at s1 he2 ⊢
    have he1 := s1 _ _ he
    have tu1 := tu.same s1
    have ha1 := s1 _ _ ha
    have rows1 := rows.same s1
    refine ⟨stsD Ss, stsD [], .lst (SqL.of he1) (sts_all ts Ss tu1), .lst (SqL.of he2) .nil, sts_shaped _, sts_shaped _, _, rfl, ?_⟩
    rw [sts_eqv]
    refine ite2 (fun _ => ?_) (fun hne => ?_)
    · exact ⟨_, rfl, _, rfl, _, rfl, _, rfl, _, rfl, lz, a, n, h, k, R, S, c, rfl, n16, h2, hk, irr, rows1, ha1, okS, fun v H' s' ho => q v H' (s1.trans s') ho⟩
    have full : Ss = allS h n := full.resolve_left fun z => hne (decide_eq_true z)
    refine ⟨_, rfl, e, rfl, ⟨_, SqL.of he1⟩, ?_⟩
    refine for_list (K := K) (a := e) (xs := ts.map V.ref) (fun i σ H2 => ∃ v : Option V, σ = [some (.ref e), some (.int h), some (.ref lz), some (.ref a), some (.int k), some (.bl c), v] ∧ Same H1 H2 ∧ ∀ (j : Nat) U, j < i → Ss[j]? = some U → ¬ (canB n R U k c = true ∧ stepL n h R U k false = S))
      ⟨_, rfl, Same.refl _, fun j U hj => absurd hj (Nat.not_lt_zero j)⟩ (fun i σ H2 _ ⟨_, _, s, _⟩ => SqL.of (s _ _ he1)) ?_ ?_
    · rintro i y σ H2 hy ⟨v, rfl, s2, no⟩
      obtain ⟨ti, U, hti, rfl, hU, htU⟩ := tu1.get hy
      have okU : StOk n h U := mem_allS.mp (by rw [← full]; exact List.mem_of_getElem? hU)
      have skip : ∀ H3, Same H1 H3 → ¬ (canB n R U k c = true ∧ stepL n h R U k false = S) → ∃ v : Option V, ([some (.ref e), some (.int h), some (.ref lz), some (.ref a), some (.int k), some (.bl c), some (.ref ti)] : L2.St) = [some (.ref e), some (.int h), some (.ref lz), some (.ref a), some (.int k), some (.bl c), v] ∧ Same H1 H3 ∧ ∀ (j : Nat) U, j < i + 1 → Ss[j]? = some U → ¬ (canB n R U k c = true ∧ stepL n h R U k false = S) := fun H3 s3 nU => by
        refine ⟨_, rfl, s3, fun j W hj hW => ?_⟩
        rcases Nat.lt_or_ge j i with lt | ge
        · exact no j W lt hW
        · have ej : j = i := by omega
          rw [ej, hU] at hW
          cases hW
          exact nU
      have kU := stV_get (S := U) (k := k) (by rw [okU.1]; exact hk)
      have htU2 := s2 _ _ htU
      refine ⟨_, rfl, _, rfl, ti, _, _, _, rfl, rfl, SqT.of htU2, atI_nat kU, _, _, rfl, rfl, _, rfl, ?_⟩
      refine ite2 (fun hpos => ?_) (fun hnp => ?_)
      · refine ⟨_, rfl, _, rfl, _, rfl, _, rfl, lz, ti, n, h, k, R, U, rfl, n16, h2, hk, irr, rows1.same s2, htU2, okU, fun t H3 s3 ht => ?_⟩
        have s13 := s2.trans s3
        refine ⟨_, rfl, stD _, stD S, st_dp ht, st_dp (s13 _ _ ha1), st_shaped _, st_shaped _, _, rfl, ?_⟩
        rw [st_eqv]
        refine ite2 (fun heq => ?_) (fun hne2 => ?_)
        · have eS : stepL n h R U k false = S := of_decide_eq_true heq
          refine ⟨_, rfl, _, rfl, _, rfl, _, rfl, lz, ti, n, k, R, U, c, rfl, n16, hk, rows1.same s13, s13 _ _ htU, fun j hj => (okU.at hj).1, okU.1, fun t2 ws H4 s4 ht2 hw => ?_⟩
          refine ⟨by show 0 ≤ sizeLine; decide, fun t3 nt3 => ?_⟩
          have s5 : Same H4 (upd H4 t3 (.tup [])) := same_new nt3
          have ht3 : (upd H4 t3 (.tup [])) t3 = some (.tup (stV [])) := upd_same
          generalize upd H4 t3 (.tup []) = H5 at s5 ht3 ⊢
          have s15 := (s13.trans s4).trans s5
          refine ⟨stD ws, stD [], st_dp (s5 _ _ ht2), st_dp ht3, st_shaped _, st_shaped _, _, rfl, ?_⟩
          rw [st_eqv]
          refine ite2 (fun hy => ?_) (fun hn => ?_)
          · have can := hw.mp (of_decide_eq_true hy)
            obtain ⟨may, eU⟩ := (pred_iff h2 irr okS okU hk).mp ⟨can, eS⟩
            exact ⟨_, rfl, q (.ref ti) H5 (s1.trans s15) (by rw [upO_some may, ← eU]; exact ⟨ti, rfl, s15 _ _ htU⟩)⟩
          · exact skip H5 s15 fun z => hn (decide_eq_true (hw.mpr z.1))
        · exact skip H3 s13 fun z => hne2 (decide_eq_true z.2)
      · refine skip H2 s2 fun z => hnp (decide_eq_true ?_)
        exact (canB_iff.mp z.1).1
    · rintro σ H2 ⟨v, rfl, s2, no⟩
      have nm : ¬ mayB n h R S k c true = true := fun may => by
        have okU := step_ok h2 okS hk may
        have m : stepL n h R S k true ∈ Ss := by rw [full]; exact mem_allS.mpr okU
        obtain ⟨j, hj, ej⟩ := List.getElem_of_mem m
        refine no j _ ?_ (show Ss[j]? = some (stepL n h R S k true) by rw [List.getElem?_eq_getElem hj, ej]) ((pred_iff h2 irr okS okU hk).mpr ⟨may, rfl⟩)
        rw [List.length_map, tu1.1]
        exact hj
      exact q .non H2 (s1.trans s2) (by rw [upO_none nm]; exact rfl)
end
end Hue

end
section
set_option maxRecDepth 100000
set_option maxHeartbeats 4000000
namespace Hue
open PySem PySem.Spec PyProof.Rows L2
section
variable {P : Program} {w : World} {K : PySem.W.Frag} {mg : Str → Option Value} {base : Heap} {C : Addr}
theorem upO_len {n h : Nat} {R : Rel} {S : List Int} {k : Nat} {c : Bool} (n16 : n ≤ 16) : ∀ U, upO n h R S k c = some U → U.length ≤ 16 := fun U e => by
  unfold upO at e
  split at e
  · cases e
    rw [stepL_len]; exact n16
  · cases e
abbrev s__law_lamp : Stmt := top 52
theorem sc__law_lamp : FnScope ["house", "hues", "below", "state", "lamp", "every", "gentle", "due", "told", "later"] ["house", "hues", "below", "state", "lamp", "every"] (defScope s__law_lamp) := ⟨rfl, rfl, rfl, by decide +kernel, rfl, by decide +kernel, by decide +kernel⟩
-- slots of _law_lamp: 0 house, 1 hues, 2 below, 3 state, 4 lamp, 5 every, 6 gentle, 7 due, 8 told, 9 later
def spLamp (C : Addr) : Sp := fun vs H Q _ => ∃ (x lz a e : Addr) (ts : List Addr) (Ss : List (List Int)) (n h k : Nat) (R : Rel) (S : List Int), vs = [.ref x, .int h, .ref lz, .ref a, .int k, .ref e] ∧ HouseAt C H x n h R ∧ n ≤ 16 ∧ 2 ≤ h ∧ k < n ∧ Irr R ∧ Rows H lz (relRows n R) ∧ H a = some (.tup (stV S)) ∧ StOk n h S ∧
  H e = some (.lst (ts.map V.ref)) ∧ Tups H ts Ss ∧ (Ss = [] ∨ Ss = allS h n) ∧ ∀ H', Same H H' → Q (.bl true) H'
theorem ok__law_lamp (T : Txt K mg C) {f : Addr} {fd : FuncData} (F : Fun K "_law_lamp" "_law_lamp" s__law_lamp f fd) (c__law_due : Cal P w K mg base "_law_due" 2 spDue) (c_before : KwCal P w K mg base "before" 8 3 "careful" (spBefore C)) (c__law_maybe : Cal P w K mg base "_law_maybe" 2 spMaybe)
    (c__law_same : Cal P w K mg base "_law_same" 1 spSame) (c_after : KwCal P w K mg base "after" 8 3 "careful" (spAfter C)) (c__law_wrong : Cal P w K mg base "_law_wrong" 1 spWrong) (c__law_step : Cal P w K mg base "_law_step" 1 spStep) :
    FnOk P w K mg base CX0 9 f fd ["house", "hues", "below", "state", "lamp", "every"] (spLamp C) := by
  refine F.ok sc__law_lamp (fun vs H Q E h => ?_) (fun cdv A outer s H vs Q E hr h => ?_)
  · obtain ⟨x, lz, a, e, ts, Ss, n, h, k, R, S, rfl, _⟩ := h; rfl
  · obtain ⟨x, lz, a, e, ts, Ss, n, h, k, R, S, rfl, hx, n16, h2, hk, irr, rows, ha, ok, he, tu, full, q⟩ := h
    refine ⟨_, (pss_cons (ps_for PassesOwn.never rfl (pit_ K (pe_tup (pa_cons pe_bl (pa_cons pe_bl pa_nil)))) (pg_name (i := 6) sc__law_lamp.nd rfl (by first | exact Or.inl rfl | exact Or.inr rfl))
      (pss_cons (ps_set (i := 7) sc__law_lamp.nd rfl (by first | exact Or.inl rfl | exact Or.inr rfl) (pe_cal c__law_due (hr.mono (by decide)) (pa_cons (pv 5) (pa_cons (pv 1) (pa_cons (pv 2) (pa_cons (pv 3) (pa_cons (pv 4) (pa_cons (pv 6) pa_nil))))))))
      (pss_cons (ps_set (i := 8) sc__law_lamp.nd rfl (by first | exact Or.inl rfl | exact Or.inr rfl) (pe_kw1 c_before (hr.mono (by decide)) (pa_cons (pv 0) (pa_cons (pv 3) (pa_cons (pv 4) pa_nil))) (pk_cons (pv 6) pk_nil)))
      (pss_cons (ps_if (pt_not (pt_val (pe_cal c__law_maybe (hr.mono (by decide)) (pa_cons (pv 8) (pa_cons (pv 7) pa_nil)))))
      (pss_one (ps_ret pe_bl)) pss_nil)
      (C8.pss_cut (ps_if (PW.pt (pw_and (pt_cmpR op_notN (pv 7) pe_non (nomark _)) (pw_and1 (pt_not (pt_val (pe_cal c__law_same (hr.mono (by decide)) (pa_cons (pe_kw1 c_after (hr.mono (by decide)) (pa_cons (pv 0) (pa_cons (pv 8) (pa_cons (pv 4) pa_nil))) (pk_cons (pv 6) pk_nil)) (pa_cons (pv 3) pa_nil))))))))
      (pss_one (ps_ret pe_bl)) pss_nil)
      (C8.pss_cut (ps_if (PW.pt (pw_and (pt_not (truth_ K (pv 6))) (pw_and1 (pt_not (pt_val (pe_cal c__law_maybe (hr.mono (by decide)) (pa_cons (pe_kw0 c_before (hr.mono (by decide)) (pa_cons (pv 0) (pa_cons (pv 3) (pa_cons (pv 4) pa_nil)))) (pa_cons (pv 7) pa_nil))))))))
      (pss_one (ps_ret pe_bl)) pss_nil)
      (pss_one (ps_if (pt_cmpR (hu_eqD K hr.units) (pe_cal c__law_wrong (hr.mono (by decide)) (pa_cons (pv 2) (pa_cons (pv 3) (pa_cons (pv 4) (pa_cons (pv 6) pa_nil))))) (pe_tup pa_nil) (nomark _))
      (pss_cons (ps_set (i := 9) sc__law_lamp.nd rfl (by first | exact Or.inl rfl | exact Or.inr rfl) (pe_kw1 c_after (hr.mono (by decide)) (pa_cons (pv 0) (pa_cons (pv 3) (pa_cons (pv 4) pa_nil))) (pk_cons (pv 6) pk_nil)))
      (pss_cons (ps_if (pt_not (pt_val (pe_cal c__law_same (hr.mono (by decide)) (pa_cons (pv 9) (pa_cons (pe_cal c__law_step (hr.mono (by decide)) (pa_cons (pv 1) (pa_cons (pv 2) (pa_cons (pv 3) (pa_cons (pv 4) pa_nil))))) pa_nil)))))
      (pss_one (ps_ret pe_bl)) pss_nil)
      (pss_one (ps_if (pt_not (pt_val (pe_cal c__law_same (hr.mono (by decide)) (pa_cons (pe_kw1 c_before (hr.mono (by decide)) (pa_cons (pv 0) (pa_cons (pv 9) (pa_cons (pv 4) pa_nil))) (pk_cons (pv 6) pk_nil)) (pa_cons (pv 3) pa_nil)))))
      (pss_one (ps_ret pe_bl)) pss_nil)))) pss_nil))))))))
      (pss_one (ps_ret pe_bl))), ?_⟩
    refine ⟨by show 2 ≤ sizeLine; decide, fun tp ntp => ?_⟩
    have s1 : Same H (upd H tp (.tup [.bl false, .bl true])) := same_new ntp
    have htp : (upd H tp (.tup [.bl false, .bl true])) tp = some (.tup [.bl false, .bl true]) := upd_same
    generalize upd H tp (.tup [.bl false, .bl true]) = H1 at s1 htp ⊢
    refine ⟨tp, rfl, ⟨_, SqT.of htp⟩, ?_⟩
    refine for_tup (K := K) (a := tp) (xs := [.bl false, .bl true]) (fun i σ H2 => ∃ v6 v7 v8 v9 : Option V, σ = [some (.ref x), some (.int h), some (.ref lz), some (.ref a), some (.int k), some (.ref e), v6, v7, v8, v9] ∧ Same H1 H2)
      ⟨_, _, _, _, rfl, Same.refl _⟩ (fun i σ H2 _ ⟨_, _, _, _, _, s⟩ => SqT.of (s _ _ htp)) ?_ ?_
    · rintro i y σ H2 hy ⟨v6, v7, v8, v9, rfl, s2⟩
      obtain ⟨c, rfl⟩ : ∃ c : Bool, y = V.bl c := by
        have m := List.mem_of_getElem? hy
        rcases List.mem_cons.mp m with z | m
        · exact ⟨_, z⟩
        · rcases List.mem_cons.mp m with z | m
          · exact ⟨_, z⟩
          · cases m
      have few := upO_len (n := n) (h := h) (R := R) (S := S) (k := k) (c := c) n16
      have s02 := s1.trans s2
      refine ⟨_, rfl, _, rfl, _, rfl, _, rfl, _, rfl, _, rfl, e, lz, a, ts, Ss, n, h, k, R, S, c, rfl, n16, h2, hk, irr, rows.same s02, s02 _ _ ha, ok, s02 _ _ he, tu.same s02, full, fun du H3 s3 hdu => ?_⟩
      have s03 := s02.trans s3
      refine ⟨_, rfl, _, rfl, _, rfl, _, rfl, rfl, rfl, x, a, n, h, k, R, S, c, rfl, hx.same s03, n16, h2, hk, irr, s03 _ _ ha, ok, fun tl H4 s4 htl => ?_⟩
      have s04 := s03.trans s4
      have hdu4 := hdu.same s4
      refine ⟨_, rfl, _, rfl, tl, du, _, rfl, few, htl, hdu4, true, rfl, iteF ?_⟩
      have s24 := (s2.trans s3).trans s4
      refine ⟨fun σ H5 => σ = [some (.ref x), some (.int h), some (.ref lz), some (.ref a), some (.int k), some (.ref e), some (.bl c), some du, some tl, v9] ∧ Same H4 H5, ⟨_, rfl, rfl, _, rfl, ?_⟩, ?_⟩
      · refine ite2 (fun hnn => ?_) (fun _ => ⟨rfl, Same.refl _⟩)
        rcases Classical.em (mayB n h R S k c true = true) with may | nm
        · rw [upO_some may] at htl
          obtain ⟨tt, rfl, htt⟩ := htl
          have okU := step_ok h2 ok hk may
          obtain ⟨can, eS⟩ := (pred_iff h2 irr ok okU hk).mpr ⟨may, rfl⟩
          refine ⟨_, rfl, _, rfl, _, rfl, _, rfl, rfl, rfl, x, tt, n, h, k, R, _, c, rfl, hx.same s04, n16, h2, hk, irr, htt, okU, can, fun t5 H5 s5 ht5 => ?_⟩
          rw [eS] at ht5
          exact ⟨_, rfl, t5, a, S, rfl, by rw [ok.1]; exact n16, ht5, s5 _ _ (s04 _ _ ha), true, rfl, iteF ⟨rfl, s5⟩⟩
        · rw [upO_none nm] at hdu
          cases hdu
          cases hnn
      rintro σ H5 ⟨rfl, s5⟩
      have s05 := s04.trans s5
      have hdu5 := hdu4.same s5
      refine ⟨fun σ H6 => σ = [some (.ref x), some (.int h), some (.ref lz), some (.ref a), some (.int k), some (.ref e), some (.bl c), some du, some tl, v9] ∧ Same H5 H6, ⟨_, rfl, c, rfl, ?_⟩, ?_⟩
      · refine ite2 (fun hc => ?_) (fun _ => ⟨rfl, Same.refl _⟩)
        have c0 : c = false := by
          cases c with
          | false => rfl
          | true => cases hc
        subst c0
        refine ⟨_, rfl, _, rfl, _, rfl, x, a, n, h, k, R, S, false, rfl, hx.same s05, n16, h2, hk, irr, s05 _ _ ha, ok, fun u H6 s6 hu => ?_⟩
        exact ⟨_, rfl, u, du, _, rfl, few, hu, hdu5.same s6, true, rfl, iteF ⟨rfl, s6⟩⟩
      rintro σ H6 ⟨rfl, s6⟩
      have s06 := s05.trans s6
      have s26 := (s24.trans s5).trans s6
      refine ⟨_, rfl, _, rfl, _, rfl, _, rfl, lz, a, n, k, R, S, c, rfl, n16, hk, rows.same s06, s06 _ _ ha, fun j hj => (ok.at hj).1, ok.1, fun t ws H7 s7 ht hw => ?_⟩
      refine ⟨by show 0 ≤ sizeLine; decide, fun t3 nt3 => ?_⟩
      have s8 : Same H7 (upd H7 t3 (.tup [])) := same_new nt3
      have ht3 : (upd H7 t3 (.tup [])) t3 = some (.tup (stV [])) := upd_same
      generalize upd H7 t3 (.tup []) = H8 at s8 ht3 ⊢
      have s08 := (s06.trans s7).trans s8
      have s28 := (s26.trans s7).trans s8
      refine ⟨stD ws, stD [], st_dp (s8 _ _ ht), st_dp ht3, st_shaped _, st_shaped _, _, rfl, ?_⟩
      rw [st_eqv]
      refine ite2 (fun hy => ?_) (fun _ => ⟨_, _, _, _, rfl, s28⟩)
      have can := hw.mp (of_decide_eq_true hy)
      have may := (can_may ok hk).mp can
      have okL := step_ok h2 ok hk may
      obtain ⟨mayU, eS⟩ := step_back h2 irr ok hk may
      have mayU : mayB n h R (stepL n h R S k false) k c true = true := mayU
      have eS : S = stepL n h R (stepL n h R S k false) k true := eS
      refine ⟨_, rfl, _, rfl, _, rfl, _, rfl, rfl, rfl, x, a, n, h, k, R, S, c, rfl, hx.same s08, n16, h2, hk, irr, s08 _ _ ha, ok, can, fun la H9 s9 hla => ?_⟩
      have s09 := s08.trans s9
      refine ⟨_, rfl, _, rfl, _, rfl, _, rfl, _, rfl, lz, a, n, h, k, R, S, rfl, n16, h2, hk, irr, rows.same s09, s09 _ _ ha, ok, fun t10 H10 s10 ht10 => ?_⟩
      have s010 := s09.trans s10
      refine ⟨la, t10, _, rfl, by rw [stepL_len]; exact n16, s10 _ _ hla, ht10, true, rfl, iteF ?_⟩
      refine ⟨_, rfl, _, rfl, _, rfl, _, rfl, rfl, rfl, x, la, n, h, k, R, _, c, rfl, hx.same s010, n16, h2, hk, irr, s10 _ _ hla, okL, fun u H11 s11 hu => ?_⟩
      rw [upO_some mayU, ← eS] at hu
      obtain ⟨tu', rfl, htu⟩ := hu
      exact ⟨_, rfl, tu', a, S, rfl, by rw [ok.1]; exact n16, htu, s11 _ _ (s010 _ _ ha), true, rfl, iteF ⟨_, _, _, _, rfl, ((s28.trans s9).trans s10).trans s11⟩⟩
    · rintro σ H2 ⟨v6, v7, v8, v9, rfl, s2⟩
      exact q H2 (s1.trans s2)
abbrev s__law_holds : Stmt := top 53
theorem sc__law_holds : FnScope ["house", "hues", "below", "state", "every", "lamp"] ["house", "hues", "below", "state"] (defScope s__law_holds) := ⟨rfl, rfl, rfl, by decide +kernel, rfl, by decide +kernel, by decide +kernel⟩
-- slots of _law_holds: 0 house, 1 hues, 2 below, 3 state, 4 every, 5 lamp
def spHolds (C : Addr) : Sp := fun vs H Q _ => ∃ (x lz a : Addr) (n h : Nat) (R : Rel) (S : List Int), vs = [.ref x, .int h, .ref lz, .ref a] ∧ HouseAt C H x n h R ∧ n ≤ 16 ∧ 2 ≤ h ∧ h ≤ 10 ∧ Irr R ∧ Rows H lz (relRows n R) ∧ H a = some (.tup (stV S)) ∧ StOk n h S ∧ ∀ H', Same H H' → Q (.bl true) H'
theorem ok__law_holds (T : Txt K mg C) {f : Addr} {fd : FuncData} (F : Fun K "_law_holds" "_law_holds" s__law_holds f fd) (c__law_every : Cal P w K mg base "_law_every" 1 spEvery) (c__law_lamp : Cal P w K mg base "_law_lamp" 9 (spLamp C)) :
    FnOk P w K mg base CX0 10 f fd ["house", "hues", "below", "state"] (spHolds C) := by
  refine F.ok sc__law_holds (fun vs H Q E h => ?_) (fun cdv A outer s H vs Q E hr h => ?_)
  · obtain ⟨x, lz, a, n, h, R, S, rfl, _⟩ := h; rfl
  · obtain ⟨x, lz, a, n, h, R, S, rfl, hx, n16, h2, h10, irr, rows, ha, ok, q⟩ := h
    refine ⟨_, (pss_cons (ps_set (i := 4) sc__law_holds.nd rfl (by first | exact Or.inl rfl | exact Or.inr rfl) (pe_cal c__law_every (hr.mono (by decide)) (pa_cons (pe_callB (lenS_ K) (by rfl) T.len b_len (pa_cons (pv 3) pa_nil)) (pa_cons (pv 1) pa_nil))))
      (pss_cons (ps_for PassesOwn.never rfl (pi_range1 (by rfl) T.range (pa_cons (pe_callB (lenS_ K) (by rfl) T.len b_len (pa_cons (pv 3) pa_nil)) pa_nil)) (pg_name (i := 5) sc__law_holds.nd rfl (by first | exact Or.inl rfl | exact Or.inr rfl))
      (pss_one (ps_if (pt_not (pt_val (pe_cal c__law_lamp (hr.mono (by decide)) (pa_cons (pv 0) (pa_cons (pv 1) (pa_cons (pv 2) (pa_cons (pv 3) (pa_cons (pv 5) (pa_cons (pv 4) pa_nil)))))))))
      (pss_one (ps_ret pe_bl)) pss_nil)))
      (pss_one (ps_ret pe_bl)))), ?_⟩
    have lenS : (stV S).length = n := by rw [List.length_map, ok.1]
    refine ⟨_, rfl, a, _, rfl, .inr (SqT.of ha), _, rfl, n, h, by rw [lenS], n16, h10, fun e ts Ss H1 s1 he tu full => ?_⟩
    refine ⟨_, rfl, a, _, rfl, .inr (SqT.of (s1 _ _ ha)), _, rfl, by rw [lenS]; omega, by rw [lenS]; omega, ?_⟩
    rw [lenS, Int.toNat_natCast]
    refine for_range (fun i σ H2 => ∃ v5 : Option V, σ = [some (.ref x), some (.int h), some (.ref lz), some (.ref a), some (.ref e), v5] ∧ Same H1 H2) ⟨_, rfl, Same.refl _⟩ ?_ ?_
    · rintro i σ H2 hi ⟨v5, rfl, s2⟩
      have e0 : (0 : Int) + (i : Int) = (i : Int) := by omega
      rw [e0]
      have s02 := s1.trans s2
      exact ⟨_, rfl, _, rfl, _, rfl, _, rfl, _, rfl, _, rfl, x, lz, a, e, ts, Ss, n, h, i, R, S, rfl, hx.same s02, n16, h2, hi, irr, rows.same s02, s02 _ _ ha, ok, s2 _ _ he, tu.same s2, full, fun H3 s3 => ⟨true, rfl, iteF ⟨_, rfl, s2.trans s3⟩⟩⟩
    · rintro σ H2 ⟨v5, rfl, s2⟩
      exact q H2 (s1.trans s2)
end
end Hue

end
section
set_option maxRecDepth 100000
set_option maxHeartbeats 4000000
namespace Hue
open PySem PySem.Spec PyProof.Rows L2
section
variable {P : Program} {w : World} {K : PySem.W.Frag} {mg : Str → Option Value} {base : Heap} {C : Addr}
/-! ### a way backwards -/
structure Trail (n h : Nat) (R : Rel) (Us : List (List Int)) (ks : List Nat) : Prop where
  len : Us.length = ks.length + 1
  ok : ∀ U ∈ Us, StOk n h U
  mv : ∀ (i : Nat) k, ks[i]? = some k → k < n ∧ ∃ U, Us[i]? = some U ∧ mayB n h R U k false true = true ∧ Us[i + 1]? = some (stepL n h R U k true)
theorem Trail.one {n h : Nat} {R : Rel} {S : List Int} (ok : StOk n h S) : Trail n h R [S] [] := ⟨rfl, fun U hU => by rw [List.mem_singleton.mp hU]; exact ok, fun i k e => by simp at e⟩
theorem Trail.add {n h : Nat} {R : Rel} {Us : List (List Int)} {ks : List Nat} {U : List Int} {k : Nat} (t : Trail n h R Us ks) (h2 : 2 ≤ h) (hU : Us[ks.length]? = some U) (hk : k < n) (may : mayB n h R U k false true = true) :
    Trail n h R (Us ++ [stepL n h R U k true]) (ks ++ [k]) := by
  have okU := t.ok U (List.mem_of_getElem? hU)
  refine ⟨by rw [List.length_append, List.length_append, t.len]; rfl, fun V hV => ?_, fun i j e => ?_⟩
  · rcases List.mem_append.mp hV with hV | hV
    · exact t.ok V hV
    · rw [List.mem_singleton.mp hV]; exact step_ok h2 okU hk may
  · have l := t.len
    rcases Nat.lt_or_ge i ks.length with lt | ge
    · rw [List.getElem?_append_left lt] at e
      obtain ⟨a, V, b, c, d⟩ := t.mv i j e
      exact ⟨a, V, by rw [List.getElem?_append_left (by omega)]; exact b, c, by rw [List.getElem?_append_left (by omega)]; exact d⟩
    · rw [List.getElem?_append_right ge] at e
      have z : i = ks.length := by
        rcases Nat.lt_or_ge ks.length i with z | z
        · rw [List.getElem?_eq_none (by rw [List.length_singleton]; omega)] at e; cases e
        · omega
      subst z
      rw [Nat.sub_self] at e
      cases e
      refine ⟨hk, U, by rw [List.getElem?_append_left (by omega)]; exact hU, may, ?_⟩
      rw [List.getElem?_append_right (by omega), l, Nat.sub_self]
      rfl
theorem Tups.last {H : Hp} {ts : List Addr} {Us : List (List Int)} {m : Nat} (tu : Tups H ts Us) (l : Us.length = m + 1) : ∃ t U, Us[m]? = some U ∧ atI (ts.map V.ref) (-1) = some (V.ref t) ∧ H t = some (.tup (stV U)) := by
  have hm : Us[m]? = some Us[m] := List.getElem?_eq_getElem (by omega)
  obtain ⟨t, ht, _, hU⟩ := tu.pick hm
  refine ⟨t, Us[m], hm, ?_, hU⟩
  have e : ts.take (m + 1) = ts.take m ++ [t] := by rw [List.take_add_one, ht]; rfl
  have e2 : ts.take (m + 1) = ts := List.take_of_length_le (by rw [tu.1, l]; exact Nat.le_refl _)
  rw [e2] at e
  have e3 : ts.map V.ref = (ts.take m).map V.ref ++ [V.ref t] := (congrArg (List.map V.ref) e).trans (List.map_append ..)
  rw [e3]
  exact atI_last _ _
theorem opt_non {H : Hp} {v : V} {n h : Nat} {R : Rel} {S : List Int} {k : Nat} {c : Bool} (o : OptAt H v (upO n h R S k c)) : (!decide (v = V.non)) = mayB n h R S k c true := by
  rcases Classical.em (mayB n h R S k c true = true) with m | m
  · rw [upO_some m] at o
    obtain ⟨t, rfl, _⟩ := o
    rw [m]; rfl
  · rw [upO_none m] at o
    cases o
    rw [Bool.eq_false_iff.mpr m]; rfl
/-- how far the walk is -/
def Wk (b : Addr) (H H2 : Hp) (sz kz : Addr) (n h : Nat) (R : Rel) (i : Nat) : Prop := SB b H H2 ∧ Box H2 b ∧ ∃ (ts : List Addr) (Us : List (List Int)) (ks : List Nat), H2 sz = some (.lst (ts.map V.ref)) ∧ Tups H2 ts Us ∧ H2 kz = some (.lst (nL ks)) ∧ Trail n h R Us ks ∧ ks.length ≤ i
theorem Wk.same {b : Addr} {H H2 H3 : Hp} {sz kz : Addr} {n h : Nat} {R : Rel} {i : Nat} (a : Wk b H H2 sz kz n h R i) (s : Same H2 H3) : Wk b H H3 sz kz n h R i := by
  obtain ⟨s2, b2, ts, Us, ks, e1, e2, e3, e4, e5⟩ := a
  exact ⟨s2.trans (SB.of s), b2.same s, ts, Us, ks, s _ _ e1, e2.same s, s _ _ e3, e4, e5⟩
theorem Wk.sb {b : Addr} {H H2 H3 : Hp} {sz kz : Addr} {n h : Nat} {R : Rel} {i : Nat} (a : Wk b H H2 sz kz n h R i) (ns : sz ≠ b) (nk : kz ≠ b) (s : SB b H2 H3) (b3 : Box H3 b) : Wk b H H3 sz kz n h R i := by
  obtain ⟨s2, b2, ts, Us, ks, e1, e2, e3, e4, e5⟩ := a
  obtain ⟨xs, hx⟩ := b2.at
  exact ⟨s2.trans s, b3, ts, Us, ks, s _ _ ns e1, e2.sb hx s, s _ _ nk e3, e4, e5⟩
abbrev s__law_walk : Stmt := top 54
theorem sc__law_walk : FnScope ["box", "house", "hues", "below", "state", "states", "lamps", "turn", "gentle", "ready", "lamp", "told", "step", "place"] ["box", "house", "hues", "below", "state"] (defScope s__law_walk) := ⟨rfl, rfl, rfl, by decide +kernel, rfl, by decide +kernel, by decide +kernel⟩
-- slots of _law_walk: 0 box, 1 house, 2 hues, 3 below, 4 state, 5 states, 6 lamps, 7 turn, 8 gentle, 9 ready, 10 lamp, 11 told, 12 step, 13 place
def spWalk (C : Addr) : Sp := fun vs H Q _ => ∃ (b x lz a : Addr) (n h : Nat) (R : Rel) (S : List Int), vs = [.ref b, .ref x, .int h, .ref lz, .ref a] ∧ Box H b ∧ n ≤ 16 ∧ 2 ≤ h ∧ h ≤ 10 ∧ Irr R ∧ StOk n h S ∧ Wld C b H x lz a n h R S ∧ ∀ H', SB b H H' → Box H' b → Q (.bl true) H'
theorem ok__law_walk (T : Txt K mg C) {f : Addr} {fd : FuncData} (F : Fun K "_law_walk" "_law_walk" s__law_walk f fd) (c__law_take : Cal P w K mg base "_law_take" 2 spTake) (c__law_back : Cal P w K mg base "_law_back" 1 spBack) (c_before : KwCal P w K mg base "before" 8 3 "careful" (spBefore C)) (c__law_same : Cal P w K mg base "_law_same" 1 spSame)
    (c_after : KwCal P w K mg base "after" 8 3 "careful" (spAfter C)) (c__law_holds : Cal P w K mg base "_law_holds" 10 (spHolds C)) : FnOk P w K mg base CX0 11 f fd ["box", "house", "hues", "below", "state"] (spWalk C) := by
  refine F.ok sc__law_walk (fun vs H Q E h => ?_) (fun cdv A outer s H vs Q E hr h => ?_)
  · obtain ⟨b, x, lz, a, n, h, R, S, rfl, _⟩ := h; rfl
  · obtain ⟨b, x, lz, a, n, h, R, S, rfl, hb, n16, h2, h10, irr, ok, wld, q⟩ := h
    refine ⟨_, (pss_cons (ps_set (i := 5) sc__law_walk.nd rfl (by first | exact Or.inl rfl | exact Or.inr rfl) (pe_lst (pa_cons (pv 4) pa_nil)))
      (pss_cons (ps_set (i := 6) sc__law_walk.nd rfl (by first | exact Or.inl rfl | exact Or.inr rfl) (pe_lst pa_nil))
      (C8.pss_cut (ps_for PassesOwn.never rfl (pi_range1 (by rfl) T.range (pa_cons (pe_cal c__law_take (hr.mono (by decide)) (pa_cons (pv 0) (pa_cons pe_int pa_nil))) pa_nil)) (pg_name (i := 7) sc__law_walk.nd rfl (by first | exact Or.inl rfl | exact Or.inr rfl))
      (pss_cons (ps_set (i := 8) sc__law_walk.nd rfl (by first | exact Or.inl rfl | exact Or.inr rfl) (pe_cmpR op_eq (pe_cal c__law_take (hr.mono (by decide)) (pa_cons (pv 0) (pa_cons pe_int pa_nil))) pe_int (nomark _)))
      (pss_cons (ps_set (i := 9) sc__law_walk.nd rfl (by first | exact Or.inl rfl | exact Or.inr rfl) (pe_lst pa_nil))
      (pss_cons (ps_for PassesOwn.never rfl (pi_range1 (by rfl) T.range (pa_cons (pe_callB (lenS_ K) (by rfl) T.len b_len (pa_cons (pv 4) pa_nil)) pa_nil)) (pg_name (i := 10) sc__law_walk.nd rfl (by first | exact Or.inl rfl | exact Or.inr rfl))
      (pss_one (ps_if (pt_cmpR op_notN (pe_cal c__law_back (hr.mono (by decide)) (pa_cons (pv 2) (pa_cons (pv 3) (pa_cons (pe_ix (ixL_ K) (pv 5) (pe_un un_neg pe_int) (fun _ _ => rfl)) (pa_cons (pv 10) (pa_cons (pv 8) pa_nil)))))) pe_non (nomark _))
      (pss_one (ps_expr (pe_bm PySem.F.plainAttrs_list PySem.F.slot_list_append PySem.F.type_list_append mt_append (pv 9) (pa_cons (pv 10) pa_nil)))) pss_nil)))
      (C8.pss_cut (ps_if (pt_cmpR (hu_eqD K hr.units) (pv 9) (pe_lst pa_nil) (nomark _))
      (pss_cons (ps_set (i := 8) sc__law_walk.nd rfl (by first | exact Or.inl rfl | exact Or.inr rfl) pe_bl)
      (pss_one (ps_setLc (i := 9) (own := [("lamp", 10)]) (g := gName 10) rfl sc__law_walk.nd rfl rfl (sw_true rfl rfl rfl (by kernel_rfl)) (pi_range1 (by rfl) T.range (pa_cons (pe_callB (lenS_ K) (by rfl) T.len b_len (pa_cons (pv 4) pa_nil)) pa_nil)) (blkOk_by (by kernel_rfl)) (fun _ _ _ _ _ => (pg_name (i := 10) sc__law_walk.nd rfl (by first | exact Or.inl rfl | exact Or.inr rfl))) (fun _ _ _ _ _ => (pts_one (pt_cmpR op_lt (pe_ix (ixT_ K) (pe_ix (ixL_ K) (pv 5) (pe_un un_neg pe_int) (fun _ _ => rfl)) (pv 10) (fun _ _ => rfl)) (pe_op op_sub (pv 2) pe_int) (nomark _)))) (fun _ _ _ _ _ => (pv 10))))) pss_nil)
      (C8.pss_cut (ps_if (pt_cmpR (hu_eqD K hr.units) (pv 9) (pe_lst pa_nil) (nomark _))
      (pss_one ps_break) pss_nil)
      (pss_cons (ps_set (i := 10) sc__law_walk.nd rfl (by first | exact Or.inl rfl | exact Or.inr rfl) (pe_ix (ixL_ K) (pv 9) (pe_cal c__law_take (hr.mono (by decide)) (pa_cons (pv 0) (pa_cons (pe_callB (lenS_ K) (by rfl) T.len b_len (pa_cons (pv 9) pa_nil)) pa_nil))) (fun _ _ => rfl)))
      (pss_cons (ps_set (i := 11) sc__law_walk.nd rfl (by first | exact Or.inl rfl | exact Or.inr rfl) (pe_kw1 c_before (hr.mono (by decide)) (pa_cons (pv 1) (pa_cons (pe_ix (ixL_ K) (pv 5) (pe_un un_neg pe_int) (fun _ _ => rfl)) (pa_cons (pv 10) pa_nil))) (pk_cons (pv 8) pk_nil)))
      (pss_cons (ps_if (pt_not (pt_val (pe_cal c__law_same (hr.mono (by decide)) (pa_cons (pv 11) (pa_cons (pe_cal c__law_back (hr.mono (by decide)) (pa_cons (pv 2) (pa_cons (pv 3) (pa_cons (pe_ix (ixL_ K) (pv 5) (pe_un un_neg pe_int) (fun _ _ => rfl)) (pa_cons (pv 10) (pa_cons (pv 8) pa_nil)))))) pa_nil)))))
      (pss_one (ps_ret pe_bl)) pss_nil)
      (pss_cons (ps_expr (pe_bm PySem.F.plainAttrs_list PySem.F.slot_list_append PySem.F.type_list_append mt_append (pv 5) (pa_cons (pv 11) pa_nil)))
      (pss_one (ps_expr (pe_bm PySem.F.plainAttrs_list PySem.F.slot_list_append PySem.F.type_list_append mt_append (pv 6) (pa_cons (pv 10) pa_nil))))))))))))))
      (pss_cons (ps_for PassesOwn.never rfl (pi_range1 (by rfl) T.range (pa_cons (pe_callB (lenS_ K) (by rfl) T.len b_len (pa_cons (pv 6) pa_nil)) pa_nil)) (pg_name (i := 12) sc__law_walk.nd rfl (by first | exact Or.inl rfl | exact Or.inr rfl))
      (pss_cons (ps_set (i := 13) sc__law_walk.nd rfl (by first | exact Or.inl rfl | exact Or.inr rfl) (pe_op op_sub (pe_callB (lenS_ K) (by rfl) T.len b_len (pa_cons (pv 6) pa_nil)) (pv 12)))
      (pss_one (ps_if (pt_not (pt_val (pe_cal c__law_same (hr.mono (by decide)) (pa_cons (pe_kw0 c_after (hr.mono (by decide)) (pa_cons (pv 1) (pa_cons (pe_ix (ixL_ K) (pv 5) (pv 13) (fun _ _ => rfl)) (pa_cons (pe_ix (ixL_ K) (pv 6) (pe_op op_sub (pv 13) pe_int) (fun _ _ => rfl)) pa_nil)))) (pa_cons (pe_ix (ixL_ K) (pv 5) (pe_op op_sub (pv 13) pe_int) (fun _ _ => rfl)) pa_nil)))))
      (pss_one (ps_ret pe_bl)) pss_nil))))
      (pss_one (ps_ret (pe_cal c__law_holds (hr.mono (by decide)) (pa_cons (pv 1) (pa_cons (pv 2) (pa_cons (pv 3) (pa_cons (pe_ix (ixL_ K) (pv 5) (pe_un un_neg pe_int) (fun _ _ => rfl)) pa_nil))))))))))), ?_⟩
    obtain ⟨hx0, rows0, ha0⟩ := wld.get
    have lenS : (stV S).length = n := by rw [List.length_map, ok.1]
    refine ⟨_, rfl, by show 1 ≤ sizeLine; decide, fun sz nsz => ?_⟩
    have s1 : Same H (upd H sz (.lst [.ref a])) := same_new nsz
    have nsb : sz ≠ b := hb.new nsz
    have hs1 : (upd H sz (.lst [.ref a])) sz = some (.lst (([a] : List Addr).map V.ref)) := upd_same
    have hs0 : H sz = Option.none := nsz
    generalize upd H sz (.lst [.ref a]) = H1 at s1 hs1 ⊢
    refine ⟨by decide, fun kz nkz => ?_⟩
    have nkb : kz ≠ b := (hb.same s1).new nkz
    have nks : kz ≠ sz := (ne_of_none hs1 nkz).symm
    have hk0 : H kz = Option.none := s1.free nkz
    have s2 : Same H1 (upd H1 kz (.lst [])) := same_new nkz
    have hk2 : (upd H1 kz (.lst [])) kz = some (.lst (nL [])) := upd_same
    generalize upd H1 kz (.lst []) = H2 at s2 hk2 ⊢
    have s02 := s1.trans s2
    have wk2 : Wk b H H2 sz kz n h R 0 := ⟨SB.of s02, hb.same s02, [a], [S], [], s2 _ _ hs1, (Tups.nil H2).add (s02 _ _ ha0), hk2, Trail.one ok, Nat.le_refl 0⟩
    refine ⟨fun σ H' => ∃ v7 v8 v9 v10 v11 v12 v13 : Option V, σ = [some (.ref b), some (.ref x), some (.int h), some (.ref lz), some (.ref a), some (.ref sz), some (.ref kz), v7, v8, v9, v10, v11, v12, v13] ∧ Wk b H H' sz kz n h R 12, ?_, ?_⟩
    · refine ⟨_, rfl, b, 12, rfl, by decide, by decide, wk2.2.1, fun d H3 hd s3 b3 => ⟨_, rfl, by omega, by omega, ?_⟩⟩
      rw [Int.toNat_natCast]
      refine for_range (fun i σ H3 => ∃ v7 v8 v9 v10 v11 v12 v13 : Option V, σ = [some (.ref b), some (.ref x), some (.int h), some (.ref lz), some (.ref a), some (.ref sz), some (.ref kz), v7, v8, v9, v10, v11, v12, v13] ∧ Wk b H H3 sz kz n h R i)
        ⟨_, _, _, _, _, _, _, rfl, wk2.sb nsb nkb s3 b3⟩ ?_ ?_
      · rintro i σ H3 hi ⟨v7, v8, v9, v10, v11, v12, v13, rfl, wk3⟩
        refine ⟨_, rfl, b, 2, rfl, by decide, by decide, wk3.2.1, fun d2 H4 hd2 s4 b4 => ⟨rfl, ?_⟩⟩
        have wk4 := wk3.sb nsb nkb s4 b4
        generalize decide (V.int (d2 : Int) = V.int 1) = g
        obtain ⟨sb4, _, ts, Us, ks, hs4, tu4, hk4, tr, few⟩ := id wk4
        obtain ⟨tl, U, hU, hl, htl4⟩ := tu4.last tr.len
        have okU := tr.ok U (List.mem_of_getElem? hU)
        obtain ⟨hx4, rows4, ha4⟩ := (wld.sb sb4).get
        refine ⟨by decide, fun rz nrz => ?_⟩
        have s5 : Same H4 (upd H4 rz (.lst [])) := same_new nrz
        have hr5 : (upd H4 rz (.lst [])) rz = some (.lst (nL [])) := upd_same
        generalize upd H4 rz (.lst []) = H5 at s5 hr5 ⊢
        refine ⟨_, rfl, a, _, rfl, .inr (SqT.of (s5 _ _ ha4)), _, rfl, by rw [lenS]; omega, by rw [lenS]; omega, ?_⟩
        rw [lenS, Int.toNat_natCast]
        refine for_range (fun j σ H6 => ∃ v7 v10 : Option V, σ = [some (.ref b), some (.ref x), some (.int h), some (.ref lz), some (.ref a), some (.ref sz), some (.ref kz), v7, some (.bl g), some (.ref rz), v10, v11, v12, v13] ∧ Same H4 H6 ∧ H6 rz = some (.lst (nL ((List.range j).filter fun k => mayB n h R U k g true))))
          ⟨_, _, rfl, s5, hr5⟩ ?_ ?_
        · rintro j σ H6 hj ⟨v7, v10, rfl, s6, hr6⟩
          have e0 : (0 : Int) + (j : Int) = (j : Int) := by omega
          rw [e0]
          have few6 := filter_few (fun k => mayB n h R U k g true) j
          refine ⟨_, rfl, _, rfl, _, rfl, _, rfl, sz, _, _, _, rfl, rfl, SqL.of (s6 _ _ hs4), hl, _, rfl, _, rfl, lz, tl, n, h, j, R, U, g, rfl, n16, h2, hj, irr, rows4.same s6, s6 _ _ htl4, okU, fun v H7 s7 hv => ⟨rfl, _, rfl, ?_⟩⟩
          rw [opt_non hv]
          have hr7 := s7 _ _ hr6
          refine ite2 (fun hy => ?_) (fun hn => ?_)
          · refine ⟨_, rfl, .inl ⟨rfl, _, SqL.of hr7⟩, _, rfl, rz, _, _, rfl, rfl, hr7, by rw [nL_len, sizeLine_eq]; omega, _, _, rfl, same_upd (s6.trans s7) nrz, ?_⟩
            rw [upd_same, filter_more, if_pos hy, nL_app]; rfl
          · refine ⟨_, _, rfl, s6.trans s7, ?_⟩
            rw [hr7, filter_more, if_neg hn, List.append_nil]
        · rintro σ H6 ⟨v7, v10, rfl, s6, hr6⟩
          have few6 := filter_few (fun k => mayB n h R U k g true) n
          have mem6 : ∀ k ∈ (List.range n).filter fun k => mayB n h R U k g true, k < n ∧ mayB n h R U k g true = true := fun k hk => ⟨List.mem_range.mp (List.mem_filter.mp hk).1, (List.mem_filter.mp hk).2⟩
          refine ⟨fun σ H7 => ∃ (g' : Bool) (rz' : Addr) (rl : List Nat) (v10 : Option V), σ = [some (.ref b), some (.ref x), some (.int h), some (.ref lz), some (.ref a), some (.ref sz), some (.ref kz), v7, some (.bl g'), some (.ref rz'), v10, v11, v12, v13] ∧ Same H4 H7 ∧ H4 rz' = Option.none ∧ H7 rz' = some (.lst (nL rl)) ∧ rl.length ≤ n ∧ ∀ k ∈ rl, k < n ∧ mayB n h R U k g' true = true, ?_, ?_⟩
          · refine ⟨_, rfl, by decide, fun e ne => ?_⟩
            have s7 : Same H6 (upd H6 e (.lst [])) := same_new ne
            have he : (upd H6 e (.lst [])) e = some (.lst (nL [])) := upd_same
            have hr7 := s7 _ _ hr6
            generalize upd H6 e (.lst []) = H7 at s7 he hr7 ⊢
            refine ⟨liD _, liD [], li_dp hr7, li_dp he, li_shaped _, li_shaped _, _, rfl, ?_⟩
            rw [li_eqv]
            have s47 := s6.trans s7
            refine ite2 (fun _ => ?_) (fun _ => ⟨g, rz, _, _, rfl, s47, nrz, hr7, few6, mem6⟩)
            refine ⟨_, rfl, a, _, rfl, .inr (SqT.of (s47 _ _ ha4)), _, rfl, by rw [lenS]; omega, by rw [lenS]; omega, fun D hD => ?_⟩
            rw [lenS, Int.toNat_natCast]
            have eqm : ∀ k, k < n → (decide (at_ U k < (h : Int) - 1) = mayB n h R U k false true) := fun k hk => by
              rw [Bool.eq_iff_iff, decide_eq_true_eq, may_iff, last_up]
              have := (okU.at hk).2
              exact ⟨fun z => ⟨by omega, fun y => absurd y Bool.false_ne_true⟩, fun z => by have := z.1; omega⟩
            refine lc_range (fun j H8 => H8 D = some (.lst (nL ((List.range j).filter fun k => mayB n h R U k false true))) ∧ Same H7 H8) ⟨upd_same, same_new hD⟩ ?_ ?_
            · rintro j H8 hj ⟨h8, s8⟩
              have e0 : (0 : Int) + (j : Int) = (j : Int) := by omega
              rw [e0]
              have kU := stV_get (S := U) (k := j) (by rw [okU.1]; exact hj)
              have few8 := filter_few (fun k => mayB n h R U k false true) j
              have s48 := s47.trans s8
              refine ⟨rfl, _, rfl, _, rfl, sz, _, _, _, rfl, rfl, SqL.of (s48 _ _ hs4), hl, _, rfl, tl, _, _, _, rfl, rfl, SqT.of (s48 _ _ htl4), atI_nat kU, _, rfl, _, _, rfl, rfl, _, _, rfl, rfl, _, rfl, ?_⟩
              show if decide (at_ U j < (h : Int) - 1) = true then _ else _
              rw [eqm j hj]
              refine ite2 (fun hy => ?_) (fun hn => ?_)
              · refine ⟨_, rfl, _, h8, by rw [nL_len, sizeLine_eq]; omega, ?_, same_upd s8 hD⟩
                rw [upd_same, filter_more, if_pos hy, nL_app]; rfl
              · refine ⟨?_, s8⟩
                rw [h8, filter_more, if_neg hn, List.append_nil]
            · rintro H8 ⟨h8, s8⟩
              exact ⟨false, D, _, _, rfl, s47.trans s8, s47.free hD, h8, filter_few _ n, fun k hk => ⟨List.mem_range.mp (List.mem_filter.mp hk).1, (List.mem_filter.mp hk).2⟩⟩
          rintro σ H7 ⟨g', rz', rl, v10, rfl, s7, nr', hr7, fewr, memr⟩
          have wk7 := wk4.same s7
          refine ⟨fun σ H8 => σ = [some (.ref b), some (.ref x), some (.int h), some (.ref lz), some (.ref a), some (.ref sz), some (.ref kz), v7, some (.bl g'), some (.ref rz'), v10, v11, v12, v13] ∧ Same H7 H8 ∧ rl ≠ [], ?_, ?_⟩
          · refine ⟨_, rfl, by decide, fun e ne => ?_⟩
            have s8 : Same H7 (upd H7 e (.lst [])) := same_new ne
            have he : (upd H7 e (.lst [])) e = some (.lst (nL [])) := upd_same
            have hr8 := s8 _ _ hr7
            generalize upd H7 e (.lst []) = H8 at s8 he hr8 ⊢
            refine ⟨liD _, liD [], li_dp hr8, li_dp he, li_shaped _, li_shaped _, _, rfl, ?_⟩
            rw [li_eqv]
            refine ite2 (fun _ => ?_) (fun hne => ⟨rfl, s8, fun z => hne (decide_eq_true z)⟩)
            obtain ⟨a1, a2, ts', Us', ks', c1, c2, c3, c4, c5⟩ := wk7.same s8
            exact ⟨_, _, _, _, _, _, _, rfl, a1, a2, ts', Us', ks', c1, c2, c3, c4, by omega⟩
          rintro σ H8 ⟨rfl, s8, rne⟩
          have s48 := s7.trans s8
          have wk8 := wk4.same s48
          have hr8 := s8 _ _ hr7
          have pos : 1 ≤ rl.length := List.length_pos_iff.mpr rne
          have nrb : rz' ≠ b := b4.new nr'
          refine ⟨_, rfl, _, rfl, _, rfl, rz', _, rfl, .inl (SqL.of hr8), b, rl.length, by rw [nL_len], pos, by omega, wk8.2.1, fun d3 H9 hd3 s9 b9 => ?_⟩
          obtain ⟨k, hk⟩ : ∃ k, rl[d3]? = some k := ⟨_, List.getElem?_eq_getElem hd3⟩
          obtain ⟨kn, may⟩ := memr k (List.mem_of_getElem? hk)
          refine ⟨rz', _, _, _, rfl, rfl, SqL.of (s9 _ _ nrb hr8), atI_nat (nL_get hk), ?_⟩
          have wk9 := wk8.sb nsb nkb s9 b9
          have hs9 := s9 _ _ nsb (s48 _ _ hs4)
          have hk9 := s9 _ _ nkb (s48 _ _ hk4)
          have htl9 := s9 _ _ ((b4.same s48).neT (s48 _ _ htl4)) (s48 _ _ htl4)
          obtain ⟨xs9, hbx⟩ := (b4.same s48).at
          have tu9 := (tu4.same s48).sb hbx s9
          have sb9 := wk9.1
          obtain ⟨hx9, rows9, ha9⟩ := (wld.sb sb9).get
          refine ⟨_, rfl, _, rfl, _, rfl, sz, _, _, _, rfl, rfl, SqL.of hs9, hl, _, rfl, _, rfl, rfl, rfl, x, tl, n, h, k, R, U, g', rfl, hx9, n16, h2, kn, irr, htl9, okU, fun v H10 s10 hv => ?_⟩
          rw [upO_some may] at hv
          obtain ⟨tn, rfl, htn⟩ := hv
          refine ⟨_, rfl, _, rfl, _, rfl, _, rfl, _, rfl, sz, _, _, _, rfl, rfl, SqL.of (s10 _ _ hs9), hl, _, rfl, _, rfl, lz, tl, n, h, k, R, U, g', rfl, n16, h2, kn, irr, rows9.same s10, s10 _ _ htl9, okU, fun v H11 s11 hv => ?_⟩
          rw [upO_some may] at hv
          obtain ⟨t2, rfl, ht2⟩ := hv
          refine ⟨tn, t2, _, rfl, by rw [stepL_len]; exact n16, s11 _ _ htn, ht2, true, rfl, iteF ?_⟩
          have s911 := s10.trans s11
          have hs11 := s911 _ _ hs9
          have hk11 := s911 _ _ hk9
          have tu11 := (tu9.same s911).add (s11 _ _ htn)
          have lts : ts.length ≤ 20 := by rw [tu4.1, tr.len]; omega
          refine ⟨_, rfl, .inl ⟨rfl, _, SqL.of hs11⟩, _, rfl, sz, _, _, rfl, rfl, hs11, by rw [List.length_map, sizeLine_eq]; omega, ?_⟩
          have hs12 : (upd H11 sz (.lst (ts.map V.ref ++ [V.ref tn]))) sz = some (.lst ((ts ++ [tn]).map V.ref)) := by rw [upd_same, List.map_append]; rfl
          have hk12 : (upd H11 sz (.lst (ts.map V.ref ++ [V.ref tn]))) kz = some (.lst (nL ks)) := by rw [upd_ne nks]; exact hk11
          have tu12 := Tups.upd (o := .lst (ts.map V.ref ++ [V.ref tn])) tu11 hs11
          have sb12 : SB b H (upd H11 sz (.lst (ts.map V.ref ++ [V.ref tn]))) := fun c o nc e => by
            rw [upd_ne (ne_of_none e hs0)]
            exact s911 _ _ (sb9 c o nc e)
          have b12 : Box (upd H11 sz (.lst (ts.map V.ref ++ [V.ref tn]))) b := (b9.same s911).upd nsb
          generalize upd H11 sz (.lst (ts.map V.ref ++ [V.ref tn])) = H12 at hs12 hk12 tu12 sb12 b12 ⊢
          refine ⟨_, rfl, .inl ⟨rfl, _, SqL.of hk12⟩, _, rfl, kz, _, _, rfl, rfl, hk12, by rw [nL_len, sizeLine_eq]; omega, ?_⟩
          refine ⟨_, _, _, _, _, _, _, rfl, fun c o nc e => ?_, b12.upd nkb, ts ++ [tn], Us ++ [stepL n h R U k true], ks ++ [k], by rw [upd_ne nks.symm]; exact hs12, Tups.upd tu12 hk12, by rw [upd_same, nL_app]; rfl, tr.add h2 hU kn (may_iff.mpr ⟨(may_iff.mp may).1, fun z => absurd z Bool.false_ne_true⟩), by rw [List.length_append]; show ks.length + 1 ≤ i + 1; omega⟩
          rw [upd_ne (ne_of_none e hk0)]
          exact sb12 c o nc e
      · rintro σ H3 ⟨v7, v8, v9, v10, v11, v12, v13, rfl, a1, a2, ts', Us', ks', c1, c2, c3, c4, c5⟩
        exact ⟨_, _, _, _, _, _, _, rfl, a1, a2, ts', Us', ks', c1, c2, c3, c4, by omega⟩
    rintro σ H3 ⟨v7, v8, v9, v10, v11, v12, v13, rfl, sb3, b3, ts, Us, ks, hs3, tu3, hk3, tr, few⟩
    refine ⟨_, rfl, kz, _, rfl, .inl (SqL.of hk3), _, rfl, by rw [nL_len]; omega, by rw [nL_len]; omega, ?_⟩
    rw [nL_len, Int.toNat_natCast]
    obtain ⟨hx3, rows3, ha3⟩ := (wld.sb sb3).get
    refine for_range (fun i σ H4 => ∃ v12 v13 : Option V, σ = [some (.ref b), some (.ref x), some (.int h), some (.ref lz), some (.ref a), some (.ref sz), some (.ref kz), v7, v8, v9, v10, v11, v12, v13] ∧ Same H3 H4) ⟨_, _, rfl, Same.refl _⟩ ?_ ?_
    · rintro i σ H4 hi ⟨v12, v13, rfl, s4⟩
      have ep : ((nL ks).length : Int) - (0 + (i : Int)) = ((ks.length - i : Nat) : Int) := by rw [nL_len]; omega
      refine ⟨_, rfl, kz, _, rfl, .inl (SqL.of (s4 _ _ hk3)), _, rfl, _, _, rfl, rfl, ?_⟩
      show gName 13 (V.int (((nL ks).length : Int) - (0 + (i : Int)))) _ _ _
      rw [ep]
      have ep1 : ((ks.length - i : Nat) : Int) - 1 = ((ks.length - i - 1 : Nat) : Int) := by omega
      obtain ⟨k, hk⟩ : ∃ k, ks[ks.length - i - 1]? = some k := ⟨_, List.getElem?_eq_getElem (by omega)⟩
      obtain ⟨kn, U, hU, may, hV⟩ := tr.mv _ k hk
      rw [show ks.length - i - 1 + 1 = ks.length - i by omega] at hV
      obtain ⟨tU, _, eU, htU⟩ := tu3.pick hU
      obtain ⟨tV, _, eV, htV⟩ := tu3.pick hV
      have okU := tr.ok U (List.mem_of_getElem? hU)
      have okV := step_ok h2 okU kn may
      obtain ⟨can, eS⟩ := (pred_iff (c := false) h2 irr okU okV kn).mpr ⟨may, rfl⟩
      refine ⟨_, rfl, _, rfl, _, rfl, sz, _, _, _, rfl, rfl, SqL.of (s4 _ _ hs3), atI_nat eV, _, rfl, _, rfl, _, _, rfl, rfl, kz, _, _, _, rfl, rfl, SqL.of (s4 _ _ hk3), by rw [ep1]; exact atI_nat (nL_get hk), x, tV, n, h, k, R, _, false, rfl, hx3.same s4, n16, h2, kn, irr, s4 _ _ htV, okV, can, fun t5 H5 s5 ht5 => ?_⟩
      rw [eS] at ht5
      have s35 := s4.trans s5
      refine ⟨_, rfl, _, rfl, _, _, rfl, rfl, sz, _, _, _, rfl, rfl, SqL.of (s35 _ _ hs3), by rw [ep1]; exact atI_nat eU, t5, tU, U, rfl, by rw [okU.1]; exact n16, ht5, s35 _ _ htU, true, rfl, iteF ⟨_, _, rfl, s35⟩⟩
    · rintro σ H4 ⟨v12, v13, rfl, s4⟩
      obtain ⟨tl, U, hU, hl, htl⟩ := tu3.last tr.len
      have okU := tr.ok U (List.mem_of_getElem? hU)
      exact ⟨_, rfl, _, rfl, _, rfl, _, rfl, _, rfl, sz, _, _, _, rfl, rfl, SqL.of (s4 _ _ hs3), hl, x, lz, tl, n, h, R, U, rfl, hx3.same s4, n16, h2, h10, irr, rows3.same s4, s4 _ _ htl, okU, fun H' s' => q H' (sb3.trans (SB.of (s4.trans s'))) (b3.same (s4.trans s'))⟩
abbrev s_law : Stmt := top 55
theorem sc_law : FnScope ["script", "box", "plan", "house", "hues", "below", "state", "other", "other_hues", "other_below", "other_state"] ["script"] (defScope s_law) := ⟨rfl, rfl, rfl, by decide +kernel, rfl, by decide +kernel, by decide +kernel⟩
-- slots of law: 0 script, 1 box, 2 plan, 3 house, 4 hues, 5 below, 6 state, 7 other, 8 other_hues, 9 other_below, 10 other_state
def spLaw (K : PySem.W.Frag) : Sp := fun vs H Q _ => ∃ (a : Addr) (ns : List Int), vs = [.ref a] ∧ SqL K H a (ns.map V.int) ∧ ns.length ≤ 63 ∧ ∀ H', Q (.bl true) H'
theorem ok_law (T : Txt K mg C) {f : Addr} {fd : FuncData} (F : Fun K "law" "law" s_law f fd) (c__law_box : Cal P w K mg base "_law_box" 1 (spBox K)) (c__law_plan : Cal P w K mg base "_law_plan" 4 spPlan) (c__law_world : Cal P w K mg base "_law_world" 8 (spWorld C))
    (c__law_second : Cal P w K mg base "_law_second" 5 spSecond) (c__law_ready : Cal P w K mg base "_law_ready" 3 (spReady C)) (c__law_holds : Cal P w K mg base "_law_holds" 10 (spHolds C)) (c__law_walk : Cal P w K mg base "_law_walk" 11 (spWalk C)) : FnOk P w K mg base CX0 12 f fd ["script"] (spLaw K) := by
  refine F.ok sc_law (fun vs H Q E h => ?_) (fun cdv A outer s H vs Q E hr h => ?_)
  · obtain ⟨a, ns, rfl, _⟩ := h; rfl
  · obtain ⟨a, ns, rfl, ha, few, q⟩ := h
    refine ⟨_, (pss_cons (ps_set (i := 1) sc_law.nd rfl (by first | exact Or.inl rfl | exact Or.inr rfl) (pe_cal c__law_box (hr.mono (by decide)) (pa_cons (pv 0) pa_nil)))
      (pss_cons (ps_set (i := 2) sc_law.nd rfl (by first | exact Or.inl rfl | exact Or.inr rfl) (pe_cal c__law_plan (hr.mono (by decide)) (pa_cons (pv 1) pa_nil)))
      (pss_cons (ps_asg (pe_cal c__law_world (hr.mono (by decide)) (pa_cons (pv 1) (pa_cons (pv 2) pa_nil))) (pg_tup (by rfl) (pgs_cons (pg_name (i := 3) sc_law.nd rfl (by first | exact Or.inl rfl | exact Or.inr rfl)) (pgs_cons (pg_name (i := 4) sc_law.nd rfl (by first | exact Or.inl rfl | exact Or.inr rfl)) (pgs_cons (pg_name (i := 5) sc_law.nd rfl (by first | exact Or.inl rfl | exact Or.inr rfl)) (pgs_cons (pg_name (i := 6) sc_law.nd rfl (by first | exact Or.inl rfl | exact Or.inr rfl)) pgs_nil))))))
      (pss_cons (ps_asg (pe_cal c__law_world (hr.mono (by decide)) (pa_cons (pv 1) (pa_cons (pe_cal c__law_second (hr.mono (by decide)) (pa_cons (pv 1) (pa_cons (pv 2) pa_nil))) pa_nil))) (pg_tup (by rfl) (pgs_cons (pg_name (i := 7) sc_law.nd rfl (by first | exact Or.inl rfl | exact Or.inr rfl)) (pgs_cons (pg_name (i := 8) sc_law.nd rfl (by first | exact Or.inl rfl | exact Or.inr rfl)) (pgs_cons (pg_name (i := 9) sc_law.nd rfl (by first | exact Or.inl rfl | exact Or.inr rfl)) (pgs_cons (pg_name (i := 10) sc_law.nd rfl (by first | exact Or.inl rfl | exact Or.inr rfl)) pgs_nil))))))
      (pss_cons (ps_set (i := 6) sc_law.nd rfl (by first | exact Or.inl rfl | exact Or.inr rfl) (pe_cal c__law_ready (hr.mono (by decide)) (pa_cons (pv 1) (pa_cons (pv 4) (pa_cons (pv 5) (pa_cons (pv 6) pa_nil))))))
      (pss_cons (ps_set (i := 10) sc_law.nd rfl (by first | exact Or.inl rfl | exact Or.inr rfl) (pe_cal c__law_ready (hr.mono (by decide)) (pa_cons (pv 1) (pa_cons (pv 8) (pa_cons (pv 9) (pa_cons (pv 10) pa_nil))))))
      (pss_cons (ps_if (pt_not (pt_val (pe_cal c__law_holds (hr.mono (by decide)) (pa_cons (pv 3) (pa_cons (pv 4) (pa_cons (pv 5) (pa_cons (pv 6) pa_nil)))))))
      (pss_one (ps_ret pe_bl)) pss_nil)
      (pss_cons (ps_if (pt_not (pt_val (pe_cal c__law_holds (hr.mono (by decide)) (pa_cons (pv 7) (pa_cons (pv 8) (pa_cons (pv 9) (pa_cons (pv 10) pa_nil)))))))
      (pss_one (ps_ret pe_bl)) pss_nil)
      (pss_cons (ps_if (pt_not (pt_val (pe_cal c__law_walk (hr.mono (by decide)) (pa_cons (pv 1) (pa_cons (pv 3) (pa_cons (pv 4) (pa_cons (pv 5) (pa_cons (pv 6) pa_nil))))))))
      (pss_one (ps_ret pe_bl)) pss_nil)
      (pss_cons (ps_if (pt_not (pt_val (pe_cal c__law_walk (hr.mono (by decide)) (pa_cons (pv 1) (pa_cons (pv 7) (pa_cons (pv 8) (pa_cons (pv 9) (pa_cons (pv 10) pa_nil))))))))
      (pss_one (ps_ret pe_bl)) pss_nil)
      (pss_one (ps_ret (pe_cal c__law_holds (hr.mono (by decide)) (pa_cons (pv 3) (pa_cons (pv 4) (pa_cons (pv 5) (pa_cons (pv 6) pa_nil))))))))))))))))), ?_⟩
    refine ⟨_, rfl, a, ns, rfl, ha, few, fun H1 b s1 nb b1 => ?_⟩
    refine ⟨_, rfl, b, rfl, b1, fun n h line ps S t H2 pok s2 b2 pat2 => ?_⟩
    refine ⟨_, rfl, _, rfl, b, t, n, h, line, ps, S, rfl, b2, pok, pat2, fun x lz st tw H3 w3 s3 b3 htw => ?_⟩
    refine ⟨tw, _, rfl, SqT.of htw, rfl, _, _, rfl, _, _, rfl, _, _, rfl, _, _, rfl, rfl, ?_⟩
    have pat3 := pat2.sb b2 s3
    refine ⟨_, rfl, _, rfl, _, rfl, b, t, n, h, line, ps, S, rfl, b3, pok, pat3, fun n' h' line' ps' S' t' H4 pok' s4 b4 pat4 => ?_⟩
    refine ⟨b, t', n', h', line', ps', S', rfl, b4, pok', pat4, fun x' lz' st' tw' H5 w5 s5 b5 htw' => ?_⟩
    refine ⟨tw', _, rfl, SqT.of htw', rfl, _, _, rfl, _, _, rfl, _, _, rfl, _, _, rfl, rfl, ?_⟩
    have irr := pok.ranked.irr
    have irr' := pok'.ranked.irr
    have v5 := (w3.sb s4).sb s5
    refine ⟨_, rfl, _, rfl, _, rfl, _, rfl, b, x, lz, st, n, h, relOf ps, S, rfl, b5, pok.n1, pok.n16, pok.h2, pok.h10, pok.ok, v5, fun sa U H6 okU s6 b6 v6 => ?_⟩
    refine ⟨_, rfl, _, rfl, _, rfl, _, rfl, b, x', lz', st', n', h', relOf ps', S', rfl, b6, pok'.n1, pok'.n16, pok'.h2, pok'.h10, pok'.ok, w5.sb s6, fun sa' U' H7 okU' s7 b7 u7 => ?_⟩
    have v7 := v6.sb s7
    obtain ⟨g1, g2, g3⟩ := v7.get
    refine ⟨_, rfl, _, rfl, _, rfl, _, rfl, x, lz, sa, n, h, relOf ps, U, rfl, g1, pok.n16, pok.h2, pok.h10, irr, g2, g3, okU, fun H8 s8 => ⟨true, rfl, iteF ?_⟩⟩
    have v8 := v7.sb (SB.of s8)
    have u8 := u7.sb (SB.of s8)
    have b8 := b7.same s8
    obtain ⟨k1, k2, k3⟩ := u8.get
    refine ⟨_, rfl, _, rfl, _, rfl, _, rfl, x', lz', sa', n', h', relOf ps', U', rfl, k1, pok'.n16, pok'.h2, pok'.h10, irr', k2, k3, okU', fun H9 s9 => ⟨true, rfl, iteF ?_⟩⟩
    have v9 := v8.sb (SB.of s9)
    have u9 := u8.sb (SB.of s9)
    have b9 := b8.same s9
    refine ⟨_, rfl, _, rfl, _, rfl, _, rfl, _, rfl, b, x, lz, sa, n, h, relOf ps, U, rfl, b9, pok.n16, pok.h2, pok.h10, irr, okU, v9, fun H10 s10 b10 => ⟨true, rfl, iteF ?_⟩⟩
    have v10 := v9.sb s10
    have u10 := u9.sb s10
    refine ⟨_, rfl, _, rfl, _, rfl, _, rfl, _, rfl, b, x', lz', sa', n', h', relOf ps', U', rfl, b10, pok'.n16, pok'.h2, pok'.h10, irr', okU', u10, fun H11 s11 b11 => ⟨true, rfl, iteF ?_⟩⟩
    obtain ⟨m1, m2, m3⟩ := (v10.sb s11).get
    exact ⟨_, rfl, _, rfl, _, rfl, _, rfl, x, lz, sa, n, h, relOf ps, U, rfl, m1, pok.n16, pok.h2, pok.h10, irr, m2, m3, okU, fun H12 _ => q H12⟩
end
end Hue

end
section
set_option maxRecDepth 100000
set_option maxHeartbeats 4000000
namespace Hue
open PySem PySem.Spec PyProof.Rows L2
/-! ### the end: what the top has written, and the head -/
theorem binds_init {K : PySem.W.Frag} {T E : Addr} {ocT : Value} {odT : Option Addr} {itT : Value} {nT : Nat} {slT : Array (Option Value)} (lT : K.lookup T = some ⟨ocT, odT, .seq #[itT] nT, slT⟩) {kV dc pm cd ct : Value} {an : Option Addr} :
    Binds K (PySem.W.fnOf "__init__" "House.__init__" (defArgs s_House___init__) (defBody s_House___init__) (defScope s_House___init__) (.ref T) kV dc pm an cd ct) ["self", "count", "hues", "wires"] [] := fun s us X hl => by
  rw [List.append_nil] at hl ⊢
  match us, hl with
  | [a, b, c, d], _ =>
    refine BindsTo.of_looks fun M => ?_
    have e : ∃ k, bindArgs (PySem.W.fnOf "__init__" "House.__init__" (defArgs s_House___init__) (defBody s_House___init__) (defScope s_House___init__) (.ref T) kV dc pm an cd ct) ⟨[a, b, c, d], []⟩ = seqItems? (.ref T) >>= k ∧ k (some #[itT]) = pure ((["self", "count", "hues", "wires"] : List Str).zip [a, b, c, d]) := ⟨_, rfl, rfl⟩
    obtain ⟨k, e1, e2⟩ := e
    rw [e1]
    exact looks_items X lT rfl (.of_pure e2)
theorem binds_init0 {K : PySem.W.Frag} {T : Addr} {ocT : Value} {odT : Option Addr} {itT : Value} {nT : Nat} {slT : Array (Option Value)} (lT : K.lookup T = some ⟨ocT, odT, .seq #[itT] nT, slT⟩) {kV dc pm cd ct : Value} {an : Option Addr} :
    Binds K (PySem.W.fnOf "__init__" "House.__init__" (defArgs s_House___init__) (defBody s_House___init__) (defScope s_House___init__) (.ref T) kV dc pm an cd ct) ["self", "count", "hues", "wires"] [itT] := fun s us X hl => by
  have l3 : us.length = 3 := by
    rw [List.length_append] at hl
    exact Nat.succ.inj hl
  match us, l3 with
  | [a, b, c], _ =>
    refine BindsTo.of_looks fun M => ?_
    have e : ∃ k, bindArgs (PySem.W.fnOf "__init__" "House.__init__" (defArgs s_House___init__) (defBody s_House___init__) (defScope s_House___init__) (.ref T) kV dc pm an cd ct) ⟨[a, b, c], []⟩ = seqItems? (.ref T) >>= k ∧ k (some #[itT]) = pure ((["self", "count", "hues", "wires"] : List Str).zip [a, b, c, itT]) := ⟨_, rfl, rfl⟩
    obtain ⟨k, e1, e2⟩ := e
    rw [e1]
    exact looks_items X lT rfl (.of_pure e2)
theorem kw_after {K : PySem.W.Frag} {D : Addr} {u dc pm cd ct : Value} {an : Option Addr} (nd : PySem.W.nsIn K D "careful" = some (some u)) :
    Binds K (PySem.W.fnOf "after" "after" (defArgs s_after) (defBody s_after) (defScope s_after) .none (.ref D) dc pm an cd ct) ["house", "state", "lamp", "careful"] [u] := fun s us X hl => by
  have l3 : us.length = 3 := by
    rw [List.length_append] at hl
    exact Nat.succ.inj hl
  match us, l3 with
  | [a, b, c], _ =>
    exact BindsTo.of_looks fun M => KwChain.looks (l := [("careful", u)]) X (fun q hq => by rw [List.mem_singleton.mp hq]; exact nd) ⟨_, _, _, _, _, _, rfl, rfl, rfl⟩
theorem kk_after {K : PySem.W.Frag} {D : Addr} {dc pm cd ct : Value} {an : Option Addr} :
    KBn K (PySem.W.fnOf "after" "after" (defArgs s_after) (defBody s_after) (defScope s_after) .none (.ref D) dc pm an cd ct) ["house", "state", "lamp", "careful"] 3 ["careful"] (fun us ws => us ++ ws) (fun vs zs => vs ++ zs) := ⟨fun s us ws X h1 h2 => by
  match us, h1, ws, h2 with
  | [a, b, c], _, [v], _ => exact .of_eq rfl, fun r z => r.append z⟩
theorem kw_before {K : PySem.W.Frag} {D : Addr} {u dc pm cd ct : Value} {an : Option Addr} (nd : PySem.W.nsIn K D "careful" = some (some u)) :
    Binds K (PySem.W.fnOf "before" "before" (defArgs s_before) (defBody s_before) (defScope s_before) .none (.ref D) dc pm an cd ct) ["house", "state", "lamp", "careful"] [u] := fun s us X hl => by
  have l3 : us.length = 3 := by
    rw [List.length_append] at hl
    exact Nat.succ.inj hl
  match us, l3 with
  | [a, b, c], _ =>
    exact BindsTo.of_looks fun M => KwChain.looks (l := [("careful", u)]) X (fun q hq => by rw [List.mem_singleton.mp hq]; exact nd) ⟨_, _, _, _, _, _, rfl, rfl, rfl⟩
theorem kk_before {K : PySem.W.Frag} {D : Addr} {dc pm cd ct : Value} {an : Option Addr} :
    KBn K (PySem.W.fnOf "before" "before" (defArgs s_before) (defBody s_before) (defScope s_before) .none (.ref D) dc pm an cd ct) ["house", "state", "lamp", "careful"] 3 ["careful"] (fun us ws => us ++ ws) (fun vs zs => vs ++ zs) := ⟨fun s us ws X h1 h2 => by
  match us, h1, ws, h2 with
  | [a, b, c], _, [v], _ => exact .of_eq rfl, fun r z => r.append z⟩
theorem all_mk {l : PySem.W.OpenLaw} {w : World} {K : PySem.W.Frag} {h : Heap} {mg : Str → Option Value} {fa : Addr} (X : K.In h) (G : h.Ns mainGlobals mg) (hfa : mg "law" = some (.ref fa))
    {f0 : Addr} {od0 an0 : Option Addr} {sl0 : Array (Option Value)} {oc0 kV0 dc0 pm0 cd0 ct0 : Value}
    {f1 : Addr} {od1 an1 : Option Addr} {sl1 : Array (Option Value)} {oc1 kV1 dc1 pm1 cd1 ct1 : Value}
    {f2 : Addr} {od2 an2 : Option Addr} {sl2 : Array (Option Value)} {oc2 kV2 dc2 pm2 cd2 ct2 : Value}
    {f3 : Addr} {od3 an3 : Option Addr} {sl3 : Array (Option Value)} {oc3 kV3 dc3 pm3 cd3 ct3 : Value}
    {f4 : Addr} {od4 an4 : Option Addr} {sl4 : Array (Option Value)} {oc4 kV4 dc4 pm4 cd4 ct4 : Value}
    {f5 : Addr} {od5 an5 : Option Addr} {sl5 : Array (Option Value)} {oc5 kV5 dc5 pm5 cd5 ct5 : Value}
    {f6 : Addr} {od6 an6 : Option Addr} {sl6 : Array (Option Value)} {oc6 kV6 dc6 pm6 cd6 ct6 : Value}
    {f7 : Addr} {od7 an7 : Option Addr} {sl7 : Array (Option Value)} {oc7 kV7 dc7 pm7 cd7 ct7 : Value}
    {f8 : Addr} {od8 an8 : Option Addr} {sl8 : Array (Option Value)} {oc8 kV8 dc8 pm8 cd8 ct8 : Value}
    {f9 : Addr} {od9 an9 : Option Addr} {sl9 : Array (Option Value)} {oc9 kV9 dc9 pm9 cd9 ct9 : Value}
    {f10 : Addr} {od10 an10 : Option Addr} {sl10 : Array (Option Value)} {oc10 kV10 dc10 pm10 cd10 ct10 : Value}
    {f11 : Addr} {od11 an11 : Option Addr} {sl11 : Array (Option Value)} {oc11 kV11 dc11 pm11 cd11 ct11 : Value}
    {f12 : Addr} {od12 an12 : Option Addr} {sl12 : Array (Option Value)} {oc12 kV12 dc12 pm12 cd12 ct12 : Value}
    {f13 : Addr} {od13 an13 : Option Addr} {sl13 : Array (Option Value)} {oc13 kV13 dc13 pm13 cd13 ct13 : Value}
    {f14 : Addr} {od14 an14 : Option Addr} {sl14 : Array (Option Value)} {oc14 kV14 dc14 pm14 cd14 ct14 : Value}
    {f15 : Addr} {od15 an15 : Option Addr} {sl15 : Array (Option Value)} {oc15 kV15 dc15 pm15 cd15 ct15 : Value}
    {f16 : Addr} {od16 an16 : Option Addr} {sl16 : Array (Option Value)} {oc16 kV16 dc16 pm16 cd16 ct16 : Value}
    {f17 : Addr} {od17 an17 : Option Addr} {sl17 : Array (Option Value)} {oc17 kV17 dc17 pm17 cd17 ct17 : Value}
    {f18 : Addr} {od18 an18 : Option Addr} {sl18 : Array (Option Value)} {oc18 kV18 dc18 pm18 cd18 ct18 : Value}
    {f19 : Addr} {od19 an19 : Option Addr} {sl19 : Array (Option Value)} {oc19 kV19 dc19 pm19 cd19 ct19 : Value}
    {f20 : Addr} {od20 an20 : Option Addr} {sl20 : Array (Option Value)} {oc20 kV20 dc20 pm20 cd20 ct20 : Value}
    {f21 : Addr} {od21 an21 : Option Addr} {sl21 : Array (Option Value)} {oc21 kV21 dc21 pm21 cd21 ct21 : Value}
    {f22 : Addr} {od22 an22 : Option Addr} {sl22 : Array (Option Value)} {oc22 kV22 dc22 pm22 cd22 ct22 : Value}
    {f23 : Addr} {od23 an23 : Option Addr} {sl23 : Array (Option Value)} {oc23 kV23 dc23 pm23 cd23 ct23 : Value}
    {f24 : Addr} {od24 an24 : Option Addr} {sl24 : Array (Option Value)} {oc24 kV24 dc24 pm24 cd24 ct24 : Value}
    {f25 : Addr} {od25 an25 : Option Addr} {sl25 : Array (Option Value)} {oc25 kV25 dc25 pm25 cd25 ct25 : Value}
    {f26 : Addr} {od26 an26 : Option Addr} {sl26 : Array (Option Value)} {oc26 kV26 dc26 pm26 cd26 ct26 : Value}
    {f27 : Addr} {od27 an27 : Option Addr} {sl27 : Array (Option Value)} {oc27 kV27 dc27 pm27 cd27 ct27 : Value}
    {f28 : Addr} {od28 an28 : Option Addr} {sl28 : Array (Option Value)} {oc28 kV28 dc28 pm28 cd28 ct28 : Value}
    {f29 : Addr} {od29 an29 : Option Addr} {sl29 : Array (Option Value)} {oc29 kV29 dc29 pm29 cd29 ct29 : Value}
    {f30 : Addr} {od30 an30 : Option Addr} {sl30 : Array (Option Value)} {oc30 kV30 dc30 pm30 cd30 ct30 : Value}
    {f31 : Addr} {od31 an31 : Option Addr} {sl31 : Array (Option Value)} {oc31 kV31 dc31 pm31 cd31 ct31 : Value}
    {f32 : Addr} {od32 an32 : Option Addr} {sl32 : Array (Option Value)} {oc32 kV32 dc32 pm32 cd32 ct32 : Value}
    {f33 : Addr} {od33 an33 : Option Addr} {sl33 : Array (Option Value)} {oc33 kV33 dc33 pm33 cd33 ct33 : Value}
    {f34 : Addr} {od34 an34 : Option Addr} {sl34 : Array (Option Value)} {oc34 kV34 dc34 pm34 cd34 ct34 : Value}
    {f35 : Addr} {od35 an35 : Option Addr} {sl35 : Array (Option Value)} {oc35 kV35 dc35 pm35 cd35 ct35 : Value}
    {f36 : Addr} {od36 an36 : Option Addr} {sl36 : Array (Option Value)} {oc36 kV36 dc36 pm36 cd36 ct36 : Value}
    {f37 : Addr} {od37 an37 : Option Addr} {sl37 : Array (Option Value)} {oc37 kV37 dc37 pm37 cd37 ct37 : Value}
    {f38 : Addr} {od38 an38 : Option Addr} {sl38 : Array (Option Value)} {oc38 kV38 dc38 pm38 cd38 ct38 : Value}
    {fW0 DW0 : Addr} {odW0 anW0 : Option Addr} {slW0 : Array (Option Value)} {ocW0 dcW0 pmW0 cdW0 ctW0 uW0 : Value}
    {fW1 DW1 : Addr} {odW1 anW1 : Option Addr} {slW1 : Array (Option Value)} {ocW1 dcW1 pmW1 cdW1 ctW1 uW1 : Value}
    {fM0 : Addr} {odM0 anM0 : Option Addr} {slM0 : Array (Option Value)} {ocM0 kVM0 dcM0 pmM0 cdM0 ctM0 : Value}
    {C T0 E0 : Addr} {ocT ocE : Value} {odT odE : Option Addr} {nT nE : Nat} {slT slE : Array (Option Value)} {u1 u2 : Value}
    {fI : Addr} {odI anI : Option Addr} {slI : Array (Option Value)} {ocI kVI dcI pmI cdI ctI : Value}
    (aC : PySem.W.nsIn K mainGlobals "House" = some (some (.ref C)))
    (a0 : PySem.W.nsIn K mainGlobals "is_whole" = some (some (.ref f0))) (l0 : K.lookup f0 = some ⟨oc0, od0, .func (PySem.W.fnOf "is_whole" "is_whole" (defArgs s_is_whole) (defBody s_is_whole) (defScope s_is_whole) .none kV0 dc0 pm0 an0 cd0 ct0), sl0⟩) (c0 : PySem.W.codeIn K cd0 "is_whole" = true) (k0 : PySem.W.keepIn K (.ref f0) = true)
    (a1 : PySem.W.nsIn K mainGlobals "is_whole_in" = some (some (.ref f1))) (l1 : K.lookup f1 = some ⟨oc1, od1, .func (PySem.W.fnOf "is_whole_in" "is_whole_in" (defArgs s_is_whole_in) (defBody s_is_whole_in) (defScope s_is_whole_in) .none kV1 dc1 pm1 an1 cd1 ct1), sl1⟩) (c1 : PySem.W.codeIn K cd1 "is_whole_in" = true) (k1 : PySem.W.keepIn K (.ref f1) = true)
    (a2 : PySem.W.nsIn K mainGlobals "check_count" = some (some (.ref f2))) (l2 : K.lookup f2 = some ⟨oc2, od2, .func (PySem.W.fnOf "check_count" "check_count" (defArgs s_check_count) (defBody s_check_count) (defScope s_check_count) .none kV2 dc2 pm2 an2 cd2 ct2), sl2⟩) (c2 : PySem.W.codeIn K cd2 "check_count" = true) (k2 : PySem.W.keepIn K (.ref f2) = true)
    (a3 : PySem.W.nsIn K mainGlobals "check_hues" = some (some (.ref f3))) (l3 : K.lookup f3 = some ⟨oc3, od3, .func (PySem.W.fnOf "check_hues" "check_hues" (defArgs s_check_hues) (defBody s_check_hues) (defScope s_check_hues) .none kV3 dc3 pm3 an3 cd3 ct3), sl3⟩) (c3 : PySem.W.codeIn K cd3 "check_hues" = true) (k3 : PySem.W.keepIn K (.ref f3) = true)
    (a4 : PySem.W.nsIn K mainGlobals "is_wire" = some (some (.ref f4))) (l4 : K.lookup f4 = some ⟨oc4, od4, .func (PySem.W.fnOf "is_wire" "is_wire" (defArgs s_is_wire) (defBody s_is_wire) (defScope s_is_wire) .none kV4 dc4 pm4 an4 cd4 ct4), sl4⟩) (c4 : PySem.W.codeIn K cd4 "is_wire" = true) (k4 : PySem.W.keepIn K (.ref f4) = true)
    (a5 : PySem.W.nsIn K mainGlobals "with_wire" = some (some (.ref f5))) (l5 : K.lookup f5 = some ⟨oc5, od5, .func (PySem.W.fnOf "with_wire" "with_wire" (defArgs s_with_wire) (defBody s_with_wire) (defScope s_with_wire) .none kV5 dc5 pm5 an5 cd5 ct5), sl5⟩) (c5 : PySem.W.codeIn K cd5 "with_wire" = true) (k5 : PySem.W.keepIn K (.ref f5) = true)
    (a6 : PySem.W.nsIn K mainGlobals "lamps_beneath" = some (some (.ref f6))) (l6 : K.lookup f6 = some ⟨oc6, od6, .func (PySem.W.fnOf "lamps_beneath" "lamps_beneath" (defArgs s_lamps_beneath) (defBody s_lamps_beneath) (defScope s_lamps_beneath) .none kV6 dc6 pm6 an6 cd6 ct6), sl6⟩) (c6 : PySem.W.codeIn K cd6 "lamps_beneath" = true) (k6 : PySem.W.keepIn K (.ref f6) = true)
    (a7 : PySem.W.nsIn K mainGlobals "is_next" = some (some (.ref f7))) (l7 : K.lookup f7 = some ⟨oc7, od7, .func (PySem.W.fnOf "is_next" "is_next" (defArgs s_is_next) (defBody s_is_next) (defScope s_is_next) .none kV7 dc7 pm7 an7 cd7 ct7), sl7⟩) (c7 : PySem.W.codeIn K cd7 "is_next" = true) (k7 : PySem.W.keepIn K (.ref f7) = true)
    (a8 : PySem.W.nsIn K mainGlobals "order_list" = some (some (.ref f8))) (l8 : K.lookup f8 = some ⟨oc8, od8, .func (PySem.W.fnOf "order_list" "order_list" (defArgs s_order_list) (defBody s_order_list) (defScope s_order_list) .none kV8 dc8 pm8 an8 cd8 ct8), sl8⟩) (c8 : PySem.W.codeIn K cd8 "order_list" = true) (k8 : PySem.W.keepIn K (.ref f8) = true)
    (a9 : PySem.W.nsIn K mainGlobals "is_lamp" = some (some (.ref f9))) (l9 : K.lookup f9 = some ⟨oc9, od9, .func (PySem.W.fnOf "is_lamp" "is_lamp" (defArgs s_is_lamp) (defBody s_is_lamp) (defScope s_is_lamp) .none kV9 dc9 pm9 an9 cd9 ct9), sl9⟩) (c9 : PySem.W.codeIn K cd9 "is_lamp" = true) (k9 : PySem.W.keepIn K (.ref f9) = true)
    (a10 : PySem.W.nsIn K mainGlobals "check_lamp" = some (some (.ref f10))) (l10 : K.lookup f10 = some ⟨oc10, od10, .func (PySem.W.fnOf "check_lamp" "check_lamp" (defArgs s_check_lamp) (defBody s_check_lamp) (defScope s_check_lamp) .none kV10 dc10 pm10 an10 cd10 ct10), sl10⟩) (c10 : PySem.W.codeIn K cd10 "check_lamp" = true) (k10 : PySem.W.keepIn K (.ref f10) = true)
    (a11 : PySem.W.nsIn K mainGlobals "is_state" = some (some (.ref f11))) (l11 : K.lookup f11 = some ⟨oc11, od11, .func (PySem.W.fnOf "is_state" "is_state" (defArgs s_is_state) (defBody s_is_state) (defScope s_is_state) .none kV11 dc11 pm11 an11 cd11 ct11), sl11⟩) (c11 : PySem.W.codeIn K cd11 "is_state" = true) (k11 : PySem.W.keepIn K (.ref f11) = true)
    (a12 : PySem.W.nsIn K mainGlobals "check_state" = some (some (.ref f12))) (l12 : K.lookup f12 = some ⟨oc12, od12, .func (PySem.W.fnOf "check_state" "check_state" (defArgs s_check_state) (defBody s_check_state) (defScope s_check_state) .none kV12 dc12 pm12 an12 cd12 ct12), sl12⟩) (c12 : PySem.W.codeIn K cd12 "check_state" = true) (k12 : PySem.W.keepIn K (.ref f12) = true)
    (a13 : PySem.W.nsIn K mainGlobals "first_lit_beneath" = some (some (.ref f13))) (l13 : K.lookup f13 = some ⟨oc13, od13, .func (PySem.W.fnOf "first_lit_beneath" "first_lit_beneath" (defArgs s_first_lit_beneath) (defBody s_first_lit_beneath) (defScope s_first_lit_beneath) .none kV13 dc13 pm13 an13 cd13 ct13), sl13⟩) (c13 : PySem.W.codeIn K cd13 "first_lit_beneath" = true) (k13 : PySem.W.keepIn K (.ref f13) = true)
    (a14 : PySem.W.nsIn K mainGlobals "turned" = some (some (.ref f14))) (l14 : K.lookup f14 = some ⟨oc14, od14, .func (PySem.W.fnOf "turned" "turned" (defArgs s_turned) (defBody s_turned) (defScope s_turned) .none kV14 dc14 pm14 an14 cd14 ct14), sl14⟩) (c14 : PySem.W.codeIn K cd14 "turned" = true) (k14 : PySem.W.keepIn K (.ref f14) = true)
    (a15 : PySem.W.nsIn K mainGlobals "moved" = some (some (.ref f15))) (l15 : K.lookup f15 = some ⟨oc15, od15, .func (PySem.W.fnOf "moved" "moved" (defArgs s_moved) (defBody s_moved) (defScope s_moved) .none kV15 dc15 pm15 an15 cd15 ct15), sl15⟩) (c15 : PySem.W.codeIn K cd15 "moved" = true) (k15 : PySem.W.keepIn K (.ref f15) = true)
    (a16 : PySem.W.nsIn K mainGlobals "_law_box" = some (some (.ref f16))) (l16 : K.lookup f16 = some ⟨oc16, od16, .func (PySem.W.fnOf "_law_box" "_law_box" (defArgs s__law_box) (defBody s__law_box) (defScope s__law_box) .none kV16 dc16 pm16 an16 cd16 ct16), sl16⟩) (c16 : PySem.W.codeIn K cd16 "_law_box" = true) (k16 : PySem.W.keepIn K (.ref f16) = true)
    (a17 : PySem.W.nsIn K mainGlobals "_law_mixed" = some (some (.ref f17))) (l17 : K.lookup f17 = some ⟨oc17, od17, .func (PySem.W.fnOf "_law_mixed" "_law_mixed" (defArgs s__law_mixed) (defBody s__law_mixed) (defScope s__law_mixed) .none kV17 dc17 pm17 an17 cd17 ct17), sl17⟩) (c17 : PySem.W.codeIn K cd17 "_law_mixed" = true) (k17 : PySem.W.keepIn K (.ref f17) = true)
    (a18 : PySem.W.nsIn K mainGlobals "_law_take" = some (some (.ref f18))) (l18 : K.lookup f18 = some ⟨oc18, od18, .func (PySem.W.fnOf "_law_take" "_law_take" (defArgs s__law_take) (defBody s__law_take) (defScope s__law_take) .none kV18 dc18 pm18 an18 cd18 ct18), sl18⟩) (c18 : PySem.W.codeIn K cd18 "_law_take" = true) (k18 : PySem.W.keepIn K (.ref f18) = true)
    (a19 : PySem.W.nsIn K mainGlobals "_law_line" = some (some (.ref f19))) (l19 : K.lookup f19 = some ⟨oc19, od19, .func (PySem.W.fnOf "_law_line" "_law_line" (defArgs s__law_line) (defBody s__law_line) (defScope s__law_line) .none kV19 dc19 pm19 an19 cd19 ct19), sl19⟩) (c19 : PySem.W.codeIn K cd19 "_law_line" = true) (k19 : PySem.W.keepIn K (.ref f19) = true)
    (a20 : PySem.W.nsIn K mainGlobals "_law_wires" = some (some (.ref f20))) (l20 : K.lookup f20 = some ⟨oc20, od20, .func (PySem.W.fnOf "_law_wires" "_law_wires" (defArgs s__law_wires) (defBody s__law_wires) (defScope s__law_wires) .none kV20 dc20 pm20 an20 cd20 ct20), sl20⟩) (c20 : PySem.W.codeIn K cd20 "_law_wires" = true) (k20 : PySem.W.keepIn K (.ref f20) = true)
    (a21 : PySem.W.nsIn K mainGlobals "_law_below" = some (some (.ref f21))) (l21 : K.lookup f21 = some ⟨oc21, od21, .func (PySem.W.fnOf "_law_below" "_law_below" (defArgs s__law_below) (defBody s__law_below) (defScope s__law_below) .none kV21 dc21 pm21 an21 cd21 ct21), sl21⟩) (c21 : PySem.W.codeIn K cd21 "_law_below" = true) (k21 : PySem.W.keepIn K (.ref f21) = true)
    (a22 : PySem.W.nsIn K mainGlobals "_law_state" = some (some (.ref f22))) (l22 : K.lookup f22 = some ⟨oc22, od22, .func (PySem.W.fnOf "_law_state" "_law_state" (defArgs s__law_state) (defBody s__law_state) (defScope s__law_state) .none kV22 dc22 pm22 an22 cd22 ct22), sl22⟩) (c22 : PySem.W.codeIn K cd22 "_law_state" = true) (k22 : PySem.W.keepIn K (.ref f22) = true)
    (a23 : PySem.W.nsIn K mainGlobals "_law_step" = some (some (.ref f23))) (l23 : K.lookup f23 = some ⟨oc23, od23, .func (PySem.W.fnOf "_law_step" "_law_step" (defArgs s__law_step) (defBody s__law_step) (defScope s__law_step) .none kV23 dc23 pm23 an23 cd23 ct23), sl23⟩) (c23 : PySem.W.codeIn K cd23 "_law_step" = true) (k23 : PySem.W.keepIn K (.ref f23) = true)
    (a24 : PySem.W.nsIn K mainGlobals "_law_same" = some (some (.ref f24))) (l24 : K.lookup f24 = some ⟨oc24, od24, .func (PySem.W.fnOf "_law_same" "_law_same" (defArgs s__law_same) (defBody s__law_same) (defScope s__law_same) .none kV24 dc24 pm24 an24 cd24 ct24), sl24⟩) (c24 : PySem.W.codeIn K cd24 "_law_same" = true) (k24 : PySem.W.keepIn K (.ref f24) = true)
    (a25 : PySem.W.nsIn K mainGlobals "_law_plan" = some (some (.ref f25))) (l25 : K.lookup f25 = some ⟨oc25, od25, .func (PySem.W.fnOf "_law_plan" "_law_plan" (defArgs s__law_plan) (defBody s__law_plan) (defScope s__law_plan) .none kV25 dc25 pm25 an25 cd25 ct25), sl25⟩) (c25 : PySem.W.codeIn K cd25 "_law_plan" = true) (k25 : PySem.W.keepIn K (.ref f25) = true)
    (a26 : PySem.W.nsIn K mainGlobals "_law_second" = some (some (.ref f26))) (l26 : K.lookup f26 = some ⟨oc26, od26, .func (PySem.W.fnOf "_law_second" "_law_second" (defArgs s__law_second) (defBody s__law_second) (defScope s__law_second) .none kV26 dc26 pm26 an26 cd26 ct26), sl26⟩) (c26 : PySem.W.codeIn K cd26 "_law_second" = true) (k26 : PySem.W.keepIn K (.ref f26) = true)
    (a27 : PySem.W.nsIn K mainGlobals "_law_house" = some (some (.ref f27))) (l27 : K.lookup f27 = some ⟨oc27, od27, .func (PySem.W.fnOf "_law_house" "_law_house" (defArgs s__law_house) (defBody s__law_house) (defScope s__law_house) .none kV27 dc27 pm27 an27 cd27 ct27), sl27⟩) (c27 : PySem.W.codeIn K cd27 "_law_house" = true) (k27 : PySem.W.keepIn K (.ref f27) = true)
    (a28 : PySem.W.nsIn K mainGlobals "_law_world" = some (some (.ref f28))) (l28 : K.lookup f28 = some ⟨oc28, od28, .func (PySem.W.fnOf "_law_world" "_law_world" (defArgs s__law_world) (defBody s__law_world) (defScope s__law_world) .none kV28 dc28 pm28 an28 cd28 ct28), sl28⟩) (c28 : PySem.W.codeIn K cd28 "_law_world" = true) (k28 : PySem.W.keepIn K (.ref f28) = true)
    (a29 : PySem.W.nsIn K mainGlobals "_law_wrong" = some (some (.ref f29))) (l29 : K.lookup f29 = some ⟨oc29, od29, .func (PySem.W.fnOf "_law_wrong" "_law_wrong" (defArgs s__law_wrong) (defBody s__law_wrong) (defScope s__law_wrong) .none kV29 dc29 pm29 an29 cd29 ct29), sl29⟩) (c29 : PySem.W.codeIn K cd29 "_law_wrong" = true) (k29 : PySem.W.keepIn K (.ref f29) = true)
    (a30 : PySem.W.nsIn K mainGlobals "_law_ready" = some (some (.ref f30))) (l30 : K.lookup f30 = some ⟨oc30, od30, .func (PySem.W.fnOf "_law_ready" "_law_ready" (defArgs s__law_ready) (defBody s__law_ready) (defScope s__law_ready) .none kV30 dc30 pm30 an30 cd30 ct30), sl30⟩) (c30 : PySem.W.codeIn K cd30 "_law_ready" = true) (k30 : PySem.W.keepIn K (.ref f30) = true)
    (a31 : PySem.W.nsIn K mainGlobals "_law_every" = some (some (.ref f31))) (l31 : K.lookup f31 = some ⟨oc31, od31, .func (PySem.W.fnOf "_law_every" "_law_every" (defArgs s__law_every) (defBody s__law_every) (defScope s__law_every) .none kV31 dc31 pm31 an31 cd31 ct31), sl31⟩) (c31 : PySem.W.codeIn K cd31 "_law_every" = true) (k31 : PySem.W.keepIn K (.ref f31) = true)
    (a32 : PySem.W.nsIn K mainGlobals "_law_back" = some (some (.ref f32))) (l32 : K.lookup f32 = some ⟨oc32, od32, .func (PySem.W.fnOf "_law_back" "_law_back" (defArgs s__law_back) (defBody s__law_back) (defScope s__law_back) .none kV32 dc32 pm32 an32 cd32 ct32), sl32⟩) (c32 : PySem.W.codeIn K cd32 "_law_back" = true) (k32 : PySem.W.keepIn K (.ref f32) = true)
    (a33 : PySem.W.nsIn K mainGlobals "_law_due" = some (some (.ref f33))) (l33 : K.lookup f33 = some ⟨oc33, od33, .func (PySem.W.fnOf "_law_due" "_law_due" (defArgs s__law_due) (defBody s__law_due) (defScope s__law_due) .none kV33 dc33 pm33 an33 cd33 ct33), sl33⟩) (c33 : PySem.W.codeIn K cd33 "_law_due" = true) (k33 : PySem.W.keepIn K (.ref f33) = true)
    (a34 : PySem.W.nsIn K mainGlobals "_law_maybe" = some (some (.ref f34))) (l34 : K.lookup f34 = some ⟨oc34, od34, .func (PySem.W.fnOf "_law_maybe" "_law_maybe" (defArgs s__law_maybe) (defBody s__law_maybe) (defScope s__law_maybe) .none kV34 dc34 pm34 an34 cd34 ct34), sl34⟩) (c34 : PySem.W.codeIn K cd34 "_law_maybe" = true) (k34 : PySem.W.keepIn K (.ref f34) = true)
    (a35 : PySem.W.nsIn K mainGlobals "_law_lamp" = some (some (.ref f35))) (l35 : K.lookup f35 = some ⟨oc35, od35, .func (PySem.W.fnOf "_law_lamp" "_law_lamp" (defArgs s__law_lamp) (defBody s__law_lamp) (defScope s__law_lamp) .none kV35 dc35 pm35 an35 cd35 ct35), sl35⟩) (c35 : PySem.W.codeIn K cd35 "_law_lamp" = true) (k35 : PySem.W.keepIn K (.ref f35) = true)
    (a36 : PySem.W.nsIn K mainGlobals "_law_holds" = some (some (.ref f36))) (l36 : K.lookup f36 = some ⟨oc36, od36, .func (PySem.W.fnOf "_law_holds" "_law_holds" (defArgs s__law_holds) (defBody s__law_holds) (defScope s__law_holds) .none kV36 dc36 pm36 an36 cd36 ct36), sl36⟩) (c36 : PySem.W.codeIn K cd36 "_law_holds" = true) (k36 : PySem.W.keepIn K (.ref f36) = true)
    (a37 : PySem.W.nsIn K mainGlobals "_law_walk" = some (some (.ref f37))) (l37 : K.lookup f37 = some ⟨oc37, od37, .func (PySem.W.fnOf "_law_walk" "_law_walk" (defArgs s__law_walk) (defBody s__law_walk) (defScope s__law_walk) .none kV37 dc37 pm37 an37 cd37 ct37), sl37⟩) (c37 : PySem.W.codeIn K cd37 "_law_walk" = true) (k37 : PySem.W.keepIn K (.ref f37) = true)
    (a38 : PySem.W.nsIn K mainGlobals "law" = some (some (.ref f38))) (l38 : K.lookup f38 = some ⟨oc38, od38, .func (PySem.W.fnOf "law" "law" (defArgs s_law) (defBody s_law) (defScope s_law) .none kV38 dc38 pm38 an38 cd38 ct38), sl38⟩) (c38 : PySem.W.codeIn K cd38 "law" = true) (k38 : PySem.W.keepIn K (.ref f38) = true)
    (aW0 : PySem.W.nsIn K mainGlobals "after" = some (some (.ref fW0))) (lW0 : K.lookup fW0 = some ⟨ocW0, odW0, .func (PySem.W.fnOf "after" "after" (defArgs s_after) (defBody s_after) (defScope s_after) .none (.ref DW0) dcW0 pmW0 anW0 cdW0 ctW0), slW0⟩) (cW0 : PySem.W.codeIn K cdW0 "after" = true) (kW0 : PySem.W.keepIn K (.ref fW0) = true) (nW0 : PySem.W.nsIn K DW0 "careful" = some (some uW0)) (rW0 : uW0 = .bool false)
    (aW1 : PySem.W.nsIn K mainGlobals "before" = some (some (.ref fW1))) (lW1 : K.lookup fW1 = some ⟨ocW1, odW1, .func (PySem.W.fnOf "before" "before" (defArgs s_before) (defBody s_before) (defScope s_before) .none (.ref DW1) dcW1 pmW1 anW1 cdW1 ctW1), slW1⟩) (cW1 : PySem.W.codeIn K cdW1 "before" = true) (kW1 : PySem.W.keepIn K (.ref fW1) = true) (nW1 : PySem.W.nsIn K DW1 "careful" = some (some uW1)) (rW1 : uW1 = .bool false)
    (aM0 : PySem.W.findIn K (.ref C) "beneath" = some (some (.ref fM0))) (iM0 : PySem.W.isFn K (.ref fM0) = true) (lM0 : K.lookup fM0 = some ⟨ocM0, odM0, .func (PySem.W.fnOf "beneath" "House.beneath" (defArgs s_House_beneath) (defBody s_House_beneath) (defScope s_House_beneath) .none kVM0 dcM0 pmM0 anM0 cdM0 ctM0), slM0⟩) (cM0 : PySem.W.codeIn K cdM0 "House.beneath" = true) (kM0 : PySem.W.keepIn K (.ref fM0) = true)
    (aI : PySem.W.findIn K (.ref C) "__init__" = some (some (.ref fI))) (iI : PySem.W.isFn K (.ref fI) = true) (lI : K.lookup fI = some ⟨ocI, odI, .func (PySem.W.fnOf "__init__" "House.__init__" (defArgs s_House___init__) (defBody s_House___init__) (defScope s_House___init__) (.ref T0) kVI dcI pmI anI cdI ctI), slI⟩) (cI : PySem.W.codeIn K cdI "House.__init__" = true) (kI : PySem.W.keepIn K (.ref fI) = true)
    (lT : K.lookup T0 = some ⟨ocT, odT, .seq #[.ref E0] nT, slT⟩) (lE : K.lookup E0 = some ⟨ocE, odE, .seq #[] nE, slE⟩) (eE : ocE = .type "tuple")
    (pg : PySem.W.plainGet K C Str.empty = true) (hd : PySem.W.hasDictIn K C = true) (po : PySem.W.plainOver K C = true) (sa : PySem.W.findIn K (.ref C) "__setattr__" = some (some (.builtin "object.__setattr__"))) (mk : PySem.W.makesIn K C = true) (kc : PySem.W.keepIn K (.ref C) = true)
    (nCount : PySem.W.findIn K (.ref C) "count" = some none)
    (nHues : PySem.W.findIn K (.ref C) "hues" = some none)
    (nBen : PySem.W.findIn K (.ref C) "_beneath" = some none)
    (nWires : PySem.W.findIn K (.ref C) "wires" = some none)
    (nAbove : PySem.W.findIn K (.ref C) "_above" = some none)
    (nDirect : PySem.W.findIn K (.ref C) "_direct" = some none)
    (nOrder : PySem.W.findIn K (.ref C) "_order" = some none)
    (rd : PySem.W.readsIn K C (.type "type") = true) (ga : PySem.W.specialIn K (.ref C) "__getattribute__" = some (some (.builtin "type.__getattribute__"))) (v1 : PySem.W.findCls K (.ref C) (.type "type") "MOST_LAMPS" = some (.val u1)) (r1 : ∃ t, u1 = .int 16 t) (v2 : PySem.W.findCls K (.ref C) (.type "type") "MOST_HUES" = some (.val u2)) (r2 : ∃ t, u2 = .int 10 t)
    (b_len : PySem.W.nsIn K mainGlobals "len" = some none)
    (b_range : PySem.W.nsIn K mainGlobals "range" = some none)
    (b_isinstance : PySem.W.nsIn K mainGlobals "isinstance" = some none)
    (b_int : PySem.W.nsIn K mainGlobals "int" = some none)
    (b_bool : PySem.W.nsIn K mainGlobals "bool" = some none)
    (b_tuple : PySem.W.nsIn K mainGlobals "tuple" = some none)
    (b_list : PySem.W.nsIn K mainGlobals "list" = some none)
    (b_set : PySem.W.nsIn K mainGlobals "set" = some none)
    (b_enumerate : PySem.W.nsIn K mainGlobals "enumerate" = some none)
    (b_sorted : PySem.W.nsIn K mainGlobals "sorted" = some none)
    (b_min : PySem.W.nsIn K mainGlobals "min" = some none)
    (b_all : PySem.W.nsIn K mainGlobals "all" = some none)
    (b_any : PySem.W.nsIn K mainGlobals "any" = some none)
    (b_abs : PySem.W.nsIn K mainGlobals "abs" = some none)
    (b_reversed : PySem.W.nsIn K mainGlobals "reversed" = some none)
    (b_max : PySem.W.nsIn K mainGlobals "max" = some none)
    : ∃ fd : FuncData, (∀ (s : Shared) (v : Value), BindsTo s fd ⟨[v], []⟩ [("script", v)]) ∧ ∀ base : Heap, K.In base → base.Ns mainGlobals mg → FnOk l.prog w K mg base CX0 12 fa fd ["script"] (spLaw K) := by
  have e := hfa.symm.trans (PySem.W.mg_of X G a38)
  cases e
  have T : Txt K mg C := { cl := ⟨pg, hd, po, sa⟩, nCount := nCount, nHues := nHues, nBen := nBen, nWires := nWires, nAbove := nAbove, nDirect := nDirect, nOrder := nOrder, mgC := PySem.W.mg_of X G aC, con := ⟨.type "type", ⟨rd, ga⟩, ⟨u1, v1, r1⟩, ⟨u2, v2, r2⟩⟩, len := PySem.W.mg_none_of X G b_len, range := PySem.W.mg_none_of X G b_range, isinstance := PySem.W.mg_none_of X G b_isinstance, int := PySem.W.mg_none_of X G b_int, bool := PySem.W.mg_none_of X G b_bool, tuple := PySem.W.mg_none_of X G b_tuple, list := PySem.W.mg_none_of X G b_list, set := PySem.W.mg_none_of X G b_set, enumerate := PySem.W.mg_none_of X G b_enumerate, sorted := PySem.W.mg_none_of X G b_sorted, min := PySem.W.mg_none_of X G b_min, all := PySem.W.mg_none_of X G b_all, any := PySem.W.mg_none_of X G b_any, abs := PySem.W.mg_none_of X G b_abs, reversed := PySem.W.mg_none_of X G b_reversed, max := PySem.W.mg_none_of X G b_max }
  refine ⟨PySem.W.fnOf "law" "law" (defArgs s_law) (defBody s_law) (defScope s_law) .none kV38 dc38 pm38 an38 cd38 ct38, fun s v => .of_eq rfl, fun base _ _ => ?_⟩
  have F_is_whole := fun_mk (st := s_is_whole) l0 c0 k0
  have c_is_whole : Cal l.prog w K mg base "is_whole" 1 spWhole := ⟨⟨_, _, _, ok_is_whole T F_is_whole, PySem.W.mg_of X G a0, k0, F_is_whole.binds fun _ _ _ _ _ _ us hl => match us, hl with | [_], _ => rfl⟩⟩
  have F_is_whole_in := fun_mk (st := s_is_whole_in) l1 c1 k1
  have c_is_whole_in : Cal l.prog w K mg base "is_whole_in" 2 spWholeIn := ⟨⟨_, _, _, ok_is_whole_in T F_is_whole_in c_is_whole, PySem.W.mg_of X G a1, k1, F_is_whole_in.binds fun _ _ _ _ _ _ us hl => match us, hl with | [_, _, _], _ => rfl⟩⟩
  have F_check_count := fun_mk (st := s_check_count) l2 c2 k2
  have c_check_count : Cal l.prog w K mg base "check_count" 3 spCheckCount := ⟨⟨_, _, _, ok_check_count T F_check_count c_is_whole_in, PySem.W.mg_of X G a2, k2, F_check_count.binds fun _ _ _ _ _ _ us hl => match us, hl with | [_], _ => rfl⟩⟩
  have F_check_hues := fun_mk (st := s_check_hues) l3 c3 k3
  have c_check_hues : Cal l.prog w K mg base "check_hues" 3 spCheckHues := ⟨⟨_, _, _, ok_check_hues T F_check_hues c_is_whole_in, PySem.W.mg_of X G a3, k3, F_check_hues.binds fun _ _ _ _ _ _ us hl => match us, hl with | [_], _ => rfl⟩⟩
  have F_is_wire := fun_mk (st := s_is_wire) l4 c4 k4
  have c_is_wire : Cal l.prog w K mg base "is_wire" 3 spIsWire := ⟨⟨_, _, _, ok_is_wire T F_is_wire c_is_whole_in, PySem.W.mg_of X G a4, k4, F_is_wire.binds fun _ _ _ _ _ _ us hl => match us, hl with | [_, _], _ => rfl⟩⟩
  have F_with_wire := fun_mk (st := s_with_wire) l5 c5 k5
  have c_with_wire : Cal l.prog w K mg base "with_wire" 1 spWithWire := ⟨⟨_, _, _, ok_with_wire T F_with_wire, PySem.W.mg_of X G a5, k5, F_with_wire.binds fun _ _ _ _ _ _ us hl => match us, hl with | [_, _, _], _ => rfl⟩⟩
  have F_lamps_beneath := fun_mk (st := s_lamps_beneath) l6 c6 k6
  have c_lamps_beneath : Cal l.prog w K mg base "lamps_beneath" 4 (spLampsBeneath K) := ⟨⟨_, _, _, ok_lamps_beneath T F_lamps_beneath c_is_wire c_with_wire, PySem.W.mg_of X G a6, k6, F_lamps_beneath.binds fun _ _ _ _ _ _ us hl => match us, hl with | [_, _], _ => rfl⟩⟩
  have F_is_next := fun_mk (st := s_is_next) l7 c7 k7
  have c_is_next : Cal l.prog w K mg base "is_next" 1 spIsNext := ⟨⟨_, _, _, ok_is_next T F_is_next, PySem.W.mg_of X G a7, k7, F_is_next.binds fun _ _ _ _ _ _ us hl => match us, hl with | [_, _, _], _ => rfl⟩⟩
  have F_order_list := fun_mk (st := s_order_list) l8 c8 k8
  have c_order_list : Cal l.prog w K mg base "order_list" 2 spOrderList := ⟨⟨_, _, _, ok_order_list T F_order_list c_is_next, PySem.W.mg_of X G a8, k8, F_order_list.binds fun _ _ _ _ _ _ us hl => match us, hl with | [_], _ => rfl⟩⟩
  have F_is_lamp := fun_mk (st := s_is_lamp) l9 c9 k9
  have c_is_lamp : Cal l.prog w K mg base "is_lamp" 3 (spIsLamp C) := ⟨⟨_, _, _, ok_is_lamp T F_is_lamp c_is_whole_in, PySem.W.mg_of X G a9, k9, F_is_lamp.binds fun _ _ _ _ _ _ us hl => match us, hl with | [_, _], _ => rfl⟩⟩
  have F_check_lamp := fun_mk (st := s_check_lamp) l10 c10 k10
  have c_check_lamp : Cal l.prog w K mg base "check_lamp" 4 (spCheckLamp C) := ⟨⟨_, _, _, ok_check_lamp T F_check_lamp c_is_lamp, PySem.W.mg_of X G a10, k10, F_check_lamp.binds fun _ _ _ _ _ _ us hl => match us, hl with | [_, _], _ => rfl⟩⟩
  have F_is_state := fun_mk (st := s_is_state) l11 c11 k11
  have c_is_state : Cal l.prog w K mg base "is_state" 3 (spIsState C) := ⟨⟨_, _, _, ok_is_state T F_is_state c_is_whole_in, PySem.W.mg_of X G a11, k11, F_is_state.binds fun _ _ _ _ _ _ us hl => match us, hl with | [_, _], _ => rfl⟩⟩
  have F_check_state := fun_mk (st := s_check_state) l12 c12 k12
  have c_check_state : Cal l.prog w K mg base "check_state" 4 (spCheckState C) := ⟨⟨_, _, _, ok_check_state T F_check_state c_is_state, PySem.W.mg_of X G a12, k12, F_check_state.binds fun _ _ _ _ _ _ us hl => match us, hl with | [_, _], _ => rfl⟩⟩
  have F_beneath := fun_mk (st := s_House_beneath) lM0 cM0 kM0
  have M_beneath : MCal l.prog w K mg base C "beneath" 5 (spBeneath C) := ⟨⟨_, _, _, ok_beneath T F_beneath c_check_lamp, ⟨aM0, iM0, kM0⟩, F_beneath.binds fun _ _ _ _ _ _ us hl => match us, hl with | [_, _], _ => rfl⟩⟩
  have F_first_lit_beneath := fun_mk (st := s_first_lit_beneath) l13 c13 k13
  have c_first_lit_beneath : Cal l.prog w K mg base "first_lit_beneath" 6 (spFirstLit C) := ⟨⟨_, _, _, ok_first_lit_beneath T F_first_lit_beneath M_beneath, PySem.W.mg_of X G a13, k13, F_first_lit_beneath.binds fun _ _ _ _ _ _ us hl => match us, hl with | [_, _, _], _ => rfl⟩⟩
  have F_turned := fun_mk (st := s_turned) l14 c14 k14
  have c_turned : Cal l.prog w K mg base "turned" 1 (spTurned C) := ⟨⟨_, _, _, ok_turned T F_turned, PySem.W.mg_of X G a14, k14, F_turned.binds fun _ _ _ _ _ _ us hl => match us, hl with | [_, _, _, _], _ => rfl⟩⟩
  have F_moved := fun_mk (st := s_moved) l15 c15 k15
  have c_moved : Cal l.prog w K mg base "moved" 7 (spMovedP C) := ⟨⟨_, _, _, ok_moved T F_moved c_first_lit_beneath c_turned M_beneath, PySem.W.mg_of X G a15, k15, F_moved.binds fun _ _ _ _ _ _ us hl => match us, hl with | [_, _, _, _, _], _ => rfl⟩⟩
  have F__law_box := fun_mk (st := s__law_box) l16 c16 k16
  have c__law_box : Cal l.prog w K mg base "_law_box" 1 (spBox K) := ⟨⟨_, _, _, ok__law_box T F__law_box, PySem.W.mg_of X G a16, k16, F__law_box.binds fun _ _ _ _ _ _ us hl => match us, hl with | [_], _ => rfl⟩⟩
  have F__law_mixed := fun_mk (st := s__law_mixed) l17 c17 k17
  have c__law_mixed : Cal l.prog w K mg base "_law_mixed" 1 spMixed := ⟨⟨_, _, _, ok__law_mixed T F__law_mixed, PySem.W.mg_of X G a17, k17, F__law_mixed.binds fun _ _ _ _ _ _ us hl => match us, hl with | [_, _], _ => rfl⟩⟩
  have F__law_take := fun_mk (st := s__law_take) l18 c18 k18
  have c__law_take : Cal l.prog w K mg base "_law_take" 2 spTake := ⟨⟨_, _, _, ok__law_take T F__law_take c__law_mixed, PySem.W.mg_of X G a18, k18, F__law_take.binds fun _ _ _ _ _ _ us hl => match us, hl with | [_, _], _ => rfl⟩⟩
  have F__law_line := fun_mk (st := s__law_line) l19 c19 k19
  have c__law_line : Cal l.prog w K mg base "_law_line" 3 spLine := ⟨⟨_, _, _, ok__law_line T F__law_line c__law_take, PySem.W.mg_of X G a19, k19, F__law_line.binds fun _ _ _ _ _ _ us hl => match us, hl with | [_, _], _ => rfl⟩⟩
  have F__law_wires := fun_mk (st := s__law_wires) l20 c20 k20
  have c__law_wires : Cal l.prog w K mg base "_law_wires" 3 spWires := ⟨⟨_, _, _, ok__law_wires T F__law_wires c__law_take, PySem.W.mg_of X G a20, k20, F__law_wires.binds fun _ _ _ _ _ _ us hl => match us, hl with | [_, _], _ => rfl⟩⟩
  have F__law_below := fun_mk (st := s__law_below) l21 c21 k21
  have c__law_below : Cal l.prog w K mg base "_law_below" 1 (Off spBelow) := ⟨⟨_, _, _, (ok__law_below T F__law_below).off, PySem.W.mg_of X G a21, k21, F__law_below.binds fun _ _ _ _ _ _ us hl => match us, hl with | [_, _], _ => rfl⟩⟩
  have F__law_state := fun_mk (st := s__law_state) l22 c22 k22
  have c__law_state : Cal l.prog w K mg base "_law_state" 3 spState := ⟨⟨_, _, _, ok__law_state T F__law_state c__law_take, PySem.W.mg_of X G a22, k22, F__law_state.binds fun _ _ _ _ _ _ us hl => match us, hl with | [_, _, _], _ => rfl⟩⟩
  have F__law_step := fun_mk (st := s__law_step) l23 c23 k23
  have c__law_step : Cal l.prog w K mg base "_law_step" 1 spStep := ⟨⟨_, _, _, ok__law_step T F__law_step, PySem.W.mg_of X G a23, k23, F__law_step.binds fun _ _ _ _ _ _ us hl => match us, hl with | [_, _, _, _], _ => rfl⟩⟩
  have F__law_same := fun_mk (st := s__law_same) l24 c24 k24
  have c__law_same : Cal l.prog w K mg base "_law_same" 1 spSame := ⟨⟨_, _, _, ok__law_same T F__law_same, PySem.W.mg_of X G a24, k24, F__law_same.binds fun _ _ _ _ _ _ us hl => match us, hl with | [_, _], _ => rfl⟩⟩
  have F__law_plan := fun_mk (st := s__law_plan) l25 c25 k25
  have c__law_plan : Cal l.prog w K mg base "_law_plan" 4 spPlan := ⟨⟨_, _, _, ok__law_plan T F__law_plan c__law_take c__law_line c__law_wires c__law_state, PySem.W.mg_of X G a25, k25, F__law_plan.binds fun _ _ _ _ _ _ us hl => match us, hl with | [_], _ => rfl⟩⟩
  have F__law_second := fun_mk (st := s__law_second) l26 c26 k26
  have c__law_second : Cal l.prog w K mg base "_law_second" 5 spSecond := ⟨⟨_, _, _, ok__law_second T F__law_second c__law_take c__law_plan, PySem.W.mg_of X G a26, k26, F__law_second.binds fun _ _ _ _ _ _ us hl => match us, hl with | [_, _], _ => rfl⟩⟩
  have F_init : FunV K "__init__" "House.__init__" s_House___init__ fI _ := ⟨⟨_, _, _, _, _, _, _, _, _, _, rfl, lI, cI⟩, kI⟩
  have i_ok := (ok_init T F_init c_check_count c_check_hues c_lamps_beneath c_order_list).off
  have c_House : NCal l.prog w K mg base C "House" 5 (Off (spInit K C)) := ⟨⟨_, _, _, i_ok, ⟨mk, aI, iI, kc⟩, binds_init (E := 0) lT⟩, PySem.W.mg_of X G aC⟩
  have c_House0 : NCalD l.prog w K mg base C "House" 5 (Off (spInit K C)) [.ref E0] := ⟨⟨_, _, _, _, i_ok, ⟨mk, aI, iI, kc⟩, binds_init0 lT, .cons rfl .nil⟩, PySem.W.mg_of X G aC⟩
  have hT0 : ∀ H : Hp, SqT K H E0 [] := fun H => .inr ⟨_, _, _, lE, eE, rfl, Nat.zero_le _, .nil⟩
  have F__law_house := fun_mk (st := s__law_house) l27 c27 k27
  have c__law_house : Cal l.prog w K mg base "_law_house" 7 (spHouse C) := ⟨⟨_, _, _, ok__law_house T hT0 F__law_house c__law_take c_House c_House0, PySem.W.mg_of X G a27, k27, F__law_house.binds fun _ _ _ _ _ _ us hl => match us, hl with | [_, _, _, _], _ => rfl⟩⟩
  have F__law_world := fun_mk (st := s__law_world) l28 c28 k28
  have c__law_world : Cal l.prog w K mg base "_law_world" 8 (spWorld C) := ⟨⟨_, _, _, ok__law_world T F__law_world c__law_house c__law_below, PySem.W.mg_of X G a28, k28, F__law_world.binds fun _ _ _ _ _ _ us hl => match us, hl with | [_, _], _ => rfl⟩⟩
  have F__law_wrong := fun_mk (st := s__law_wrong) l29 c29 k29
  have c__law_wrong : Cal l.prog w K mg base "_law_wrong" 1 spWrong := ⟨⟨_, _, _, ok__law_wrong T F__law_wrong, PySem.W.mg_of X G a29, k29, F__law_wrong.binds fun _ _ _ _ _ _ us hl => match us, hl with | [_, _, _, _], _ => rfl⟩⟩
  have F__law_ready := fun_mk (st := s__law_ready) l30 c30 k30
  have c__law_ready : Cal l.prog w K mg base "_law_ready" 3 (spReady C) := ⟨⟨_, _, _, ok__law_ready T F__law_ready c__law_take, PySem.W.mg_of X G a30, k30, F__law_ready.binds fun _ _ _ _ _ _ us hl => match us, hl with | [_, _, _, _], _ => rfl⟩⟩
  have F__law_every := fun_mk (st := s__law_every) l31 c31 k31
  have c__law_every : Cal l.prog w K mg base "_law_every" 1 spEvery := ⟨⟨_, _, _, ok__law_every T F__law_every, PySem.W.mg_of X G a31, k31, F__law_every.binds fun _ _ _ _ _ _ us hl => match us, hl with | [_, _], _ => rfl⟩⟩
  have F__law_back := fun_mk (st := s__law_back) l32 c32 k32
  have c__law_back : Cal l.prog w K mg base "_law_back" 1 spBack := ⟨⟨_, _, _, ok__law_back T F__law_back, PySem.W.mg_of X G a32, k32, F__law_back.binds fun _ _ _ _ _ _ us hl => match us, hl with | [_, _, _, _, _], _ => rfl⟩⟩
  have F__law_due := fun_mk (st := s__law_due) l33 c33 k33
  have c__law_due : Cal l.prog w K mg base "_law_due" 2 spDue := ⟨⟨_, _, _, ok__law_due T F__law_due c__law_back c__law_step c__law_wrong, PySem.W.mg_of X G a33, k33, F__law_due.binds fun _ _ _ _ _ _ us hl => match us, hl with | [_, _, _, _, _, _], _ => rfl⟩⟩
  have F__law_maybe := fun_mk (st := s__law_maybe) l34 c34 k34
  have c__law_maybe : Cal l.prog w K mg base "_law_maybe" 2 spMaybe := ⟨⟨_, _, _, ok__law_maybe T F__law_maybe c__law_same, PySem.W.mg_of X G a34, k34, F__law_maybe.binds fun _ _ _ _ _ _ us hl => match us, hl with | [_, _], _ => rfl⟩⟩
  have F_before : FunV K "before" "before" s_before fW1 _ := ⟨⟨_, _, _, _, _, _, _, _, _, _, rfl, lW1, cW1⟩, kW1⟩
  have c_before : KwCal l.prog w K mg base "before" 8 3 "careful" (spBefore C) := ⟨⟨_, _, _, ok_before T F_before c_check_state c_check_lamp c_turned M_beneath, PySem.W.mg_of X G aW1, kW1, ⟨[uW1], .cons (by rw [rW1]; rfl) .nil, kw_before nW1⟩, kk_before⟩⟩
  have F_after : FunV K "after" "after" s_after fW0 _ := ⟨⟨_, _, _, _, _, _, _, _, _, _, rfl, lW0, cW0⟩, kW0⟩
  have c_after : KwCal l.prog w K mg base "after" 8 3 "careful" (spAfter C) := ⟨⟨_, _, _, ok_after T F_after c_check_state c_check_lamp c_moved, PySem.W.mg_of X G aW0, kW0, ⟨[uW0], .cons (by rw [rW0]; rfl) .nil, kw_after nW0⟩, kk_after⟩⟩
  have F__law_lamp := fun_mk (st := s__law_lamp) l35 c35 k35
  have c__law_lamp : Cal l.prog w K mg base "_law_lamp" 9 (spLamp C) := ⟨⟨_, _, _, ok__law_lamp T F__law_lamp c__law_due c_before c__law_maybe c__law_same c_after c__law_wrong c__law_step, PySem.W.mg_of X G a35, k35, F__law_lamp.binds fun _ _ _ _ _ _ us hl => match us, hl with | [_, _, _, _, _, _], _ => rfl⟩⟩
  have F__law_holds := fun_mk (st := s__law_holds) l36 c36 k36
  have c__law_holds : Cal l.prog w K mg base "_law_holds" 10 (spHolds C) := ⟨⟨_, _, _, ok__law_holds T F__law_holds c__law_every c__law_lamp, PySem.W.mg_of X G a36, k36, F__law_holds.binds fun _ _ _ _ _ _ us hl => match us, hl with | [_, _, _, _], _ => rfl⟩⟩
  have F__law_walk := fun_mk (st := s__law_walk) l37 c37 k37
  have c__law_walk : Cal l.prog w K mg base "_law_walk" 11 (spWalk C) := ⟨⟨_, _, _, ok__law_walk T F__law_walk c__law_take c__law_back c_before c__law_same c_after c__law_holds, PySem.W.mg_of X G a37, k37, F__law_walk.binds fun _ _ _ _ _ _ us hl => match us, hl with | [_, _, _, _, _], _ => rfl⟩⟩
  exact ok_law T (fun_mk (st := s_law) l38 c38 k38) c__law_box c__law_plan c__law_world c__law_second c__law_ready c__law_holds c__law_walk
theorem walk {l : PySem.W.OpenLaw} {q : Program} {loose : List Str} {XP : (Str → Option Value) → Heap → Prop} {YP : World → Heap → Prop} {d : DefRec} {K : Params → PySem.W.Frag} (hn : l.most = some 63) (hdf : d.params.defaults = [])
    (hY : ∀ (w : World) (h : Heap), YP w h → (K w.params).In h)
    (F : ∀ (w : World) (mg : Str → Option Value) (fa : Addr) (h : Heap), (K w.params).In h → h.Ns mainGlobals mg → mg d.name = some (.ref fa) →
      ∃ fd : FuncData, (∀ (s : Shared) (u : Value), BindsTo s fd ⟨[u], []⟩ [("script", u)]) ∧ ∀ base : Heap, (K w.params).In base → base.Ns mainGlobals mg → FnOk l.prog w (K w.params) mg base CX0 12 fa fd ["script"] (spLaw (K w.params))) :
    PySem.W.WalkO q loose XP YP l.row.toRowW d [] (fun f vs => PySem.call f vs) :=
  L2.walk_of (n := 63) (k := 12) (x := "script") (CX := fun _ => CX0) (sp := fun w => spLaw (K w.params)) hn (by decide) hdf ⟨rfl, by decide, by decide⟩ hY F (fun _ _ a ns hl _ hS => ⟨a, ns, rfl, hS, hl, fun _ => rfl⟩) fun _ _ _ _ _ z => z
end Hue

end
section


open PySem PySem.W PyProof.Rows in
set_option maxRecDepth 100000 in
set_option maxHeartbeats 0 in
theorem PySem.Challenge.cw_huefall_k09_states_before_holds : PySem.Challenge.rw_huefall_k09_states_before.Holds := by
  w_on; o_law; k_head; (case hw => w_witness2)
  k_fill
  refine Hue.walk (l := PySem.Challenge.rw_huefall_k09_states_before) rfl rfl (fun w h Y => PySem.W.kIn_of Y) ?F
  case F =>
    intro w mg fa h KX G hmg
    refine' Hue.all_mk KX G hmg ?aC ?a0 ?l0 ?c0 ?k0 ?a1 ?l1 ?c1 ?k1 ?a2 ?l2 ?c2 ?k2 ?a3 ?l3 ?c3 ?k3 ?a4 ?l4 ?c4 ?k4 ?a5 ?l5 ?c5 ?k5 ?a6 ?l6 ?c6 ?k6 ?a7 ?l7 ?c7 ?k7 ?a8 ?l8 ?c8 ?k8 ?a9 ?l9 ?c9 ?k9 ?a10 ?l10 ?c10 ?k10 ?a11 ?l11 ?c11 ?k11 ?a12 ?l12 ?c12 ?k12 ?a13 ?l13 ?c13 ?k13 ?a14 ?l14 ?c14 ?k14 ?a15 ?l15 ?c15 ?k15 ?a16 ?l16 ?c16 ?k16 ?a17 ?l17 ?c17 ?k17 ?a18 ?l18 ?c18 ?k18 ?a19 ?l19 ?c19 ?k19 ?a20 ?l20 ?c20 ?k20 ?a21 ?l21 ?c21 ?k21 ?a22 ?l22 ?c22 ?k22 ?a23 ?l23 ?c23 ?k23 ?a24 ?l24 ?c24 ?k24 ?a25 ?l25 ?c25 ?k25 ?a26 ?l26 ?c26 ?k26 ?a27 ?l27 ?c27 ?k27 ?a28 ?l28 ?c28 ?k28 ?a29 ?l29 ?c29 ?k29 ?a30 ?l30 ?c30 ?k30 ?a31 ?l31 ?c31 ?k31 ?a32 ?l32 ?c32 ?k32 ?a33 ?l33 ?c33 ?k33 ?a34 ?l34 ?c34 ?k34 ?a35 ?l35 ?c35 ?k35 ?a36 ?l36 ?c36 ?k36 ?a37 ?l37 ?c37 ?k37 ?a38 ?l38 ?c38 ?k38 ?aW0 ?lW0 ?cW0 ?kW0 ?nW0 ?rW0 ?aW1 ?lW1 ?cW1 ?kW1 ?nW1 ?rW1 ?aM0 ?iM0 ?lM0 ?cM0 ?kM0 ?aI ?iI ?lI ?cI ?kI ?lT ?lE ?eE ?pg ?hd ?po ?sa ?mk ?kc ?nCount ?nHues ?nBen ?nWires ?nAbove ?nDirect ?nOrder ?rd ?ga ?v1 ?r1 ?v2 ?r2 ?b_len ?b_range ?b_isinstance ?b_int ?b_bool ?b_tuple ?b_list ?b_set ?b_enumerate ?b_sorted ?b_min ?b_all ?b_any ?b_abs ?b_reversed ?b_max
    (case aC => k_is)
    (case a0 => k_is)
    (case l0 => k_is)
    (case c0 => k_is)
    (case k0 => k_is)
    (case a1 => k_is)
    (case l1 => k_is)
    (case c1 => k_is)
    (case k1 => k_is)
    (case a2 => k_is)
    (case l2 => k_is)
    (case c2 => k_is)
    (case k2 => k_is)
    (case a3 => k_is)
    (case l3 => k_is)
    (case c3 => k_is)
    (case k3 => k_is)
    (case a4 => k_is)
    (case l4 => k_is)
    (case c4 => k_is)
    (case k4 => k_is)
    (case a5 => k_is)
    (case l5 => k_is)
    (case c5 => k_is)
    (case k5 => k_is)
    (case a6 => k_is)
    (case l6 => k_is)
    (case c6 => k_is)
    (case k6 => k_is)
    (case a7 => k_is)
    (case l7 => k_is)
    (case c7 => k_is)
    (case k7 => k_is)
    (case a8 => k_is)
    (case l8 => k_is)
    (case c8 => k_is)
    (case k8 => k_is)
    (case a9 => k_is)
    (case l9 => k_is)
    (case c9 => k_is)
    (case k9 => k_is)
    (case a10 => k_is)
    (case l10 => k_is)
    (case c10 => k_is)
    (case k10 => k_is)
    (case a11 => k_is)
    (case l11 => k_is)
    (case c11 => k_is)
    (case k11 => k_is)
    (case a12 => k_is)
    (case l12 => k_is)
    (case c12 => k_is)
    (case k12 => k_is)
    (case a13 => k_is)
    (case l13 => k_is)
    (case c13 => k_is)
    (case k13 => k_is)
    (case a14 => k_is)
    (case l14 => k_is)
    (case c14 => k_is)
    (case k14 => k_is)
    (case a15 => k_is)
    (case l15 => k_is)
    (case c15 => k_is)
    (case k15 => k_is)
    (case a16 => k_is)
    (case l16 => k_is)
    (case c16 => k_is)
    (case k16 => k_is)
    (case a17 => k_is)
    (case l17 => k_is)
    (case c17 => k_is)
    (case k17 => k_is)
    (case a18 => k_is)
    (case l18 => k_is)
    (case c18 => k_is)
    (case k18 => k_is)
    (case a19 => k_is)
    (case l19 => k_is)
    (case c19 => k_is)
    (case k19 => k_is)
    (case a20 => k_is)
    (case l20 => k_is)
    (case c20 => k_is)
    (case k20 => k_is)
    (case a21 => k_is)
    (case l21 => k_is)
    (case c21 => k_is)
    (case k21 => k_is)
    (case a22 => k_is)
    (case l22 => k_is)
    (case c22 => k_is)
    (case k22 => k_is)
    (case a23 => k_is)
    (case l23 => k_is)
    (case c23 => k_is)
    (case k23 => k_is)
    (case a24 => k_is)
    (case l24 => k_is)
    (case c24 => k_is)
    (case k24 => k_is)
    (case a25 => k_is)
    (case l25 => k_is)
    (case c25 => k_is)
    (case k25 => k_is)
    (case a26 => k_is)
    (case l26 => k_is)
    (case c26 => k_is)
    (case k26 => k_is)
    (case a27 => k_is)
    (case l27 => k_is)
    (case c27 => k_is)
    (case k27 => k_is)
    (case a28 => k_is)
    (case l28 => k_is)
    (case c28 => k_is)
    (case k28 => k_is)
    (case a29 => k_is)
    (case l29 => k_is)
    (case c29 => k_is)
    (case k29 => k_is)
    (case a30 => k_is)
    (case l30 => k_is)
    (case c30 => k_is)
    (case k30 => k_is)
    (case a31 => k_is)
    (case l31 => k_is)
    (case c31 => k_is)
    (case k31 => k_is)
    (case a32 => k_is)
    (case l32 => k_is)
    (case c32 => k_is)
    (case k32 => k_is)
    (case a33 => k_is)
    (case l33 => k_is)
    (case c33 => k_is)
    (case k33 => k_is)
    (case a34 => k_is)
    (case l34 => k_is)
    (case c34 => k_is)
    (case k34 => k_is)
    (case a35 => k_is)
    (case l35 => k_is)
    (case c35 => k_is)
    (case k35 => k_is)
    (case a36 => k_is)
    (case l36 => k_is)
    (case c36 => k_is)
    (case k36 => k_is)
    (case a37 => k_is)
    (case l37 => k_is)
    (case c37 => k_is)
    (case k37 => k_is)
    (case a38 => k_is)
    (case l38 => k_is)
    (case c38 => k_is)
    (case k38 => k_is)
    (case aW0 => k_is)
    (case lW0 => k_is)
    (case cW0 => k_is)
    (case kW0 => k_is)
    (case nW0 => k_is)
    (case rW0 => rfl)
    (case aW1 => k_is)
    (case lW1 => k_is)
    (case cW1 => k_is)
    (case kW1 => k_is)
    (case nW1 => k_is)
    (case rW1 => rfl)
    (case aM0 => k_is)
    (case iM0 => k_is)
    (case lM0 => k_is)
    (case cM0 => k_is)
    (case kM0 => k_is)
    (case aI => k_is)
    (case iI => k_is)
    (case lI => k_is)
    (case cI => k_is)
    (case kI => k_is)
    (case lT => k_is)
    (case lE => k_is)
    (case eE => rfl)
    (case pg => k_is)
    (case hd => k_is)
    (case po => k_is)
    (case sa => k_is)
    (case mk => k_is)
    (case kc => k_is)
    (case nCount => k_is)
    (case nHues => k_is)
    (case nBen => k_is)
    (case nWires => k_is)
    (case nAbove => k_is)
    (case nDirect => k_is)
    (case nOrder => k_is)
    (case rd => k_is)
    (case ga => k_is)
    (case v1 => k_is)
    (case r1 => exact ⟨_, rfl⟩)
    (case v2 => k_is)
    (case r2 => exact ⟨_, rfl⟩)
    (case b_len => k_is)
    (case b_range => k_is)
    (case b_isinstance => k_is)
    (case b_int => k_is)
    (case b_bool => k_is)
    (case b_tuple => k_is)
    (case b_list => k_is)
    (case b_set => k_is)
    (case b_enumerate => k_is)
    (case b_sorted => k_is)
    (case b_min => k_is)
    (case b_all => k_is)
    (case b_any => k_is)
    (case b_abs => k_is)
    (case b_reversed => k_is)
    (case b_max => k_is)

end
