import PyProof.Rows.All
import Wide.All
import OpenK.AllK
import Wide.FinOn
import HandS.TupSets
import HandS.Sort
import HandS.SetFor
import HandS.Strs
import HandS.ForMost
import HandS.Flow
import HandS.Style
import HandS.IsInst
import HandS.Conv
import HandS.ClsMeth
import HandS.SortRule
import HandS.TupLen
import HandS.Star
import HandS.TupAny
import HandS.Codes
import HandS.SortInts
import HandS.Walk
import HandS.Defaults
import PySem.Challenge.RW_huefall_k16_whole_reach_is_search
set_option Elab.async false
set_option linter.all false
section
set_option maxRecDepth 100000
set_option maxHeartbeats 2000000
namespace L2
open PySem PySem.Spec PyProof.Rows
/-! ### ranges as values, walked by their name -/
section
variable {X : Cx} {tg e : Expr} {te : TE}
theorem hu_cr_range1 : CallR X (.type "range") (fun vs H Q => ∃ j, vs = [V.int j] ∧ ∀ p, H p = none → Q (.ref p) (upd H p (.rng 0 j))) := by
  intro pins s σ H vs us Q I r h
  obtain ⟨j, rfl, q⟩ := h
  cases r with
  | cons rj rr =>
    cases rr
    obtain ⟨t, rfl⟩ := rj
    have lay := I.laid (a := s.heap.objs.size) (o := .rng 0 j) (t' := s.toks + 1 + 1) (h' := s.heap.push { cls := .type "range", data := .fields #[.int 0 s.toks, .int j t, .int 1 (s.toks + 1)] })
      (fun b o ho => Heap.get?_push_of_some _ ho) (Nat.le_refl _) ⟨s.toks, t, s.toks + 1, Heap.get?_push_size _ rfl⟩
    exact call_range_1 ⟨.ref s.heap.objs.size, _, lay, rfl, q _ (I.hok.fresh (Nat.le_refl _))⟩
def iHuRng (te : TE) : TI := fun σ H R => te σ H fun v H1 => ∃ a lo hi, v = .ref a ∧ H1 a = some (.rng lo hi) ∧ (-(2 ^ 62) ≤ lo ∧ lo < 2 ^ 62 ∧ -(2 ^ 62) ≤ hi ∧ hi < 2 ^ 62) ∧ R (Itr lo (hi - lo).toNat) H1
theorem hu_pi_rng (he : PE X e te) : PI X tg e (iHuRng te) := by
  refine ⟨fun pins s σ H R I h => ?_⟩
  refine thn (he.run pins s σ H _ I h) fun v s1 ⟨x, H1, I1, r1, q1⟩ => ?_
  obtain ⟨a, lo, hi, rfl, ha, ⟨b1, b2, b3, b4⟩, q⟩ := q1
  cases r1
  obtain ⟨t, u, w, ho⟩ := I1.hok a _ ha
  have ho' : IsRange s1.heap a lo hi 1 t u w := ho
  refine wpAny_pyIter_range ho' (small_one b1 b2 b3 b4) ?_
  refine ⟨s1.heap.objs.size, [s1.heap.objs.size], _, _, H1, rfl, I1.kept (t' := s1.toks) fun b o eo => Heap.get?_push_of_some _ eo, turn_range _ lo (hi - lo).toNat, ?_, fun b hb => ?_, q⟩
  · have z1 : lo + ((0 : Nat) : Int) * 1 = lo := by simp
    have z2 : (((hi - lo).toNat : Nat) : Int) - ((0 : Nat) : Int) = Builtin.Range.rangeSize lo hi 1 := by
      rw [rangeSize_one]; split <;> omega
    show IsRangeIter _ _ (lo + ((0 : Nat) : Int) * 1) ((((hi - lo).toNat : Nat) : Int) - ((0 : Nat) : Int)) 1
    rw [z1, z2]
    exact Heap.get?_push_size _ rfl
  · obtain rfl : b = s1.heap.objs.size := by simpa using hb
    exact I1.fpOk (Nat.le_refl _) (I1.hok.fresh (Nat.le_refl _))
end
/-! ### set(xs), xs a list of ints -/
section
variable {P : Program} {w : World} {A : Around} {E : Value → Shared → Prop} {s : Shared}
/-- the new set's record -/
abbrev newSetO (w : World) : Obj := { cls := .type "set", dict := none, data := .set #[] 0 (.fresh 0 0 (!w.params.followText "set-order")) }
set_option maxHeartbeats 3200000 in
theorem hu_call_set_list {l : Addr} {its : Array Value} (ns : List Int) {Q : Value → Shared → Prop} (nh : A.handled = none) (isl : s.heap.IsList l its) (hin : IntsAre its.toList ns) (small : ns.length + 1 < scanBound)
    (fin : ∀ (g : Heap) (tk c : Nat), SetR w g s.heap.objs.size (fun j => decide (j ∈ ns)) c → c ≤ ns.length → (∀ b o, s.heap.get? b = some o → g.get? b = some o) → Q (.ref s.heap.objs.size) { s with heap := g, toks := tk }) :
    wpAny (model P w) A (call (.type "set") [.ref l]) Q E s := by
  have size_eq : its.size = ns.length := by
    have z := IntsAre.length hin
    rwa [Array.length_toList] at z
  obtain ⟨c, tl, hmro⟩ := F.called_set.mro
  have made := F.called_set.made
  have sub := F.called_set.sub
  refine wpAny_call (codeAny_of_tree ?_)
  show wpAny _ _ (callAny (.type "set") _) _ _ _
  refine wpAny_pure ⟨Code.quiet_builtin _ (by decide +kernel), codeAny_builtin F.entry_type_call ?_⟩
  rw [Around.under_plain (weight_type_call_type "set" [.ref l] []) rfl]
  have nt := F.called_set.notType
  have cc := F.called_set.canCreate
  have tc := F.typeCall_set_1 (.ref l)
  repeat (any_goals (first | assumption | wp_step))
  refine codeAny_mono (code_set_led1 (.ref l) (E := E) (Q₁ := fun obj s1 => obj = .ref s.heap.objs.size ∧ s1 = { s with heap := s.heap.push (newSetO w) }) ⟨rfl, rfl⟩) fun r s1 hr => ?_
  cases r with
  | error e => exact hr
  | ok fl =>
    cases fl with
    | ret obj =>
      obtain ⟨rfl, rfl⟩ := hr
      have gS : (s.heap.push (newSetO w)).get? s.heap.objs.size = some (newSetO w) := Heap.get?_push_size _ rfl
      have tS : Shared.TypeIs { s with heap := s.heap.push (newSetO w) } (.ref s.heap.objs.size) "set" := ⟨_, gS, rfl⟩
      have il := F.called_set.init.lookup
      have ib := F.called_set.init.bind (.ref s.heap.objs.size)
      repeat (any_goals (first | assumption | wp_step))
      refine codeAny_mono (codeAny_call_builtin (R := wants (fun r s2 => r = .none ∧ ∃ g tk c, s2 = { s with heap := g, toks := tk } ∧ SetR w g s.heap.objs.size (fun j => decide (j ∈ ns)) c ∧ c ≤ ns.length ∧
          (∀ b o, s.heap.get? b = some o → g.get? b = some o)) E) F.called_set.init.plain F.entry_set_init (check_set_init_1 tS ?_)) fun r2 s2 hr2 => ?_
      · obtain ⟨⟨oc, od, odat, osl⟩, hol, hcl, nl, hdl⟩ := isl
        simp only at hcl hdl
        subst hcl; subst hdl
        have hol1 : (s.heap.push (newSetO w)).get? l = some { cls := .type "list", dict := od, data := .seq its nl, slots := osl } := Heap.get?_push_of_some _ hol
        have k1 := F.sub_list_set
        have k2 := F.sub_list_frozenset
        have k3 : (Value.type "list" == Value.type "dict") = false := by decide
        have isl1 : (s.heap.push (newSetO w)).IsList l its := ⟨_, hol1, rfl, nl, rfl⟩
        unfold Builtin.«set.__init__» noKeywords Builtin.Frozenset.updateFrom
        generalize hPI : pyIter = PI
        wp_walk
        subst hPI
        refine wpAny_pyIter_list isl1 ?_
        refine wpAny_bind (wpAny_runValue ?_)
        have lt : l < s.heap.objs.size := Heap.lt_size hol
        have nh3 : A.in1.in1.in1.handled = none := by simp [nh]
        have ne1 : l ≠ (s.heap.push (newSetO w)).objs.size := by
          rw [Heap.size_push]; exact Nat.ne_of_lt (Nat.lt_succ_of_lt lt)
        have nin : s.heap.objs.size ∉ [(s.heap.push (newSetO w)).objs.size, l] := by
          rw [Heap.size_push]
          simp only [List.mem_cons, List.mem_singleton, List.not_mem_nil, or_false, not_or]
          exact ⟨Nat.ne_of_lt (Nat.lt_succ_self _), Nat.ne_of_gt lt⟩
        have val : ∀ (i : Nat) (v : Value), its[i]? = some v → ∃ k t, ns[i]? = some k ∧ v = .int k t := fun i v hv => by
          have hi : i < ns.length := by rw [← size_eq]; exact (Array.getElem?_eq_some_iff.mp hv).1
          obtain ⟨t, e⟩ := PyProof.Rows.IntsAre.int_at hin i v (by rw [Array.getElem?_toList]; exact hv)
          refine ⟨ns[i], t, List.getElem?_eq_getElem hi, ?_⟩
          rw [e, List.getD_eq_getElem?_getD, List.getElem?_eq_getElem hi] <;> rfl
        refine set_update_ints ((Walks.list nh3 _ l ne1 its).toS) s.heap.objs.size nin ns size_eq small val (its.size - 0) 0 _ (by omega) (Nat.zero_le _)
          ⟨⟨_, Heap.get?_push_size _ rfl, rfl, rfl⟩, (isl1.push _)⟩ ?start ?ends
        case start =>
          exact ⟨0, Nat.le_refl 0, setR_new_at (Heap.get?_push_of_some _ gS)⟩
        case ends =>
          intro s3 c3 mv hc3 hS3
          obtain ⟨g3, gn3, d3, tk3, os3⟩ := s3
          obtain rfl : gn3 = s.gens := mv.gens
          obtain rfl : d3 = s.drawn := mv.drawn
          obtain rfl : os3 = s.os := mv.os
          show wpAny _ _ _ _ _ _
          refine wpAny_pure ?_
          show wpAny _ _ (ret Value.none) _ _ _
          rw [size_eq] at hc3
          refine wpAny_pure ⟨rfl, g3, tk3, c3, rfl, hS3, hc3, fun b o e => ?_⟩
          have b0 : b < s.heap.objs.size := Heap.lt_size e
          have b2 : b ≠ (s.heap.push (newSetO w)).objs.size := by
            rw [Heap.size_push]; exact Nat.ne_of_lt (Nat.lt_succ_of_lt b0)
          refine mv.heap b o ?_ (Heap.get?_push_of_some _ (Heap.get?_push_of_some _ e))
          simp only [List.mem_cons, List.mem_singleton, List.not_mem_nil, or_false, not_or]
          exact ⟨Nat.ne_of_lt b0, b2⟩
      · cases r2 with
        | error e => exact hr2
        | ok fl2 =>
          cases fl2 with
          | ret r =>
            obtain ⟨rfl, g, tk, c, rfl, hS, hc, hk⟩ := hr2
            repeat (any_goals (first | assumption | wp_step))
            exact fin _ _ _ hS hc hk
          | _ => exact hr2.elim
    | _ => exact hr.elim
end
section
variable {X : Cx}
/-- set(xs) of a list of ints -/
def rHuSetL (K : PySem.W.Frag) (w : World) : List V → Hp → VK → Prop := fun vs H Q => ∃ (a : Addr) (ns : List Int), vs = [V.ref a] ∧ SqL K H a (ns.map V.int) ∧ ns.length ≤ 1000 ∧
  ∀ p c, H p = none → c ≤ ns.length → Q (.ref p) (upd H p (SetO w p (fun j => decide (j ∈ ns)) c))
theorem hu_cr_setL (hc : X.calm = true) : CallR X (.type "set") (rHuSetL X.K X.w) := by
  intro pins s σ H vs us Q I r h
  obtain ⟨a, ns, rfl, hl, hn, q⟩ := h
  rw [Vals.ref1 r]
  obtain ⟨its, rv, pl, hz⟩ := I.list hl
  refine hu_call_set_list (P := X.prog) (w := X.w) ns (I.ok.hd hc) pl.isList (by simpa using rv.ints) (by unfold scanBound; omega) fun g tk c hS hle hk => ?_
  exact ⟨.ref s.heap.objs.size, _, I.laid (t' := tk) hk (Nat.le_refl _) (setO_new hS), rfl, q _ c (I.hok.fresh (Nat.le_refl _)) hle⟩
end
end L2

end
section
set_option maxRecDepth 100000
set_option maxHeartbeats 2000000
namespace L2
open PySem PySem.Spec PyProof.Rows
/-! ### sets of tuples of ints: in, add, set() -/
section
variable {P : Program} {w : World} {A : Around} {E : Value → Shared → Prop} {s : Shared}
variable {a : Addr} {L : List (Addr × List Int)} {es : Array (Int × Value)} {ep : Nat} {t : SetTable}
/-- the c-th place that a search for the hash comes to -/
abbrev pAt (m : Nat) (h : Int) (c : Nat) : SetTable.Probe := nth m (runAt m (SetTable.bits h % (m + 1)) (SetTable.bits h)) c
theorem pAt_dummy (m : Nat) (h : Int) (c : Nat) : (pAt m h c).dummy = none := by
  have all : ∀ (n : Nat) (p : SetTable.Probe), p.dummy = none → (nth m p n).dummy = none := by
    intro n
    induction n with
    | zero => exact fun p hp => hp
    | succ n ih =>
      intro p hp
      refine ih (adv m p) ?_
      unfold adv
      split <;> exact hp
  exact all c _ rfl
theorem pAt_on (m : Nat) (h : Int) (c q : Nat) : nth m (pAt m h c) q = pAt m h (c + q) := (nth_add m c _ q).symm
/-- a search that only asks -/
theorem find_from (R : SetTR P w s.heap a L es ep t) {x : Addr} {k : List Int} (hx : IsT P w s.heap k x) (hu : A.units < cLine) {K : Nat} (fuelK : K < 10 * SetTable.turns t.mask)
    (freeK : way t.mask (thash P w k) K ∉ t.place.toList) (below : ∀ c, c < K → way t.mask (thash P w k) c ∈ t.place.toList) {Q : SetFound → Shared → Prop}
    (yes : ∀ i, k ∈ L.map (·.2) → Q (.there (some i)) s) (no : k ∉ L.map (·.2) → Q (.free (way t.mask (thash P w k) K) false) s) :
    ∀ (f c : Nat) (stand : Option SetTable.Probe), stand.getD (t.probeStart (thash P w k)) = pAt t.mask (thash P w k) c → c ≤ K → K - c < f →
      (∀ (i : Nat) p, L[i]? = some p → p.2 = k → ∃ d, c ≤ d ∧ d < K ∧ t.place.toList[i]? = some (way t.mask (thash P w k) d)) →
      wpAny (model P w) A (setSearchFrom a (.ref x) (thash P w k) false f stand) Q E s
  | 0, _, _, _, _, lt, _ => absurd lt (Nat.not_lt_zero _)
  | f + 1, c, stand, st, cK, lt, left => by
    obtain ⟨o, ho, hex, hd⟩ := R.ob
    rw [setSearchFrom_succ]
    refine wpAny_bind (wpAny_setState_of ho hd R.fits ?_)
    dsimp only
    refine wp_if_neg R.gw ?_
    try refine wpAny_bind (wpAny_pure ?_)
    have jq : ∀ q, (nth t.mask (pAt t.mask (thash P w k) c) q).j = way t.mask (thash P w k) (c + q) := fun q => congrArg SetTable.Probe.j (pAt_on ..)
    have hashAt : ∀ (i : Nat) p, L[i]? = some p → (es[i]?.map (·.1)).getD 0 = thash P w p.2 := fun i p hp => by
      rw [R.entry hp] <;> rfl
    rcases go_spec t R.tab.ris R.tab.dm (fun i => (es[i]?.map (·.1)).getD 0) (thash P w k) (10 * SetTable.turns t.mask) (K - c) _ (pAt_dummy t.mask (thash P w k) c) (by omega)
      (fun q hq => by rw [jq]; exact below (c + q) (by omega)) (by rw [jq, show c + (K - c) = K by omega]; exact freeK) with ⟨q, i, hq, hi, hh, hno, hpr⟩ | ⟨hno, hpr⟩
    · have pr : t.probe (fun i => (es[i]?.map (·.1)).getD 0) (thash P w k) (stand.getD (t.probeStart (thash P w k))) = some (.candidate (way t.mask (thash P w k) (c + q)) i (pAt t.mask (thash P w k) (c + (q + 1)))) := by
        rw [st, ← jq, ← pAt_on]
        exact hpr
      rw [pr]
      dsimp only
      rw [jq] at hi
      have il : i < L.length := by
        have z1 : i < t.place.toList.length := (List.getElem?_eq_some_iff.mp hi).1
        have z2 := R.tab.sz
        rw [List.length_map] at z2
        rw [Array.length_toList] at z1
        omega
      obtain ⟨p, hp⟩ : ∃ p, L[i]? = some p := ⟨_, List.getElem?_eq_getElem il⟩
      have mem : p ∈ L := List.mem_of_getElem? hp
      have live : t.slot (way t.mask (thash P w k) (c + q)) = .live i := slot_live R.tab.ris hi
      have cont : wpAny (model P w) A (searchRest a (.ref x) (thash P w k) false f es t (way t.mask (thash P w k) (c + q)) i (pAt t.mask (thash P w k) (c + (q + 1)))) Q E s := by
        unfold searchRest
        rw [R.entry hp]
        dsimp only
        refine wpAny_bind (wpAny_holding (wpAny_eqBool_tuple hu (R.tup p mem) hx ?_))
        refine wpAny_bind (wpAny_setState_of ho hd R.fits ?_)
        dsimp only
        refine wp_if_neg (by simp) ?_
        try refine wpAny_bind (wpAny_pure ?_)
        rw [sameMem]
        dsimp only
        simp only [if_true, live, R.entry hp]
        refine wpAny_bind (wpAny_isSame_ref_self (wpAny_bind (wpAny_pure ?_)))
        simp only [if_true]
        by_cases kk : p.2 = k
        · refine wp_if_pos (by simp [kk]) ?_
          exact wpAny_pure (yes i (List.mem_map.mpr ⟨p, mem, kk⟩))
        · refine wp_if_neg (by simp [kk]) ?_
          refine find_from R hx hu fuelK freeK below yes no f (c + (q + 1)) _ rfl (by omega) (by omega) fun i0 p0 h0 k0 => ?_
          obtain ⟨d, d1, d2, d3⟩ := left i0 p0 h0 k0
          refine ⟨d, ?_, d2, d3⟩
          have e0 : (es[i0]?.map (·.1)).getD 0 = thash P w k := (hashAt i0 p0 h0).trans (congrArg (thash P w) k0)
          rcases Nat.lt_trichotomy d (c + q) with z | z | z
          · exact absurd e0 (hno (d - c) i0 (by omega) (by rw [jq, show c + (d - c) = d by omega]; exact d3))
          · exfalso
            rw [z] at d3
            have live0 := slot_live R.tab.ris d3
            rw [live] at live0
            injection live0 with ei
            rw [← ei, hp] at h0
            exact kk ((congrArg Prod.snd (Option.some.inj h0)).trans k0)
          · omega
      by_cases led : t.led = true
      · refine wp_if_neg (by simp [led]) ?_
        try refine wpAny_bind (wpAny_pure ?_)
        exact cont
      · refine wp_if_pos (by simp [led]) ?_
        refine wpAny_bind (seen_tup hx (fun y hy => ?_) ?_)
        · obtain ⟨e, he, ee⟩ := List.mem_map.mp hy
          have he1 : e ∈ es ∧ e.1 = thash P w k := by simpa using he
          have he2 : e ∈ es.toList := by simpa using he1.1
          rw [R.rows] at he2
          obtain ⟨p2, hp2, e2⟩ := List.mem_map.mp he2
          exact ⟨p2.2, p2.1, by rw [← ee, ← e2], R.tup p2 hp2⟩
        · refine wp_if_neg (by decide) ?_
          try refine wpAny_bind (wpAny_pure ?_)
          exact cont
    · have pr : t.probe (fun i => (es[i]?.map (·.1)).getD 0) (thash P w k) (stand.getD (t.probeStart (thash P w k))) = some (.empty (way t.mask (thash P w k) K) none) := by
        have eK : way t.mask (thash P w k) K = (nth t.mask (pAt t.mask (thash P w k) c) (K - c)).j := by
          rw [jq, show c + (K - c) = K by omega]
        rw [st, eK]
        exact hpr
      rw [pr]
      dsimp only
      refine wpAny_pure (no fun hm => ?_)
      obtain ⟨p0, h0, k0⟩ := List.mem_map.mp hm
      obtain ⟨i0, hi0, e0⟩ := List.getElem_of_mem h0
      have at0 : L[i0]? = some p0 := by rw [List.getElem?_eq_getElem hi0, e0]
      obtain ⟨d, d1, d2, d3⟩ := left i0 p0 at0 k0
      exact hno (d - c) i0 (by omega) (by rw [jq, show c + (d - c) = d by omega]; exact d3) ((hashAt i0 p0 at0).trans (congrArg (thash P w) k0))
/-- x in the set -/
theorem find_at (R : SetTR P w s.heap a L es ep t) {x : Addr} {k : List Int} (hx : IsT P w s.heap k x) (hu : A.units < cLine) {Q : Option Nat → Shared → Prop}
    (h : ∀ r : Option Nat, r.isSome = decide (k ∈ L.map (·.2)) → Q r s) : wpAny (model P w) A (setFind a (.ref x) (thash P w k)) Q E s := by
  obtain ⟨o, ho, hex, hd⟩ := R.ob
  have room := R.room
  obtain ⟨K, fuelK, freeK, below⟩ := R.tab.first (by rw [List.length_map]; omega) (thash P w k)
  have big : K < 100000 := by
    have z : 10 * SetTable.turns t.mask ≤ 1420 := by
      unfold SetTable.turns
      rcases R.tab.mok with e | e | e <;> omega
    omega
  unfold setFind
  rw [show (100000 : Nat) = 99999 + 1 from rfl]
  unfold setFindIn
  refine wpAny_bind (wpAny_setState_of ho hd R.fits ?_)
  dsimp only
  refine wp_if_neg (by simp [byScan, Value.scannable]) ?_
  try refine wpAny_bind (wpAny_pure ?_)
  unfold setSearch
  refine wpAny_bind (find_from R hx hu fuelK freeK below (fun i hm => ?_) (fun hm => ?_) 100000 0 none rfl (Nat.zero_le _) (by omega) fun i p hp hk => ?_)
  · exact wpAny_pure (h _ (by rw [decide_eq_true hm] <;> rfl))
  · exact wpAny_pure (h _ (by rw [decide_eq_false hm] <;> rfl))
  · have hi : (L.map fun p => thash P w p.2)[i]? = some (thash P w k) := by rw [List.getElem?_map, hp, ← hk] <;> rfl
    have il : i < t.place.toList.length := by
      have z1 : i < L.length := (List.getElem?_eq_some_iff.mp hp).1
      have z2 := R.tab.sz
      rw [List.length_map] at z2
      rw [Array.length_toList]
      omega
    have hj := List.getElem?_eq_getElem il
    obtain ⟨c, hc, e⟩ := R.tab.before freeK hi hj
    exact ⟨c, Nat.zero_le _, hc, by rw [hj, e]⟩
theorem SetTR.typ (R : SetTR P w s.heap a L es ep t) : s.TypeIs (.ref a) "set" := let ⟨o, ho, hex, _⟩ := R.ob; ⟨o, ho, hex.1⟩
theorem in_tupset (R : SetTR P w s.heap a L es ep t) {x : Addr} {k : List Int} (hx : IsT P w s.heap k x) (hu : A.units + 64 < cLine) {Q : Value → Shared → Prop}
    (h : ∀ tk, Q (.bool (decide (k ∈ L.map (·.2)))) { s with toks := tk }) : wpAny (model P w) A (compareOp .In (.ref x) (.ref a)) Q E s := by
  show wpAny _ _ (do return .bool (← contains (.ref a) (.ref x))) Q E s
  refine wpAny_bind ?_
  unfold contains
  try with_reducible refine wpAny_holding ?_
  refine wpAny_bind (wpAny_specialOf R.typ F.slot_set_contains.lookup ?_)
  show wpAny _ _ (if (some (Value.builtin "set.__contains__") == some Value.none) = true then _ else _) _ E s
  rw [if_neg (by rw [beq_builtin_none]; exact Bool.false_ne_true)]
  refine wpAny_bind (wpAny_callSpecialUnlessNone?_slot (name := Str.ofString "__contains__") R.typ F.slot_set_contains
    (wpAny_call_entry F.slot_set_contains R.typ entry_set_contains ?_ (F.args_set_contains_2 _ _)))
  unfold Builtin.«frozenset.__contains__» Builtin.Frozenset.oneOther
  simp only [List.isEmpty_nil, bind_assoc]
  unfold Builtin.Frozenset.addrOf Builtin.Frozenset.withSetAsKey setContains
  refine wpAny_bind (wpAny_pure ?_)
  try dsimp only
  refine wpAny_bind (wpAny_pure ?_)
  try dsimp only
  refine wpAny_bind (wpAny_tryCatch ?_)
  refine wpAny_holding ?_
  refine wpAny_bind (wpAny_pyHash_tuple ?_ hx ?_)
  · show A.units + 1 < cLine
    omega
  refine wpAny_bind (find_at (s := { s with toks := s.toks + (k.length + 1) }) R hx ?_ fun r hr => ?_)
  · show A.units + 1 < cLine
    omega
  refine wpAny_pure ?_
  show wpAny _ _ (ret (Value.bool r.isSome)) _ _ _
  rw [hr]
  exact wpAny_pure ⟨_, rfl, wpAny_truthy_bool (wpAny_pure (h _))⟩
theorem add_tupset (R : SetTR P w s.heap a L es ep t) {x : Addr} {k : List Int} (hx : IsT P w s.heap k x) (hu : A.units + 64 < cLine) (few : L.length + 1 < 64) {Q : Value → Shared → Prop}
    (h : ∀ g tk L2 es2 ep2 t2, Heap.SameBut a s.heap g → SetTR P w g a L2 es2 ep2 t2 → (k ∈ L.map (·.2) → L2 = L) → (k ∉ L.map (·.2) → L2.Perm ((x, k) :: L)) → Q .none { s with heap := g, toks := tk }) :
    wpAny (model P w) A (call (.builtin "set.add") [.ref a, .ref x]) Q E s := by
  refine wpAny_call_entry F.slot_set_add R.typ F.entry_set_add ?_ (F.args_set_add_2 _ _)
  unfold Builtin.«set.add» Builtin.Frozenset.oneOther
  simp only [List.isEmpty_nil, bind_assoc]
  unfold Builtin.Frozenset.addrOf setAdd
  refine wpAny_bind (wpAny_pure ?_)
  try dsimp only
  refine wpAny_bind (wpAny_pure ?_)
  try dsimp only
  refine wpAny_bind ?_
  refine wpAny_holding ?_
  refine wpAny_bind (wpAny_pyHash_tuple ?_ hx ?_)
  · show A.units + 1 < cLine
    omega
  refine add_at (s := { s with toks := s.toks + (k.length + 1) }) R hx ?_ few fun b g L2 es2 ep2 t2 sb R2 c1 c2 => ?_
  · show A.units + 1 < cLine
    omega
  show wpAny _ _ (ret Value.none) _ _ _
  exact wpAny_pure ⟨_, rfl, h g _ L2 es2 ep2 t2 sb R2 c1 c2⟩
end
section
variable {X : Cx}
/-- the set at a holds the tuples L, each still readable -/
def HasT (K : PySem.W.Frag) (P : Program) (w : World) (H : Hp) (a : Addr) (L : List (Addr × List Int)) : Prop :=
  H a = some (SetTO P w a L) ∧ ∀ p ∈ L, SqT K H p.1 (p.2.map V.int)
theorem HasT.full {pins : List (Addr × Obj)} {σ : St} {H : Hp} {s : Shared} {a : Addr} {L : List (Addr × List Int)} (I : Inv X pins σ H s) (h : HasT X.K X.prog X.w H a L) : ∃ es ep t, SetTR X.prog X.w s.heap a L es ep t := by
  have R0 : SetT0 X.prog X.w s.heap a L := (I.hok a _ h.1).1
  exact R0.full fun p hp => I.isT (h.2 p hp)
def rHuSet0T (P : Program) (w : World) : List V → Hp → VK → Prop := fun vs H Q => vs = [] ∧ ∀ p, H p = none → Q (.ref p) (upd H p (SetTO P w p []))
theorem hu_cr_set0T : CallR X (.type "set") (rHuSet0T X.prog X.w) := by
  intro pins s σ H vs us Q I r h
  obtain ⟨rfl, q⟩ := h
  cases r
  refine setR_new fun _ => ?_
  have R := setTR_fresh (P := X.prog) (w := X.w) (h := s.heap.push { cls := .type "set", dict := none, data := .set #[] 0 (.fresh 0 0 (!X.w.params.followText "set-order")) }) (a := s.heap.objs.size) (Heap.get?_push_size _ rfl)
  exact ⟨.ref _, _, I.laid (t' := s.toks) (fun b u e => Heap.get?_push_of_some _ e) (Nat.le_refl _) (setTO_new R.t0), rfl, q _ (I.hok.fresh (Nat.le_refl _))⟩
/-- k in found -/
def rHuInT (K : PySem.W.Frag) (P : Program) (w : World) : V → V → Hp → VK → Prop := fun x y H Q => ∃ (b a : Addr) (k : List Int) (L : List (Addr × List Int)), x = V.ref b ∧ y = V.ref a ∧ SqT K H b (k.map V.int) ∧ HasT K P w H a L ∧ Q (.bl (decide (k ∈ L.map (·.2)))) H
theorem hu_or_inT (hu : X.A.units + 64 < cLine) : OpR X (compareOp .In) (rHuInT X.K X.prog X.w) := by
  intro pins s σ H x y v u Q I rx ry h
  obtain ⟨b, a, k, L, rfl, rfl, hb, ha, q⟩ := h
  cases rx
  cases ry
  obtain ⟨es, ep, t, R⟩ := ha.full I
  exact in_tupset R (I.isT hb) hu fun tk => ⟨.bl _, H, I.tok _, rfl, q⟩
/-- found.add(k) -/
def rHuAddT (K : PySem.W.Frag) (P : Program) (w : World) : V → List V → Hp → VK → Prop := fun x vs H Q => ∃ (a b : Addr) (k : List Int) (L : List (Addr × List Int)), x = V.ref a ∧ vs = [V.ref b] ∧ SqT K H b (k.map V.int) ∧ HasT K P w H a L ∧ L.length + 1 < 64 ∧
  k ∉ L.map (·.2) ∧ ∀ L2, L2.Perm ((b, k) :: L) → Q .non (upd H a (SetTO P w a L2))
theorem hu_mt_addT (hu : X.A.units + 64 < cLine) : MtR X "set.add" (rHuAddT X.K X.prog X.w) := by
  intro pins s σ H x vs v us Q I rx rxs h
  obtain ⟨a, b, k, L, rfl, rfl, hb, ha, few, new, q⟩ := h
  cases rx
  rw [Vals.ref1 rxs]
  obtain ⟨es, ep, t, R⟩ := ha.full I
  refine add_tupset R (I.isT hb) hu few fun g tk L2 es2 ep2 t2 sb R2 _ c2 => ?_
  obtain ⟨o2, ho2, _⟩ := R2.ob
  exact ⟨.non, _, I.write (e := a) (t' := tk) (by rw [ha.1]; trivial) (.inl rfl) (fun c u hc hu => (sb.2 c hc).trans hu) ⟨o2, ho2⟩ (setTO_new R2.t0), rfl, q L2 (c2 new)⟩
def tHuAddT (K : PySem.W.Frag) (P : Program) (w : World) (to : TE) (t : TA) : TE := fun σ H Q => to σ H fun x H1 => (∃ a L, x = V.ref a ∧ H1 a = some (SetTO P w a L)) ∧ t σ H1 fun xs H2 => rHuAddT K P w x xs H2 Q
variable {o e : Expr} {es : List Expr} {to : TE} {t : TA} {apos cpos : Pos}
theorem hu_pe_addT (hu : X.A.units + 64 < cLine) (ho : PE X o to) (ha : PA X (e :: es) t)
    (hbase : attributeBase o "add" X.env (eval o X.env) = eval o X.env := by rfl)
    (hfew : ((backTo cpos (starEach (e :: es) X.env)).all (fun x => !x.1) && (backToKw cpos (keywordEach [] X.env)).all (fun x => x.1.isSome)
      && decide ((e :: es).length + ([] : List Keyword).length + (if ([] : List Keyword).isEmpty then 0 else 1) < 30)) = true := by rfl)
    (hline : (apos.endLine == cpos.line) = true := by rfl) (hs : starEach (e :: es) X.env = (false, eval e X.env) :: starEach es X.env := by rfl) (hplain : (backTo cpos (starEach es X.env)).any (·.1) = false := by rfl) :
    PE X (.Call (.Attribute o "add" apos) (e :: es) [] cpos) (tHuAddT X.K X.prog X.w to t) := by
  refine ⟨fun pins s σ H Q I h => ?_⟩
  refine wpAny_Call_method_late hbase hfew hline rfl (thn (ho.run pins s σ H _ I h) fun v s1 ⟨x, H1, I1, r1, ⟨a, L, ex, hka⟩, q1⟩ => ?_)
  subst ex
  have R0 : SetT0 X.prog X.w s1.heap a L := (I1.hok a _ hka).1
  obtain ⟨es0, ep0, t0, ⟨o0, ho0, hex0, _⟩, _⟩ := R0.ex
  cases r1
  refine ⟨"set", "set.add", F.plainAttrs_set, F.slot_set_add, F.type_set_add, ⟨o0, ho0, hex0.1⟩, ?_, ?_⟩
  · intro b eb
    injection eb with eb
    subst eb
    exact ⟨o0, ho0, by first | exact hex0.2.1 | exact hex0.2.2⟩
  have hA := ha.run cpos pins s1 σ H1 _ I1 q1
  rw [hs] at hA ⊢
  refine Calls.callWith_builtin (by show (false || (backTo cpos (starEach es X.env)).any (·.1)) = false; rw [hplain] <;> rfl) (Calls.evalArgs_plain ?_)
  exact thn hA fun us s2 ⟨vs, H2, I2, r2, q2⟩ => hu_mt_addT hu pins s2 σ H2 (.ref a) vs (.ref a) us Q I2 rfl r2 q2
end
end L2

end
section
set_option maxRecDepth 100000
namespace L2
open PySem PySem.Spec PyProof.Rows
/-! ### a def of the text under its name: its promise, its level, how it is bound -/
structure Cal (P : Program) (w : World) (K : PySem.W.Frag) (mg : Str → Option Value) (base : Heap) (x : Str) (k : Nat) (sp : Sp) : Prop where
  ex : ∃ (f : Addr) (fd : FuncData) (ps : List Str), FnOk P w K mg base CX0 k f fd ps sp ∧ mg x = some (.ref f) ∧ PySem.W.keepIn K (.ref f) = true ∧ Binds K fd ps []
/-- a method of the class at C -/
structure MCal (P : Program) (w : World) (K : PySem.W.Frag) (mg : Str → Option Value) (base : Heap) (C : Addr) (m : Str) (k : Nat) (sp : Sp) : Prop where
  ex : ∃ (f : Addr) (fd : FuncData) (ps : List Str), FnOk P w K mg base CX0 k f fd ps sp ∧ Meth K C m f ∧ Binds K fd ps []
/-- the making of an instance of the class at C, named x; k: the level of its __init__ -/
structure NCal (P : Program) (w : World) (K : PySem.W.Frag) (mg : Str → Option Value) (base : Heap) (C : Addr) (x : Str) (k : Nat) (sp : Sp) : Prop where
  ex : ∃ (f : Addr) (fd : FuncData) (ps : List Str), FnOk P w K mg base CX0 k f fd ps sp ∧ Mk K C f ∧ Binds K fd ps []
  mg : mg x = some (.ref C)
section
variable {X : Cx} {e o : Expr} {es : List Expr} {t : TA} {ta : TE} {x m : Str} {k : Nat} {sp : Sp} {C : Addr} {p pos apos : Pos}
theorem tCall_nil {t : TA} {E : XK} {σ : St} {H : Hp} {Q : VK} (h : t σ H fun vs H1 => sp vs H1 Q E) : tCall sp [] E t σ H Q := by
  unfold tCall
  simpa only [List.append_nil] using h
def tCal (sp : Sp) (t : TA) : TE := fun σ H Q => t σ H fun vs H1 => sp vs H1 Q E0
def tMCal (C : Addr) (m : Str) (sp : Sp) (to : TE) (t : TA) : TE := fun σ H Q => to σ H fun x H1 => ∃ a dx fs, x = .ref a ∧ H1 a = some (.ins C dx fs) ∧ fs.lookup m = none ∧ t σ H1 fun vs H2 => sp (x :: vs) H2 Q E0
def tNCal (C : Addr) (sp : Sp) (t : TA) : TE := fun σ H Q => t σ H fun vs H1 => ∀ x dx, H1 x = none → H1 dx = none → dx ≠ x → sp (.ref x :: vs) (upd (upd H1 dx (.own x)) x (.ins C dx [])) (fun v H2 => v = .non ∧ Q (.ref x) H2) E0
theorem PE.to {t u : TE} (h : PE X e t) (le : ∀ σ H Q, u σ H Q → t σ H Q) : PE X e u := ⟨fun pins s σ H Q I q => h.run pins s σ H Q I (le σ H Q q)⟩
theorem pe_cal (c : Cal X.prog X.w X.K X.mg X.base x k sp) (hr : Room k X.A) (ha : PA X (e :: es) t) (hg : Gl X x := by rfl) (hdb : (x == ("__debug__" : Str)) = false := by decide)
    (he : starEach (e :: es) X.env = (false, eval e X.env) :: starEach es X.env := by rfl) (hpl : (backTo pos (starEach es X.env)).any (·.1) = false := by rfl) :
    PE X (.Call (.Name x p) (e :: es) [] pos) (tCal sp t) := by
  obtain ⟨f, fd, ps, F, hm, hk, hb⟩ := c.ex
  exact (pe_call F hr hg hm hk hb .nil pass0 ha hdb he hpl).to fun σ H Q q => tCall_nil q
theorem pe_cal0 (c : Cal X.prog X.w X.K X.mg X.base x k sp) (hr : Room k X.A) (hg : Gl X x := by rfl) (hdb : (x == ("__debug__" : Str)) = false := by decide) :
    PE X (.Call (.Name x p) [] [] pos) (tCal sp tNil) := by
  obtain ⟨f, fd, ps, F, hm, hk, hb⟩ := c.ex
  exact (pe_call0 F hr hg hm hk hb .nil pass0 hdb).to fun σ H Q q => tCall_nil q
theorem pe_ncal (c : NCal X.prog X.w X.K X.mg X.base C x k sp) (hr : Room (k + 1) X.A) (ha : PA X (e :: es) t) (hg : Gl X x := by rfl) (hdb : (x == ("__debug__" : Str)) = false := by decide)
    (he : starEach (e :: es) X.env = (false, eval e X.env) :: starEach es X.env := by rfl) (hpl : (backTo pos (starEach es X.env)).any (·.1) = false := by rfl) :
    PE X (.Call (.Name x p) (e :: es) [] pos) (tNCal C sp t) := by
  obtain ⟨f, fd, ps, F, M, hb⟩ := c.ex
  refine (pe_make M F hr hg c.mg hb .nil pass0 ha hdb he hpl).to fun σ H Q q => ?_
  unfold tNCal at q
  unfold tMake
  simpa only [List.append_nil] using q
theorem setL_ (K : PySem.W.Frag) (w : World) (hc : X.calm = true) (hK : X.K = K := by rfl) (hw : X.w = w := by rfl) : CallR X (.type "set") (rHuSetL K w) := by
  subst hK hw; exact hu_cr_setL hc
theorem sortedSet_ (w : World) (hc : X.calm = true) (hw : X.w = w := by rfl) : CallR X (.builtin "sorted") (rSortedSet w) := by
  subst hw; exact cr_sortedSet hc
section
variable (K : PySem.W.Frag)
theorem all_ (hc : X.calm = true) (hK : X.K = K := by rfl) : CallR X (.builtin "all") (rAll K) := by subst hK; exact cr_all hc
theorem any_ (hc : X.calm = true) (hK : X.K = K := by rfl) : CallR X (.builtin "any") (rAny K) := by subst hK; exact cr_any hc
theorem sum_ (hc : X.calm = true) (hK : X.K = K := by rfl) : CallR X (.builtin "sum") (rSum K) := by subst hK; exact cr_sum hc
theorem min_ (hc : X.calm = true) (hK : X.K = K := by rfl) : CallR X (.builtin "min") (rMin K) := by subst hK; exact cr_min hc
theorem sortedI_ (hK : X.K = K := by rfl) : CallR X (.builtin "sorted") (rSortedI K) := by subst hK; exact cr_sortedI
theorem sortedPO_ (hK : X.K = K := by rfl) : CallR X (.builtin "sorted") (rSortedPO K) := by subst hK; exact cr_sortedPO
theorem isi_ (hK : X.K = K := by rfl) : CallR X (.builtin "isinstance") (rIsi K) := by subst hK; exact call_isi
theorem inS_ (hK : X.K = K := by rfl) : OpR X (compareOp .In) (rIn K false) := by subst hK; exact op_in_seq
theorem ninS_ (hK : X.K = K := by rfl) : OpR X (compareOp .NotIn) (rIn K true) := by subst hK; exact op_notIn_seq
theorem ixL_ (hK : X.K = K := by rfl) : IxR X (rIxL K) := by subst hK; exact ix_list
theorem ixT_ (hK : X.K = K := by rfl) : IxR X (rIxT K) := by subst hK; exact ix_tup
theorem slL_ (hK : X.K = K := by rfl) : SlR X (rSlL K) := by subst hK; exact sl_list
theorem slT_ (hK : X.K = K := by rfl) : SlR X (rSlT K) := by subst hK; exact sl_tup
theorem catT_ (hK : X.K = K := by rfl) : OpR X (binaryOp .Add) (rCatT K) := by subst hK; exact op_catT
theorem catA_ (hK : X.K = K := by rfl) : OpR X (binaryOp .Add) (rCatA K) := by subst hK; exact op_catA
theorem eqD_ (hu : X.A.units + 64 < cLine) (hK : X.K = K := by rfl) : OpR X (compareOp .Eq) (rEqD K) := by subst hK; exact op_eqD hu
theorem neD_ (hu : X.A.units + 64 < cLine) (hK : X.K = K := by rfl) : OpR X (compareOp .NotEq) (rNeD K) := by subst hK; exact op_neD hu
def rLenS (K : PySem.W.Frag) : List V → Hp → VK → Prop := fun xs H Q => ∃ p ys, xs = [.ref p] ∧ (SqL K H p ys ∨ SqT K H p ys) ∧ Q (.int ys.length) H
theorem lenS_ (hK : X.K = K := by rfl) : CallR X (.builtin "len") (rLenS K) := by subst hK; exact call_len_seq
def rLstOf (K : PySem.W.Frag) : List V → Hp → VK → Prop := fun xs H Q => ∃ p ys, xs = [.ref p] ∧ (SqL K H p ys ∨ SqT K H p ys) ∧ ∀ l, H l = none → Q (.ref l) (upd H l (.lst ys))
theorem lstOf_ (hK : X.K = K := by rfl) : CallR X (.type "list") (rLstOf K) := by subst hK; exact call_list_of
def rTupOf (K : PySem.W.Frag) : List V → Hp → VK → Prop := fun xs H Q => ∃ p ys, xs = [.ref p] ∧ ((SqL K H p ys ∧ ∀ l, H l = none → Q (.ref l) (upd H l (.tup ys))) ∨ (SqT K H p ys ∧ Q (.ref p) H))
theorem tupOf_ (hK : X.K = K := by rfl) : CallR X (.type "tuple") (rTupOf K) := by subst hK; exact call_tuple_of
theorem inT_ (P : Program) (w : World) (hu : X.A.units + 64 < cLine) (hP : X.prog = P := by rfl) (hw : X.w = w := by rfl) (hK : X.K = K := by rfl) : OpR X (compareOp .In) (rHuInT K P w) := by subst hK hP hw; exact hu_or_inT hu
theorem fld_ {f : Str} (he : PE X e ta) (hb : attributeBase e f X.env (eval e X.env) = eval e X.env := by rfl) (hK : X.K = K := by rfl) : PE X (.Attribute e f pos) (tFld K ta f) := by subst hK; exact pe_fld he hb
theorem cval_ {f : Str} (he : PE X e ta) (hb : attributeBase e f X.env (eval e X.env) = eval e X.env := by rfl) (hK : X.K = K := by rfl) : PE X (.Attribute e f pos) (ClX.tCVal K ta f) := by subst hK; exact ClX.pe_cval he hb
theorem pil_ {tg l : Expr} {tl : TE} (hl : PE X l tl) (hK : X.K = K := by rfl) : PI X tg l (iList K tl) := by subst hK; exact pi_list hl
theorem pit_ {tg l : Expr} {tl : TE} (hl : PE X l tl) (hK : X.K = K := by rfl) : PI X tg l (iTup K tl) := by subst hK; exact pi_tup hl
theorem star_ {te : TE} (he : PE X e te) (hr : PA X es t) (hK : X.K = K := by rfl) : PA X (.Starred e p :: es) (StX.tStar K te t) := by subst hK; exact StX.pa_star he hr
theorem revL_ {te : TE} {j : Nat} {p1 p2 p3 : Pos} (he : PE X e te) (hK : X.K = K := by rfl) : PE X (.Subscript e (.Slice none none (some (.UnaryOp .USub (.Constant (.int 1) j p1) p2)) p3) pos) (tRevL K te) := by subst hK; exact pe_revL he
def tTru (K : PySem.W.Frag) (ta : TE) : TT := fun σ H Q => ta σ H fun x H' => ∃ k, TruV K x H' k ∧ Q k H'
theorem truth_ (he : PE X e ta) (hh : ∀ whole, isTrue e X.env whole = (do let v ← whole; standAt e.pos; holding [v] (truthy v)) := by intro _; rfl) (hK : X.K = K := by rfl) : PT X e (tTru K ta) := by subst hK; exact pt_truth he hh
end
end
theorem b_len : bootBuiltins ("len" : Str) = some (.builtin "len") := by decide +kernel
theorem b_abs : bootBuiltins ("abs" : Str) = some (.builtin "abs") := by decide +kernel
theorem b_min : bootBuiltins ("min" : Str) = some (.builtin "min") := by decide +kernel
theorem b_max : bootBuiltins ("max" : Str) = some (.builtin "max") := by decide +kernel
theorem b_all : bootBuiltins ("all" : Str) = some (.builtin "all") := by decide +kernel
theorem b_any : bootBuiltins ("any" : Str) = some (.builtin "any") := by decide +kernel
theorem b_sum : bootBuiltins ("sum" : Str) = some (.builtin "sum") := by decide +kernel
theorem b_sorted : bootBuiltins ("sorted" : Str) = some (.builtin "sorted") := by decide +kernel
theorem b_isinstance : bootBuiltins ("isinstance" : Str) = some (.builtin "isinstance") := by decide +kernel
theorem b_int : bootBuiltins ("int" : Str) = some (.type "int") := by decide +kernel
theorem b_bool : bootBuiltins ("bool" : Str) = some (.type "bool") := by decide +kernel
theorem b_tuple : bootBuiltins ("tuple" : Str) = some (.type "tuple") := by decide +kernel
theorem b_list : bootBuiltins ("list" : Str) = some (.type "list") := by decide +kernel
theorem b_set : bootBuiltins ("set" : Str) = some (.type "set") := by decide +kernel
theorem b_range : bootBuiltins ("range" : Str) = some (.type "range") := by decide +kernel
theorem b_str : bootBuiltins ("str" : Str) = some (.type "str") := by decide +kernel
end L2

end
section
set_option maxRecDepth 100000
namespace Hue
open PySem PySem.Spec PyProof.Rows L2
/-! ### heaps -/
theorem same_new {H : Hp} {p : Addr} {o : HO} (h : H p = Option.none) : Same H (upd H p o) := fun b u e => by
  rw [upd_ne (ne_of_none e h)]; exact e
theorem same_upd {H0 H : Hp} {p : Addr} {o : HO} (s : Same H0 H) (h : H0 p = Option.none) : Same H0 (upd H p o) := fun b u e => by
  rw [upd_ne (ne_of_none e h)]; exact s b u e
theorem same_then {H0 H : Hp} {p : Addr} {o : HO} (s : Same H0 H) (h : H p = Option.none) : Same H0 (upd H p o) := s.trans (same_new h)
theorem Same.tup {K : PySem.W.Frag} {H H' : Hp} {a : Addr} {xs : List V} (e : Same H H') (h : SqT K H a xs) : SqT K H' a xs := by
  rcases h with (h | ⟨o, h⟩) | h
  · exact .inl (.inl (e _ _ h))
  · exact .inl (.inr ⟨o, e _ _ h⟩)
  · exact .inr h
theorem ifT {c : Bool} {A B : Prop} (hc : c = true) (h : A) : if c = true then A else B := by rw [if_pos hc]; exact h
theorem ifF {c : Bool} {A B : Prop} (hc : c = false) (h : B) : if c = true then A else B := by rw [hc, if_neg Bool.false_ne_true]; exact h
theorem yesT {σ : L2.St} {H : Hp} {X Y : Hp → Prop} (h : X H) : tYes σ H (fun b H3 => if b = true then X H3 else Y H3) := h
/-! ### lists of numbers -/
def nI (l : List Nat) : List Int := l.map fun k : Nat => (k : Int)
def nL (l : List Nat) : List V := (nI l).map V.int
theorem nL_get {l : List Nat} {i k : Nat} (h : l[i]? = some k) : (nL l)[i]? = some (V.int (k : Int)) := by
  unfold nL nI; simp [List.getElem?_map, h]
theorem nL_len (l : List Nat) : (nL l).length = l.length := by unfold nL nI; simp
theorem nI_len (l : List Nat) : (nI l).length = l.length := by unfold nI; simp
theorem mem_nI {l : List Nat} {z : Int} : z ∈ nI l ↔ ∃ k, k ∈ l ∧ (k : Int) = z := by unfold nI; simp
theorem nL_app (a b : List Nat) : nL (a ++ b) = nL a ++ nL b := by unfold nL nI; simp
theorem nL_one (k : Nat) : nL [k] = [V.int (k : Int)] := rfl
theorem asc_ext : ∀ {a b : List Int}, a.Pairwise (· < ·) → b.Pairwise (· < ·) → (∀ k, k ∈ a ↔ k ∈ b) → a = b
  | [], [], _, _, _ => rfl
  | [], y :: b, _, _, h => absurd ((h y).mpr List.mem_cons_self) List.not_mem_nil
  | x :: a, [], _, _, h => absurd ((h x).mp List.mem_cons_self) List.not_mem_nil
  | x :: a, y :: b, ha, hb, h => by
    rw [List.pairwise_cons] at ha hb
    have exy : x = y := by
      rcases List.mem_cons.mp ((h x).mp List.mem_cons_self) with e | e
      · exact e
      · rcases List.mem_cons.mp ((h y).mpr List.mem_cons_self) with f | f
        · exact f.symm
        · have h1 := hb.1 x e
          have h2 := ha.1 y f
          omega
    subst exy
    rw [asc_ext ha.2 hb.2 fun k => ⟨fun hk => ?_, fun hk => ?_⟩]
    · rcases List.mem_cons.mp ((h k).mp (List.mem_cons_of_mem _ hk)) with e | e
      · have := ha.1 k hk; omega
      · exact e
    · rcases List.mem_cons.mp ((h k).mpr (List.mem_cons_of_mem _ hk)) with e | e
      · have := hb.1 k hk; omega
      · exact e
/-! ### relations on lamps -/
abbrev Rel := Nat → Nat → Bool
def Bel (n : Nat) (R : Rel) (i : Nat) : List Nat := (List.range n).filter fun j => R i j
theorem mem_Bel {n : Nat} {R : Rel} {i j : Nat} : j ∈ Bel n R i ↔ j < n ∧ R i j = true := by unfold Bel; simp
theorem Bel_asc (n : Nat) (R : Rel) (i : Nat) : (nI (Bel n R i)).Pairwise (· < ·) := by
  unfold nI
  rw [List.pairwise_map]
  have h : (List.range n).Pairwise (· < ·) := List.pairwise_lt_range
  refine List.Pairwise.imp ?_ (List.Pairwise.filter _ h)
  intro a b hab; omega
theorem Bel_len (n : Nat) (R : Rel) (i : Nat) : (Bel n R i).length ≤ n := by
  unfold Bel
  refine Nat.le_trans (List.length_filter_le ..) ?_
  rw [List.length_range]; exact Nat.le_refl _
theorem Bel_congr {n : Nat} {R S : Rel} {i : Nat} (h : ∀ j, j < n → R i j = S i j) : Bel n R i = Bel n S i := by
  unfold Bel
  refine List.filter_congr fun j hj => ?_
  exact h j (List.mem_range.mp hj)
def addW (R : Rel) (u l : Nat) : Rel := fun i j => R i j || ((i == u || R i u) && (j == l || R l j))
/-- at b: a list of lists of numbers -/
def Rows (H : Hp) (b : Addr) (rows : List (List Nat)) : Prop :=
  ∃ as : List Addr, H b = some (.lst (as.map V.ref)) ∧ as.length = rows.length ∧ ∀ (i : Nat) a r, as[i]? = some a → rows[i]? = some r → H a = some (.lst (nL r))
theorem Rows.same {H H' : Hp} {b : Addr} {rows : List (List Nat)} (h : Rows H b rows) (s : Same H H') : Rows H' b rows := by
  obtain ⟨as, h1, h2, h3⟩ := h
  exact ⟨as, s _ _ h1, h2, fun i a r ha hr => s _ _ (h3 i a r ha hr)⟩
/-- the row at i, as Python reads it -/
theorem Rows.at {H : Hp} {b : Addr} {rows : List (List Nat)} (h : Rows H b rows) {i : Nat} {r : List Nat} (hr : rows[i]? = some r) : ∃ xs a, H b = some (.lst xs) ∧ xs.length = rows.length ∧ xs[i]? = some (V.ref a) ∧ H a = some (.lst (nL r)) := by
  obtain ⟨as, h1, h2, h3⟩ := h
  have hi : i < as.length := by rw [h2]; exact (List.getElem?_eq_some_iff.mp hr).1
  refine ⟨_, as[i], h1, by rw [List.length_map, h2], by rw [List.getElem?_map, List.getElem?_eq_getElem hi]; rfl, h3 i _ r (List.getElem?_eq_getElem hi) hr⟩
def relRows (n : Nat) (R : Rel) : List (List Nat) := (List.range n).map (Bel n R)
theorem relRows_at {n : Nat} {R : Rel} {i : Nat} (h : i < n) : (relRows n R)[i]? = some (Bel n R i) := by
  unfold relRows; rw [List.getElem?_map, List.getElem?_range h]; rfl
theorem relRows_len (n : Nat) (R : Rel) : (relRows n R).length = n := by unfold relRows; simp
theorem flat_nL (l : List Nat) : (nL l).all flatV = true := by
  unfold nL; rw [List.all_eq_true]; intro x hx
  obtain ⟨z, _, rfl⟩ := List.mem_map.mp hx
  rfl
theorem in_nL {k : Nat} {l : List Nat} : inV (V.int (k : Int)) (nL l) = decide (k ∈ l) := by
  unfold inV nL nI
  rw [Bool.eq_iff_iff, List.any_eq_true, decide_eq_true_eq]
  constructor
  · rintro ⟨x, hx, e⟩
    obtain ⟨z, hz, rfl⟩ := List.mem_map.mp hx
    obtain ⟨m, hm, rfl⟩ := List.mem_map.mp hz
    have e2 : ((m : Int) == (k : Int)) = true := e
    have e3 : (m : Int) = (k : Int) := by simpa using e2
    have e4 : m = k := by omega
    rw [← e4]; exact hm
  · intro hk
    refine ⟨V.int k, List.mem_map.mpr ⟨k, List.mem_map.mpr ⟨k, hk, rfl⟩, rfl⟩, ?_⟩
    show ((k : Int) == (k : Int)) = true
    simp
theorem Rows.ext {H : Hp} {b e : Addr} {rows : List (List Nat)} {φ : Heap → Prop} {o : HO} (h : Rows H b rows) (he : H e = some (.ext φ)) : Rows (upd H e o) b rows := by
  obtain ⟨as, h1, h2, h3⟩ := h
  refine ⟨as, ?_, h2, fun i a r ha hr => ?_⟩
  · rw [upd_ne (ne_of h1 he (by intro z; cases z))]; exact h1
  · rw [upd_ne (ne_of (h3 i a r ha hr) he (by intro z; cases z))]; exact h3 i a r ha hr
/-- the tuples at ts are the pairs ps -/
def Pairs (H : Hp) (ts : List Addr) (ps : List (Nat × Nat)) : Prop :=
  ts.length = ps.length ∧ ∀ (i : Nat) t p, ts[i]? = some t → ps[i]? = some p → H t = some (.tup [.int (p.1 : Int), .int (p.2 : Int)])
theorem Pairs.same {H H' : Hp} {ts : List Addr} {ps : List (Nat × Nat)} (h : Pairs H ts ps) (s : Same H H') : Pairs H' ts ps := ⟨h.1, fun i t p a b => s _ _ (h.2 i t p a b)⟩
def relOf (ps : List (Nat × Nat)) : Rel := ps.foldl (fun R p => addW R p.1 p.2) fun _ _ => false
theorem relOf_more {ps : List (Nat × Nat)} {i : Nat} {p : Nat × Nat} (h : ps[i]? = some p) : relOf (ps.take (i + 1)) = addW (relOf (ps.take i)) p.1 p.2 := by
  unfold relOf
  rw [List.take_add_one, h, List.foldl_append]
  rfl
/-- along a rank the relation goes up -/
theorem relOf_rank {ρ : Nat → Nat} : ∀ {ps : List (Nat × Nat)}, (∀ p ∈ ps, ρ p.1 < ρ p.2) → ∀ i j, relOf ps i j = true → ρ i < ρ j := by
  have key : ∀ (ps : List (Nat × Nat)) (R : Rel), (∀ i j, R i j = true → ρ i < ρ j) → (∀ p ∈ ps, ρ p.1 < ρ p.2) → ∀ i j, ps.foldl (fun R p => addW R p.1 p.2) R i j = true → ρ i < ρ j := by
    intro ps
    induction ps with
    | nil => intro R hR _; exact hR
    | cons p ps ih =>
      intro R hR hp
      refine ih (addW R p.1 p.2) (fun i j h => ?_) fun q hq => hp q (List.mem_cons_of_mem _ hq)
      have hp0 := hp p List.mem_cons_self
      unfold addW at h
      rw [Bool.or_eq_true, Bool.and_eq_true, Bool.or_eq_true, Bool.or_eq_true, beq_iff_eq, beq_iff_eq] at h
      rcases h with h | ⟨h1, h2⟩
      · exact hR i j h
      · have a1 : ρ i ≤ ρ p.1 := by
          rcases h1 with e | e
          · rw [e]; exact Nat.le_refl _
          · exact Nat.le_of_lt (hR _ _ e)
        have a2 : ρ p.2 ≤ ρ j := by
          rcases h2 with e | e
          · rw [e]; exact Nat.le_refl _
          · exact Nat.le_of_lt (hR _ _ e)
        omega
  intro ps hp i j h
  exact key ps _ (fun i j h => by cases h) hp i j h
theorem mem_take_of {α : Type} {l : List α} {n : Nat} {x : α} (h : x ∈ l.take n) : x ∈ l := List.mem_of_mem_take h
/-! ### lists that a comprehension collects -/
def Coll (H1 : Hp) (D : Addr) (f : Nat → List V) (i : Nat) (H2 : Hp) : Prop :=
  ∃ as : List Addr, H2 D = some (.lst (as.map V.ref)) ∧ as.length = i ∧ Same H1 H2 ∧ ∀ (j : Nat) a, as[j]? = some a → a ≠ D ∧ H2 a = some (.lst (f j))
theorem Coll.start {H1 : Hp} {D : Addr} {f : Nat → List V} (hD : H1 D = Option.none) : Coll H1 D f 0 (upd H1 D (.lst [])) := ⟨[], upd_same, rfl, same_new hD, fun j a e => by simp at e⟩
theorem Coll.more {H1 H2 H3 : Hp} {D a : Addr} {f : Nat → List V} {i : Nat} (c : Coll H1 D f i H2) (hD : H1 D = Option.none) (s : Same H2 H3) (na : a ≠ D) (ha : H3 a = some (.lst (f i))) (hi : i < 1000) :
    ∃ acc, H3 D = some (.lst acc) ∧ acc.length < sizeLine ∧ Coll H1 D f (i + 1) (upd H3 D (.lst (acc ++ [V.ref a]))) := by
  obtain ⟨as, h1, h2, s2, h3⟩ := c
  refine ⟨_, s _ _ h1, by rw [List.length_map, h2, sizeLine_eq]; omega, as ++ [a], by rw [upd_same, List.map_append]; rfl, by rw [List.length_append, h2]; rfl, same_upd (s2.trans s) hD, fun j c2 e => ?_⟩
  rcases Nat.lt_or_ge j as.length with lt | ge
  · rw [List.getElem?_append_left lt] at e
    obtain ⟨n1, n2⟩ := h3 j c2 e
    exact ⟨n1, by rw [upd_ne n1]; exact s _ _ n2⟩
  · rw [List.getElem?_append_right ge] at e
    have j0 : j - as.length = 0 := by
      rcases Nat.eq_zero_or_pos (j - as.length) with z | z
      · exact z
      · rw [List.getElem?_eq_none (by rw [List.length_singleton]; exact z)] at e; cases e
    rw [j0] at e
    cases e
    have ji : j = i := by omega
    rw [ji]
    exact ⟨na, by rw [upd_ne na]; exact ha⟩
theorem Coll.same {H1 H2 : Hp} {D : Addr} {f : Nat → List V} {i : Nat} (c : Coll H1 D f i H2) : Same H1 H2 := let ⟨_, _, _, s, _⟩ := c; s
theorem Coll.rows {H1 H2 : Hp} {D : Addr} {n : Nat} {R : Rel} (c : Coll H1 D (fun j => nL (Bel n R j)) n H2) : Rows H2 D (relRows n R) := by
  obtain ⟨as, h1, h2, _, h3⟩ := c
  refine ⟨as, h1, by rw [h2, relRows_len], fun i a r ha hr => ?_⟩
  have hi : i < n := by rw [← h2]; exact (List.getElem?_eq_some_iff.mp ha).1
  rw [relRows_at hi] at hr
  cases hr
  exact (h3 i a ha).2
/-! ### all but one place as it was -/
def SB (x : Addr) (H H' : Hp) : Prop := ∀ b o, b ≠ x → H b = some o → H' b = some o
theorem SB.of {x : Addr} {H H' : Hp} (s : Same H H') : SB x H H' := fun b o _ e => s b o e
theorem SB.trans {x : Addr} {H H1 H2 : Hp} (a : SB x H H1) (b : SB x H1 H2) : SB x H H2 := fun c o n e => b c o n (a c o n e)
theorem SB.refl (x : Addr) (H : Hp) : SB x H H := fun _ _ _ e => e
theorem SB.upd {x : Addr} {H H1 : Hp} {o : HO} (a : SB x H H1) : SB x H (upd H1 x o) := fun c u n e => by rw [upd_ne n]; exact a c u n e
theorem SB.rows {x b : Addr} {H H' : Hp} {rows : List (List Nat)} {C dx : Addr} {fs : List (Str × V)} (s : SB x H H') (hx : H x = some (.ins C dx fs)) (h : Rows H b rows) : Rows H' b rows := by
  obtain ⟨as, h1, h2, h3⟩ := h
  exact ⟨as, s _ _ (ne_of h1 hx (by intro z; cases z)) h1, h2, fun i a r ha hr => s _ _ (ne_of (h3 i a r ha hr) hx (by intro z; cases z)) (h3 i a r ha hr)⟩
theorem lk_same (f : Str) (v : V) (fs : List (Str × V)) : (putF f v fs).lookup f = some v := by rw [lookup_putF, if_pos rfl]
theorem lk_ne {f g : Str} (v : V) (fs : List (Str × V)) (h : ¬ g = f) : (putF f v fs).lookup g = fs.lookup g := by rw [lookup_putF, if_neg h]
theorem put_few {f : Str} {v : V} {fs : List (Str × V)} {k : Nat} (h : fs.length ≤ k) : (putF f v fs).length ≤ k + 1 := by
  have := length_putF f v fs; omega
/-! ### a def with defaults, all parameters given -/
structure FunV (K : PySem.W.Frag) (x qual : Str) (st : Stmt) (f : Addr) (fd : FuncData) : Prop where
  ex : ∃ (oc : Value) (od : Option Addr) (dV kV doc pm : Value) (an : Option Addr) (cdv ct : Value) (osl : Array (Option Value)),
    fd = PySem.W.fnOf x qual (defArgs st) (defBody st) (defScope st) dV kV doc pm an cdv ct ∧ K.lookup f = some ⟨oc, od, .func fd, osl⟩ ∧ PySem.W.codeIn K cdv qual = true
  kp : PySem.W.keepIn K (.ref f) = true
theorem FunV.ok {P : Program} {w : World} {K : PySem.W.Frag} {mg : Str → Option Value} {base : Heap} {x qual : Str} {st : Stmt} {f : Addr} {fd : FuncData} {N ps : List Str} {k : Nat} {sp : Sp} (F : FunV K x qual st f fd) (S : FnScope N ps (defScope st)) (len : ∀ vs H Q E, sp vs H Q E → vs.length = ps.length)
    (hbody : ∀ (cdv : Value) (A : Around) (outer : List Env) (s : Shared) (H : Hp) (vs : List V) (Q : VK) (E : XK), Room k (A.deeper (envOfC qual (defScope st) s.heap.objs.size f cdv)) → sp vs H Q E →
      ∃ t, PSs (cxOf CX0 P w K mg base N qual (defScope st) f cdv A outer s H E).nox (defBody st) t ∧ t { nx := fun _ H' => Q .non H', rt := Q } (start N vs) H) : FnOk P w K mg base CX0 (k + 1) f fd ps sp := by
  obtain ⟨oc, od, dV, kV, doc, pm, an, cdv, ct, osl, rfl, lk, hcd⟩ := F.ex
  refine fn_of lk hcd S len fun A outer s H vs Q E hr hsp => ?_
  obtain ⟨t, h, q⟩ := hbody cdv A outer s H vs Q E hr hsp
  exact ⟨t, h.nox, q⟩
/-- a store into a list by place -/
theorem set_at {H : Hp} {p : Addr} {xs : List V} {k : Int} {j : Nat} {v : V} {Q : Hp → Prop} (hp : H p = some (.lst xs)) (hk : ixN xs.length k = some j)
    (h : ∀ H', SB p H H' → H' p = some (.lst (xs.set j v)) → Q H') : rSetL (.ref p) (.int k) v H Q := ⟨p, xs, k, j, rfl, rfl, hp, hk, h _ (SB.upd (SB.refl p H)) upd_same⟩
theorem ixN_nat {n k : Nat} (h : k < n) : ixN n (k : Int) = some k := by
  unfold ixN
  rw [if_pos (by omega), if_pos (by omega), Int.toNat_natCast]
theorem SB.to_same {x : Addr} {H0 H H' : Hp} (s : SB x H H') (s0 : Same H0 H) (n : H0 x = Option.none) : Same H0 H' := fun b o e => s b o (fun z => by rw [z, n] at e; cases e) (s0 b o e)
end Hue

end
section
set_option maxRecDepth 100000
namespace Hue
open PySem PySem.Spec PyProof.Rows L2
/-! ### the order list -/
def flip (R : Rel) : Rel := fun i j => R j i
/-- k is the next in turn -/
def nxt (n : Nat) (R : Rel) (ord : List Nat) (k : Nat) : Bool := !decide (k ∈ ord) && (Bel n (flip R) k).all fun j => decide (j ∈ ord)
def cands (n : Nat) (R : Rel) (ord : List Nat) : List Nat := (List.range n).filter (nxt n R ord)
def ordN (n : Nat) (R : Rel) : Nat → List Nat
  | 0 => []
  | k + 1 => ordN n R k ++ (cands n R (ordN n R k)).take 1
def Ranked (R : Rel) : Prop := ∃ ρ : Nat → Nat, ∀ i j, R i j = true → ρ i < ρ j
theorem nxt_iff {n : Nat} {R : Rel} {ord : List Nat} {k : Nat} : nxt n R ord k = true ↔ k ∉ ord ∧ ∀ j, j < n → R j k = true → j ∈ ord := by
  unfold nxt
  rw [Bool.and_eq_true, Bool.not_eq_true', decide_eq_false_iff_not, List.all_eq_true]
  constructor
  · rintro ⟨h1, h2⟩
    exact ⟨h1, fun j hj hr => of_decide_eq_true (h2 j (mem_Bel.mpr ⟨hj, hr⟩))⟩
  · rintro ⟨h1, h2⟩
    exact ⟨h1, fun j hj => decide_eq_true (h2 j (mem_Bel.mp hj).1 (mem_Bel.mp hj).2)⟩
theorem cands_ne {n : Nat} {R : Rel} (hR : Ranked R) {ord : List Nat} (hl : ord.length < n) : ∃ c rest, cands n R ord = c :: rest := by
  obtain ⟨ρ, hρ⟩ := hR
  have least : ∀ m i, i < n → i ∉ ord → ρ i ≤ m → ∃ c, c < n ∧ nxt n R ord c = true := by
    intro m
    induction m with
    | zero =>
      intro i hi hn hm
      refine ⟨i, hi, nxt_iff.mpr ⟨hn, fun j hj hr => ?_⟩⟩
      have := hρ j i hr
      omega
    | succ m ih =>
      intro i hi hn hm
      rcases Classical.em (∃ j, j < n ∧ R j i = true ∧ j ∉ ord) with ⟨j, hj, hr, hjn⟩ | none
      · have := hρ j i hr
        exact ih j hj hjn (by omega)
      · refine ⟨i, hi, nxt_iff.mpr ⟨hn, fun j hj hr => ?_⟩⟩
        rcases Classical.em (j ∈ ord) with h | h
        · exact h
        · exact absurd ⟨j, hj, hr, h⟩ none
  obtain ⟨i, hi, hn⟩ := st_missing ord n hl
  obtain ⟨c, hc, hx⟩ := least (ρ i) i hi hn (Nat.le_refl _)
  cases e : cands n R ord with
  | nil =>
    have : c ∈ cands n R ord := List.mem_filter.mpr ⟨List.mem_range.mpr hc, hx⟩
    rw [e] at this
    cases this
  | cons a rest => exact ⟨a, rest, rfl⟩
theorem cands_asc (n : Nat) (R : Rel) (ord : List Nat) : (cands n R ord).Pairwise (· < ·) := List.Pairwise.filter _ List.pairwise_lt_range
/-- the least of the candidates is the first -/
theorem cands_min {n : Nat} {R : Rel} {ord : List Nat} {c : Nat} {rest : List Nat} (e : cands n R ord = c :: rest) {m : Int} (hm : m ∈ nI (cands n R ord)) (hle : ∀ y, y ∈ nI (cands n R ord) → m ≤ y) : m = (c : Int) := by
  obtain ⟨k, hk, rfl⟩ := mem_nI.mp hm
  have h1 := hle (c : Int) (mem_nI.mpr ⟨c, by rw [e]; exact List.mem_cons_self, rfl⟩)
  have pw := cands_asc n R ord
  rw [e] at hk pw
  rcases List.mem_cons.mp hk with z | z
  · rw [z]
  · have := (List.pairwise_cons.mp pw).1 k z
    omega
theorem ordN_succ {n : Nat} {R : Rel} {k c : Nat} {rest : List Nat} (e : cands n R (ordN n R k) = c :: rest) : ordN n R (k + 1) = ordN n R k ++ [c] := by
  show ordN n R k ++ (cands n R (ordN n R k)).take 1 = _
  rw [e]; rfl
structure OrdOk (n : Nat) (R : Rel) (ord : List Nat) : Prop where
  nd : ord.Nodup
  lt : ∀ i ∈ ord, i < n
  up : ∀ q i, ord[q]? = some i → ∀ j, j < n → R j i = true → j ∈ ord.take q
theorem ordN_ok {n : Nat} {R : Rel} (hR : Ranked R) : ∀ k, k ≤ n → (ordN n R k).length = k ∧ OrdOk n R (ordN n R k)
  | 0, _ => ⟨rfl, ⟨List.nodup_nil, fun i h => absurd h List.not_mem_nil, fun q i h => by simp [ordN] at h⟩⟩
  | k + 1, hk => by
    obtain ⟨l, ok⟩ := ordN_ok hR k (Nat.le_of_succ_le hk)
    obtain ⟨c, rest, e⟩ := cands_ne (n := n) hR (ord := ordN n R k) (by omega)
    have cm : c ∈ cands n R (ordN n R k) := by rw [e]; exact List.mem_cons_self
    obtain ⟨c1, c2⟩ := List.mem_filter.mp cm
    obtain ⟨c3, c4⟩ := nxt_iff.mp c2
    rw [ordN_succ e]
    refine ⟨by rw [List.length_append, l]; rfl, ⟨?_, fun i hi => ?_, fun q i hq j hj hr => ?_⟩⟩
    · rw [List.nodup_append]
      refine ⟨ok.nd, by simp, fun a ha b hb => ?_⟩
      rw [List.mem_singleton.mp hb]
      intro z
      exact c3 (z ▸ ha)
    · rcases List.mem_append.mp hi with h | h
      · exact ok.lt i h
      · rw [List.mem_singleton.mp h]; exact List.mem_range.mp c1
    · rcases Nat.lt_or_ge q (ordN n R k).length with h | h
      · rw [List.getElem?_append_left h] at hq
        rw [List.take_append_of_le_length (Nat.le_of_lt h)]
        exact ok.up q i hq j hj hr
      · rw [List.getElem?_append_right h] at hq
        have q0 : q - (ordN n R k).length = 0 := by
          rcases Nat.eq_zero_or_pos (q - (ordN n R k).length) with z | z
          · exact z
          · rw [List.getElem?_eq_none (by rw [List.length_singleton]; exact z)] at hq; cases hq
        rw [q0] at hq
        cases hq
        have eq : q = (ordN n R k).length := by omega
        rw [eq, List.take_left']
        · exact c4 j hj hr
        · rfl
/-- every lamp stands in it -/
theorem ord_all {n : Nat} {R : Rel} (hR : Ranked R) {i : Nat} (hi : i < n) : i ∈ ordN n R n := by
  obtain ⟨l, ok⟩ := ordN_ok hR n (Nat.le_refl _)
  rcases Classical.em (i ∈ ordN n R n) with h | h
  · exact h
  · exfalso
    have := nat_nodup_len (i :: ordN n R n) (List.range n) (List.nodup_cons.mpr ⟨h, ok.nd⟩) fun x hx => by
      rcases List.mem_cons.mp hx with z | z
      · rw [z]; exact List.mem_range.mpr hi
      · exact List.mem_range.mpr (ok.lt x z)
    rw [List.length_cons, l, List.length_range] at this
    omega
theorem relOf_ranked {ps : List (Nat × Nat)} {ρ : Nat → Nat} (h : ∀ p ∈ ps, ρ p.1 < ρ p.2) : Ranked (relOf ps) := ⟨ρ, relOf_rank h⟩
/-! ### the relation goes on -/
def Trans (R : Rel) : Prop := ∀ i j k, R i j = true → R j k = true → R i k = true
theorem addW_iff {R : Rel} {u l i j : Nat} : addW R u l i j = true ↔ R i j = true ∨ ((i = u ∨ R i u = true) ∧ (j = l ∨ R l j = true)) := by
  unfold addW
  rw [Bool.or_eq_true, Bool.and_eq_true, Bool.or_eq_true, Bool.or_eq_true, beq_iff_eq, beq_iff_eq]
theorem addW_trans {R : Rel} (hR : Trans R) (u l : Nat) : Trans (addW R u l) := by
  intro i j k h1 h2
  rw [addW_iff] at h1 h2 ⊢
  rcases h1 with h1 | ⟨a1, a2⟩ <;> rcases h2 with h2 | ⟨b1, b2⟩
  · exact .inl (hR i j k h1 h2)
  · refine .inr ⟨.inr ?_, b2⟩
    rcases b1 with e | e
    · rw [← e]; exact h1
    · exact hR _ _ _ h1 e
  · refine .inr ⟨a1, .inr ?_⟩
    rcases a2 with e | e
    · rw [← e]; exact h2
    · exact hR _ _ _ e h2
  · exact .inr ⟨a1, b2⟩
theorem relOf_trans : ∀ (ps : List (Nat × Nat)), Trans (relOf ps) := by
  have key : ∀ (ps : List (Nat × Nat)) (R : Rel), Trans R → Trans (ps.foldl (fun R p => addW R p.1 p.2) R) := by
    intro ps
    induction ps with
    | nil => intro R h; exact h
    | cons p ps ih => intro R h; exact ih _ (addW_trans h p.1 p.2)
  intro ps
  exact key ps _ fun i j k h => by cases h
/-! ### states -/
abbrev stV (S : List Int) : List V := S.map V.int
def at_ (S : List Int) (k : Nat) : Int := S.getD k 0
theorem stV_get {S : List Int} {k : Nat} (h : k < S.length) : (stV S)[k]? = some (V.int (at_ S k)) := by
  unfold stV at_
  rw [List.getElem?_map, List.getElem?_eq_getElem h, List.getD_eq_getElem?_getD, List.getElem?_eq_getElem h]
  rfl
def StOk (n h : Nat) (S : List Int) : Prop := S.length = n ∧ ∀ z ∈ S, 0 ≤ z ∧ z < (h : Int)
theorem StOk.at {n h : Nat} {S : List Int} (s : StOk n h S) {k : Nat} (hk : k < n) : 0 ≤ at_ S k ∧ at_ S k < (h : Int) := by
  have hl : k < S.length := by rw [s.1]; exact hk
  unfold at_
  rw [List.getD_eq_getElem?_getD, List.getElem?_eq_getElem hl]
  exact s.2 _ (List.getElem_mem hl)
/-- T is reachable from S: every topmost difference goes down -/
def Reach (n : Nat) (R : Rel) (S T : List Int) : Prop := ∀ k, k < n → at_ S k ≠ at_ T k → (∀ u, u < n → R u k = true → at_ S u = at_ T u) → at_ T k < at_ S k
theorem rgV_nL (n : Nat) : rgV 0 (n : Int) = nL (List.range n) := by
  unfold rgV nL nI
  simp
theorem rgOk (n : Nat) (h : n ≤ 1000) : RgOk 0 (n : Int) := by
  unfold RgOk
  exact ⟨by omega, by omega, by omega, by omega, by omega⟩
theorem nL_erase (l : List Nat) (j : Nat) : (nL l).eraseIdx j = nL (l.eraseIdx j) := by
  unfold nL nI
  rw [List.map_map, List.map_map]
  induction l generalizing j with
  | nil => rfl
  | cons a l ih =>
    cases j with
    | zero => rfl
    | succ j => show _ :: _ = _ :: _; exact congrArg _ (ih j)
/-! ### the relation by its last wire -/
theorem fold_mono : ∀ (ps : List (Nat × Nat)) (R : Rel) (i j : Nat), R i j = true → ps.foldl (fun R p => addW R p.1 p.2) R i j = true
  | [], _, _, _, h => h
  | p :: ps, R, i, j, h => fold_mono ps _ i j (addW_iff.mpr (.inl h))
theorem fold_wire : ∀ (ps : List (Nat × Nat)) (R : Rel) (p : Nat × Nat), p ∈ ps → ps.foldl (fun R p => addW R p.1 p.2) R p.1 p.2 = true
  | [], _, _, h => by cases h
  | q :: ps, R, p, h => by
    rcases List.mem_cons.mp h with e | h
    · rw [e]
      exact fold_mono ps _ _ _ (addW_iff.mpr (.inr ⟨.inl rfl, .inl rfl⟩))
    · exact fold_wire ps _ p h
theorem rel_last {ps : List (Nat × Nat)} {j i : Nat} : relOf ps j i = true ↔ ∃ u, (u, i) ∈ ps ∧ (j = u ∨ relOf ps j u = true) := by
  have key : ∀ (ps qs : List (Nat × Nat)) (R : Rel), (∀ j i, R j i = true → ∃ u, (u, i) ∈ qs ∧ (j = u ∨ R j u = true)) →
      ∀ j i, ps.foldl (fun R p => addW R p.1 p.2) R j i = true → ∃ u, (u, i) ∈ qs ++ ps ∧ (j = u ∨ ps.foldl (fun R p => addW R p.1 p.2) R j u = true) := by
    intro ps
    induction ps with
    | nil =>
      intro qs R h j i hr
      rw [List.append_nil]
      exact h j i hr
    | cons p ps ih =>
      intro qs R h j i hr
      have z := ih (qs ++ [p]) (addW R p.1 p.2) (fun j i h2 => ?_) j i hr
      · rw [List.append_assoc] at z
        exact z
      · rcases addW_iff.mp h2 with h3 | ⟨h3, h4⟩
        · obtain ⟨u, hu, e⟩ := h j i h3
          exact ⟨u, List.mem_append_left _ hu, e.imp id fun z => addW_iff.mpr (.inl z)⟩
        · rcases h4 with e | e
          · refine ⟨p.1, List.mem_append_right _ (by rw [e]; exact List.mem_cons_self), ?_⟩
            exact h3.imp id fun z => addW_iff.mpr (.inl z)
          · obtain ⟨u, hu, e2⟩ := h p.2 i e
            refine ⟨u, List.mem_append_left _ hu, .inr (addW_iff.mpr (.inr ⟨h3, ?_⟩))⟩
            exact e2.imp Eq.symm id
  constructor
  · intro h
    have z := key ps [] (fun _ _ => false) (fun j i h => by cases h) j i h
    rw [List.nil_append] at z
    exact z
  · rintro ⟨u, hu, e⟩
    have w : relOf ps u i = true := fold_wire ps _ (u, i) hu
    rcases e with e | e
    · rw [e]; exact w
    · exact relOf_trans ps _ _ _ e w
end Hue

end
section
set_option maxRecDepth 100000
namespace Hue
open PySem PySem.Spec PyProof.Rows L2
/-! ### moves -/
def lastI (h : Nat) (up : Bool) : Int := if up = true then (h : Int) - 1 else 0
def shI (up : Bool) : Int := if up = true then 1 else -1
def mayB (n h : Nat) (R : Rel) (S : List Int) (k : Nat) (careful up : Bool) : Bool :=
  !decide (at_ S k = lastI h up) && (!careful || (Bel n R k).all fun j => decide (at_ S j = lastI h up))
def stepL (n h : Nat) (R : Rel) (S : List Int) (k : Nat) (up : Bool) : List Int :=
  (List.range n).map fun j => if j = k then at_ S k + shI up else if R k j = true then (at_ S j + shI up) % (h : Int) else at_ S j
theorem at_map {n : Nat} {f : Nat → Int} {j : Nat} (h : j < n) : at_ ((List.range n).map f) j = f j := by
  unfold at_
  rw [List.getD_eq_getElem?_getD, List.getElem?_map, List.getElem?_range h]
  rfl
theorem st_ext {n : Nat} {f : Nat → Int} {L : List Int} (l : L.length = n) (h : ∀ j, j < n → at_ L j = f j) : L = (List.range n).map f := by
  refine List.ext_getElem? fun i => ?_
  rcases Nat.lt_or_ge i n with lt | ge
  · rw [List.getElem?_map, List.getElem?_range lt, List.getElem?_eq_getElem (by omega)]
    have z := h i lt
    unfold at_ at z
    rw [List.getD_eq_getElem?_getD, List.getElem?_eq_getElem (by omega)] at z
    exact congrArg some z
  · rw [List.getElem?_eq_none (by omega), List.getElem?_eq_none (by rw [List.length_map, List.length_range]; exact ge)]
theorem st_eq {n : Nat} {S T : List Int} (hS : S.length = n) (hT : T.length = n) (h : ∀ j, j < n → at_ S j = at_ T j) : S = T := by
  rw [st_ext (f := at_ T) hS h, ← st_ext (f := at_ T) hT fun j _ => rfl]
theorem stepL_len (n h : Nat) (R : Rel) (S : List Int) (k : Nat) (up : Bool) : (stepL n h R S k up).length = n := by unfold stepL; simp
theorem step_k {n h : Nat} {R : Rel} {S : List Int} {k : Nat} {up : Bool} (hk : k < n) : at_ (stepL n h R S k up) k = at_ S k + shI up := by
  unfold stepL; rw [at_map hk, if_pos rfl]
theorem step_b {n h : Nat} {R : Rel} {S : List Int} {k j : Nat} {up : Bool} (hj : j < n) (ne : j ≠ k) (r : R k j = true) : at_ (stepL n h R S k up) j = (at_ S j + shI up) % (h : Int) := by
  unfold stepL; rw [at_map hj, if_neg ne, if_pos r]
theorem step_o {n h : Nat} {R : Rel} {S : List Int} {k j : Nat} {up : Bool} (hj : j < n) (ne : j ≠ k) (r : ¬ R k j = true) : at_ (stepL n h R S k up) j = at_ S j := by
  unfold stepL; rw [at_map hj, if_neg ne, if_neg r]
theorem may_iff {n h : Nat} {R : Rel} {S : List Int} {k : Nat} {careful up : Bool} : mayB n h R S k careful up = true ↔ at_ S k ≠ lastI h up ∧ (careful = true → ∀ j, j < n → R k j = true → at_ S j = lastI h up) := by
  unfold mayB
  rw [Bool.and_eq_true, Bool.not_eq_true', decide_eq_false_iff_not, Bool.or_eq_true, Bool.not_eq_true', List.all_eq_true]
  constructor
  · rintro ⟨a, b⟩
    refine ⟨a, fun c j hj r => ?_⟩
    rcases b with b | b
    · rw [c] at b; cases b
    · exact of_decide_eq_true (b j (mem_Bel.mpr ⟨hj, r⟩))
  · rintro ⟨a, b⟩
    refine ⟨a, ?_⟩
    cases careful with
    | false => exact .inl rfl
    | true => exact .inr fun j hj => decide_eq_true (b rfl j (mem_Bel.mp hj).1 (mem_Bel.mp hj).2)
def Irr (R : Rel) : Prop := ∀ k, R k k = false
theorem Ranked.irr {R : Rel} (h : Ranked R) : Irr R := fun k => by
  obtain ⟨ρ, hρ⟩ := h
  cases e : R k k with
  | false => rfl
  | true => exact absurd (hρ k k e) (Nat.lt_irrefl _)
theorem stOk_of {n h : Nat} {L : List Int} (l : L.length = n) (b : ∀ j, j < n → 0 ≤ at_ L j ∧ at_ L j < (h : Int)) : StOk n h L := by
  refine ⟨l, fun z hz => ?_⟩
  obtain ⟨j, hj, e⟩ := List.getElem_of_mem hz
  have := b j (by omega)
  unfold at_ at this
  rw [List.getD_eq_getElem?_getD, List.getElem?_eq_getElem hj] at this
  rw [← e]; exact this
theorem step_ok {n h : Nat} {R : Rel} {S : List Int} {k : Nat} {careful up : Bool} (h2 : 2 ≤ h) (ok : StOk n h S) (hk : k < n) (m : mayB n h R S k careful up = true) : StOk n h (stepL n h R S k up) := by
  refine stOk_of (stepL_len ..) fun j hj => ?_
  have m1 := (may_iff.mp m).1
  have bk := ok.at hk
  have bj := ok.at hj
  rcases Nat.decEq j k with ne | e
  · rcases Classical.em (R k j = true) with r | r
    · rw [step_b hj ne r]
      exact ⟨Int.emod_nonneg _ (by omega), Int.emod_lt_of_pos _ (by omega)⟩
    · rw [step_o hj ne r]; exact bj
  · rw [e, step_k hk]
    unfold lastI at m1
    unfold shI
    cases up with
    | true => simp only [if_true] at m1 ⊢; omega
    | false => simp only [Bool.false_eq_true, if_false] at m1 ⊢; omega
/-! ### paths -/
def Next (n h : Nat) (R : Rel) (careful up : Bool) (S T : List Int) : Prop := ∃ k, k < n ∧ mayB n h R S k careful up = true ∧ T = stepL n h R S k up
inductive Rt (n h : Nat) (R : Rel) (careful up : Bool) : List Int → List Int → Prop
  | refl (S : List Int) : Rt n h R careful up S S
  | tail {S T U : List Int} (a : Rt n h R careful up S T) (b : Next n h R careful up T U) : Rt n h R careful up S U
theorem Rt.head {n h : Nat} {R : Rel} {careful up : Bool} {S T U : List Int} (a : Next n h R careful up S T) (b : Rt n h R careful up T U) : Rt n h R careful up S U := by
  induction b with
  | refl => exact .tail (.refl _) a
  | tail _ c ih => exact .tail ih c
theorem Rt.ok {n h : Nat} {R : Rel} {careful up : Bool} {S T : List Int} (h2 : 2 ≤ h) (ok : StOk n h S) (a : Rt n h R careful up S T) : StOk n h T := by
  induction a with
  | refl => exact ok
  | tail _ c ih =>
    obtain ⟨k, hk, m, rfl⟩ := c
    exact step_ok h2 ih hk m
/-! ### reaching is an order, and a move leads down -/
theorem Reach.refl (n : Nat) (R : Rel) (S : List Int) : Reach n R S S := fun k _ d => absurd rfl d
/-- of all that hold, one with the least rank -/
theorem least_rank {n : Nat} {p : Nat → Prop} (ρ : Nat → Nat) (h : ∃ k, k < n ∧ p k) : ∃ k, k < n ∧ p k ∧ ∀ j, j < n → p j → ρ k ≤ ρ j := by
  have key : ∀ m k, k < n → p k → ρ k ≤ m → ∃ k, k < n ∧ p k ∧ ∀ j, j < n → p j → ρ k ≤ ρ j := by
    intro m
    induction m with
    | zero => exact fun k hk hp h0 => ⟨k, hk, hp, fun j _ _ => by omega⟩
    | succ m ih =>
      intro k hk hp hm
      rcases Classical.em (∃ j, j < n ∧ p j ∧ ρ j < ρ k) with ⟨j, hj, pj, lt⟩ | none
      · exact ih j hj pj (by omega)
      · refine ⟨k, hk, hp, fun j hj pj => ?_⟩
        rcases Nat.lt_or_ge (ρ j) (ρ k) with z | z
        · exact absurd ⟨j, hj, pj, z⟩ none
        · exact z
  obtain ⟨k, hk, hp⟩ := h
  exact key (ρ k) k hk hp (Nat.le_refl _)
theorem Reach.trans {n : Nat} {R : Rel} (hR : Ranked R) (hT : Trans R) {S T U : List Int} (a : Reach n R S T) (b : Reach n R T U) : Reach n R S U := by
  obtain ⟨ρ, hρ⟩ := hR
  intro k hk d top
  have all : ∀ u, u < n → R u k = true → at_ S u = at_ T u := by
    intro u hu r
    rcases Classical.em (at_ S u = at_ T u) with e | ne
    · exact e
    · exfalso
      obtain ⟨v, hv, ⟨v1, v2⟩, v3⟩ := least_rank (n := n) (p := fun v => R v k = true ∧ at_ S v ≠ at_ T v) ρ ⟨u, hu, r, ne⟩
      have eqs : ∀ x, x < n → R x v = true → at_ S x = at_ T x := fun x hx rx => by
        rcases Classical.em (at_ S x = at_ T x) with e | nx
        · exact e
        · have := v3 x hx ⟨hT _ _ _ rx v1, nx⟩
          have := hρ x v rx
          omega
      have l1 := a v hv v2 eqs
      have sv := top v hv v1
      have l2 := b v hv (fun e => v2 (by rw [sv, e])) fun x hx rx => by
        rw [← eqs x hx rx]
        exact top x hx (hT _ _ _ rx v1)
      omega
  have all2 : ∀ u, u < n → R u k = true → at_ T u = at_ U u := fun u hu r => by rw [← all u hu r]; exact top u hu r
  rcases Classical.em (at_ S k = at_ T k) with e | ne
  · rw [e]
    exact b k hk (fun z => d (by rw [e, z])) all2
  · have l1 := a k hk ne all
    rcases Classical.em (at_ T k = at_ U k) with e2 | ne2
    · omega
    · have := b k hk ne2 all2
      omega
theorem next_reach {n h : Nat} {R : Rel} (irr : Irr R) {careful : Bool} {S T : List Int} (ok : StOk n h S) (a : Next n h R careful false S T) : Reach n R S T := by
  obtain ⟨k, hk, m, rfl⟩ := a
  intro j hj d top
  rcases Nat.decEq j k with ne | e
  · exfalso
    rcases Classical.em (R k j = true) with r | r
    · have := top k hk r
      rw [step_k hk] at this
      unfold shI at this
      simp only [Bool.false_eq_true, if_false] at this
      omega
    · exact d (step_o hj ne r).symm
  · rw [e, step_k hk]
    unfold shI
    simp only [Bool.false_eq_true, if_false]
    omega
theorem rt_reach {n h : Nat} {R : Rel} (h2 : 2 ≤ h) (hR : Ranked R) (hT : Trans R) {careful : Bool} {S T : List Int} (ok : StOk n h S) (a : Rt n h R careful false S T) : Reach n R S T := by
  induction a with
  | refl => exact Reach.refl n R _
  | tail b c ih => exact ih.trans hR hT (next_reach hR.irr (b.ok h2 ok) c)
theorem nodup_at' {l : List Nat} (nd : l.Nodup) {i j k : Nat} (h1 : l[i]? = some k) (h2 : l[j]? = some k) : i = j := by
  obtain ⟨a1, a2⟩ := List.getElem?_eq_some_iff.mp h1
  obtain ⟨b1, b2⟩ := List.getElem?_eq_some_iff.mp h2
  rcases Nat.lt_trichotomy i j with h | h | h
  · exact absurd (a2.trans b2.symm) (List.pairwise_iff_getElem.mp nd i j a1 b1 h)
  · exact h
  · exact absurd (b2.trans a2.symm) (List.pairwise_iff_getElem.mp nd j i b1 a1 h)
/-! ### a number that falls -/
def numF (h : Int) : Int → List Int → Int := fun a l => l.foldl (fun a z => a * h + z) a
theorem numF_lt {h : Int} (h0 : 0 < h) : ∀ (u v : List Int) (a b : Int), u.length = v.length → (∀ z ∈ u, z < h) → (∀ z ∈ v, 0 ≤ z) → a + 1 ≤ b → numF h a u < numF h b v
  | [], [], a, b, _, _, _, hab => by show a < b; omega
  | [], _ :: _, _, _, l, _, _, _ => by simp at l
  | _ :: _, [], _, _, l, _, _, _ => by simp at l
  | x :: u, y :: v, a, b, l, hu, hv, hab => by
    show numF h (a * h + x) u < numF h (b * h + y) v
    refine numF_lt h0 u v _ _ (by simpa using l) (fun z hz => hu z (List.mem_cons_of_mem _ hz)) (fun z hz => hv z (List.mem_cons_of_mem _ hz)) ?_
    have h1 := hu x List.mem_cons_self
    have h2 := hv y List.mem_cons_self
    have h3 : (a + 1) * h ≤ b * h := Int.mul_le_mul_of_nonneg_right hab (Int.le_of_lt h0)
    rw [Int.add_mul, Int.one_mul] at h3
    omega
theorem numF_nonneg {h : Int} (h0 : 0 < h) : ∀ (u : List Int) (a : Int), 0 ≤ a → (∀ z ∈ u, 0 ≤ z) → 0 ≤ numF h a u
  | [], a, ha, _ => ha
  | x :: u, a, ha, hu => numF_nonneg h0 u (a * h + x) (by
      have := hu x List.mem_cons_self
      have h3 : 0 ≤ a * h := Int.mul_nonneg ha (Int.le_of_lt h0)
      omega) fun z hz => hu z (List.mem_cons_of_mem _ hz)
def numS (n h : Nat) (R : Rel) (S : List Int) : Int := numF h 0 ((ordN n R n).map (at_ S))
theorem numS_nonneg {n h : Nat} {R : Rel} (hR : Ranked R) (h2 : 2 ≤ h) {S : List Int} (ok : StOk n h S) : 0 ≤ numS n h R S := by
  refine numF_nonneg (by omega) _ _ (Int.le_refl 0) fun z hz => ?_
  obtain ⟨k, hk, rfl⟩ := List.mem_map.mp hz
  exact (ok.at ((ordN_ok hR n (Nat.le_refl n)).2.lt k hk)).1
theorem numS_falls {n h : Nat} {R : Rel} (hR : Ranked R) (h2 : 2 ≤ h) {careful : Bool} {S T : List Int} (ok : StOk n h S) (a : Next n h R careful false S T) : numS n h R T < numS n h R S := by
  obtain ⟨k, hk, m, rfl⟩ := a
  have okT := step_ok h2 ok hk m
  obtain ⟨_, oo⟩ := ordN_ok hR n (Nat.le_refl n)
  obtain ⟨A, B, e⟩ := List.append_of_mem (ord_all hR hk)
  have pre : A.map (at_ (stepL n h R S k false)) = A.map (at_ S) := by
    refine List.map_congr_left fun j hj => ?_
    obtain ⟨q, hq, ej⟩ := List.getElem_of_mem hj
    have at1 : (ordN n R n)[q]? = some j := by rw [e, List.getElem?_append_left hq, List.getElem?_eq_getElem hq, ej]
    have jn := oo.lt j (List.mem_of_getElem? at1)
    have at2 : (ordN n R n)[A.length]? = some k := by rw [e, List.getElem?_append_right (Nat.le_refl _), Nat.sub_self]; rfl
    have ne : j ≠ k := fun z => by
      rw [z] at at1
      have := nodup_at' oo.nd at1 at2
      omega
    refine step_o jn ne fun r => ?_
    have mem := oo.up q j at1 k hk r
    obtain ⟨i, hi, ei⟩ := List.getElem_of_mem mem
    rw [List.length_take] at hi
    rw [List.getElem_take] at ei
    have at3 : (ordN n R n)[i]? = some k := by rw [List.getElem?_eq_getElem (by omega), ei]
    have := nodup_at' oo.nd at3 at2
    omega
  unfold numS
  rw [e, List.map_append, List.map_append, List.map_cons, List.map_cons, pre]
  unfold numF
  rw [List.foldl_append, List.foldl_append, List.foldl_cons, List.foldl_cons]
  refine numF_lt (h := h) (by omega) _ _ _ _ (by rw [List.length_map, List.length_map]) (fun z hz => ?_) (fun z hz => ?_) ?_
  · obtain ⟨j, hj, rfl⟩ := List.mem_map.mp hz
    exact (okT.at (oo.lt j (by rw [e]; exact List.mem_append_right _ (List.mem_cons_of_mem _ hj)))).2
  · obtain ⟨j, hj, rfl⟩ := List.mem_map.mp hz
    exact (ok.at (oo.lt j (by rw [e]; exact List.mem_append_right _ (List.mem_cons_of_mem _ hj)))).1
  · rw [step_k hk]
    unfold shI
    simp only [Bool.false_eq_true, if_false]
    omega
/-! ### a careful move on the way -/
theorem careful_step {n h : Nat} {R : Rel} (h2 : 2 ≤ h) (hR : Ranked R) (hT : Trans R) {S T : List Int} (okS : StOk n h S) (okT : StOk n h T) (a : Reach n R S T) (ne : S ≠ T) :
    ∃ U, Next n h R true false S U ∧ Reach n R U T := by
  obtain ⟨ρ, hρ⟩ := id hR
  have irr := hR.irr
  have diff : ∃ k, k < n ∧ at_ S k ≠ at_ T k := by
    rcases Classical.em (∃ k, k < n ∧ at_ S k ≠ at_ T k) with z | z
    · exact z
    · refine absurd (st_eq okS.1 okT.1 fun j hj => ?_) ne
      rcases Classical.em (at_ S j = at_ T j) with e | e
      · exact e
      · exact absurd ⟨j, hj, e⟩ z
  obtain ⟨t, ht, dt, mt⟩ := least_rank (n := n) (p := fun k => at_ S k ≠ at_ T k) ρ diff
  have topt : ∀ u, u < n → R u t = true → at_ S u = at_ T u := fun u hu r => by
    rcases Classical.em (at_ S u = at_ T u) with e | e
    · exact e
    · have := mt u hu e
      have := hρ u t r
      omega
  have lt_t := a t ht dt topt
  -- the lowest lit lamp at or beneath t
  have hN : ∃ N, ∀ k, k < n → ρ k ≤ N := by
    have key : ∀ m, ∃ N, ∀ k, k < m → ρ k ≤ N := by
      intro m
      induction m with
      | zero => exact ⟨0, fun k hk => by omega⟩
      | succ m ih =>
        obtain ⟨N, hN⟩ := ih
        refine ⟨N + ρ m, fun k hk => ?_⟩
        rcases Nat.lt_or_ge k m with z | z
        · have := hN k z; omega
        · have e : k = m := by omega
          rw [e]; omega
    exact key n
  obtain ⟨N, hN⟩ := hN
  have lit_t : at_ S t ≠ 0 := by
    have := (okT.at ht).1
    omega
  obtain ⟨l, hl, ⟨cone, lit⟩, low⟩ := least_rank (n := n) (p := fun k => (k = t ∨ R t k = true) ∧ at_ S k ≠ 0) (fun k => N - ρ k) ⟨t, ht, .inl rfl, lit_t⟩
  have inCone : ∀ j, R l j = true → R t j = true := fun j r => by
    rcases cone with e | e
    · rw [← e]; exact r
    · exact hT _ _ _ e r
  have dark : ∀ j, j < n → R l j = true → at_ S j = 0 := fun j hj r => by
    rcases Classical.em (at_ S j = 0) with e | e
    · exact e
    · have h1 := low j hj ⟨.inr (inCone j r), e⟩
      have h2 := hρ l j r
      have h3 := hN j hj
      omega
  have may : mayB n h R S l true false = true := may_iff.mpr ⟨by unfold lastI; simp only [Bool.false_eq_true, if_false]; exact lit, fun _ j hj r => by unfold lastI; simp only [Bool.false_eq_true, if_false]; exact dark j hj r⟩
  refine ⟨_, ⟨l, hl, may, rfl⟩, ?_⟩
  have sl : at_ (stepL n h R S l false) l = at_ S l - 1 := by
    rw [step_k hl]; unfold shI; simp only [Bool.false_eq_true, if_false]; omega
  have sb : ∀ j, j < n → R l j = true → at_ (stepL n h R S l false) j = (h : Int) - 1 := fun j hj r => by
    have nj : j ≠ l := fun z => by rw [z, irr l] at r; cases r
    rw [step_b hj nj r, dark j hj r]
    unfold shI
    simp only [Bool.false_eq_true, if_false]
    have : ((0 : Int) + -1) % (h : Int) = (h : Int) - 1 := by
      rw [show (0 : Int) + -1 = ((h : Int) - 1) + (h : Int) * (-1) by omega, Int.add_mul_emod_self_left]
      exact Int.emod_eq_of_lt (by omega) (by omega)
    exact this
  have so : ∀ j, j < n → j ≠ l → ¬ R l j = true → at_ (stepL n h R S l false) j = at_ S j := fun j hj nj r => step_o hj nj r
  intro k hk d top
  -- outside of the cone nothing changes, and the way stays
  have outside : k ≠ t → ¬ R t k = true → at_ T k < at_ (stepL n h R S l false) k := by
    intro kt rk
    have kl : k ≠ l := fun z => by
      rcases cone with e | e
      · exact kt (z.trans e)
      · rw [← z] at e; exact rk e
    have ek := so k hk kl fun r => rk (inCone k r)
    rw [ek] at d ⊢
    refine a k hk d fun u hu r => ?_
    have ut : u ≠ t := fun z => by rw [z] at r; exact rk r
    have ru : ¬ R t u = true := fun z => rk (hT _ _ _ z r)
    have ul : u ≠ l := fun z => by
      rcases cone with e | e
      · exact ut (z.trans e)
      · rw [← z] at e; exact ru e
    rw [← so u hu ul fun z => ru (inCone u z)]
    exact top u hu r
  rcases Nat.decEq l t with lt | lt
  · -- l is beneath t
    have Rtl : R t l = true := by
      rcases cone with e | e
      · exact absurd e lt
      · exact e
    have st : at_ (stepL n h R S l false) t = at_ S t := so t ht (fun z => lt z.symm) fun r => by
      have := inCone t r
      rw [irr t] at this; cases this
    rcases Nat.decEq k t with kt | kt
    · rcases Classical.em (R t k = true) with r | r
      · exfalso
        have := top t ht r
        rw [st] at this
        exact dt this
      · exact outside kt r
    · rw [kt, st]; exact lt_t
  · rcases Nat.decEq k t with kt | kt
    · rcases Classical.em (R t k = true) with r | r
      · rw [sb k hk (by rw [lt]; exact r)] at d ⊢
        have := (okT.at hk).2
        omega
      · exact outside kt r
    · rw [kt, ← lt, sl] at d ⊢
      rw [← lt] at lt_t
      omega
theorem reach_rt {n h : Nat} {R : Rel} (h2 : 2 ≤ h) (hR : Ranked R) (hT : Trans R) {T : List Int} (okT : StOk n h T) : ∀ (m : Nat) (S : List Int), (numS n h R S).toNat ≤ m → StOk n h S → Reach n R S T → Rt n h R true false S T := by
  intro m
  induction m with
  | zero =>
    intro S hm okS a
    rcases Classical.em (S = T) with e | ne
    · rw [e]; exact .refl _
    · exfalso
      obtain ⟨U, nx, _⟩ := careful_step h2 hR hT okS okT a ne
      have h1 := numS_falls hR h2 okS nx
      obtain ⟨k, hk, may, e⟩ := id nx
      have h3 := numS_nonneg (n := n) (h := h) hR h2 (S := U) (by rw [e]; exact step_ok h2 okS hk may)
      omega
  | succ m ih =>
    intro S hm okS a
    rcases Classical.em (S = T) with e | ne
    · rw [e]; exact .refl _
    · obtain ⟨U, nx, b⟩ := careful_step h2 hR hT okS okT a ne
      have h1 := numS_falls hR h2 okS nx
      obtain ⟨k, hk, may, e⟩ := id nx
      have okU : StOk n h U := by rw [e]; exact step_ok h2 okS hk may
      have h3 := numS_nonneg (n := n) (h := h) hR h2 okU
      exact .head nx (ih U (by omega) okU b)
theorem rt_free {n h : Nat} {R : Rel} {careful up : Bool} {S T : List Int} (a : Rt n h R true up S T) : Rt n h R careful up S T := by
  induction a with
  | refl => exact .refl _
  | tail _ c ih =>
    obtain ⟨k, hk, m, e⟩ := c
    refine .tail ih ⟨k, hk, may_iff.mpr ⟨(may_iff.mp m).1, fun _ => (may_iff.mp m).2 rfl⟩, e⟩
/-- by moves down, free or careful, exactly the reachable states are found -/
theorem rt_down {n h : Nat} {R : Rel} (h2 : 2 ≤ h) (hR : Ranked R) (hT : Trans R) {careful : Bool} {S T : List Int} (okS : StOk n h S) (okT : StOk n h T) : Rt n h R careful false S T ↔ Reach n R S T :=
  ⟨rt_reach h2 hR hT okS, fun a => rt_free (reach_rt h2 hR hT okT _ S (Nat.le_refl _) okS a)⟩
/-! ### moves up undo moves down -/
theorem emod_small {a h : Int} (h1 : 0 ≤ a) (h2 : a < h) : a % h = a := Int.emod_eq_of_lt h1 h2
theorem emod_wrap_up {h : Int} (h0 : 0 < h) : h % h = 0 := Int.emod_self
theorem up_down {a h : Int} (h2 : 2 ≤ h) (b : 0 ≤ a ∧ a < h) : ((a + 1) % h + -1) % h = a := by
  rcases Int.lt_trichotomy (a + 1) h with c | c | c
  · rw [emod_small (by omega) c, show a + 1 + -1 = a by omega, emod_small b.1 b.2]
  · rw [c, Int.emod_self, show (0 : Int) + -1 = (h - 1) + h * (-1) by omega, Int.add_mul_emod_self_left, emod_small (by omega) (by omega)]
    omega
  · omega
theorem down_up {a h : Int} (h2 : 2 ≤ h) (b : 0 ≤ a ∧ a < h) : ((a + -1) % h + 1) % h = a := by
  rcases Int.lt_trichotomy a 0 with c | c | c
  · omega
  · rw [c, show (0 : Int) + -1 = (h - 1) + h * (-1) by omega, Int.add_mul_emod_self_left, emod_small (a := h - 1) (by omega) (by omega), show h - 1 + 1 = h by omega, Int.emod_self]
  · rw [emod_small (a := a + -1) (by omega) (by omega), show a + -1 + 1 = a by omega, emod_small b.1 b.2]
theorem next_back {n h : Nat} {R : Rel} (h2 : 2 ≤ h) (irr : Irr R) {careful up : Bool} {S T : List Int} (okS : StOk n h S) (a : Next n h R careful up S T) : Next n h R careful (!up) T S := by
  obtain ⟨k, hk, m, rfl⟩ := a
  obtain ⟨m1, m2⟩ := may_iff.mp m
  have okT := step_ok h2 okS hk m
  have bk := okS.at hk
  refine ⟨k, hk, may_iff.mpr ⟨?_, fun c j hj r => ?_⟩, ?_⟩
  · rw [step_k hk]
    unfold lastI at m1 ⊢
    unfold shI
    cases up <;> simp only [if_true, Bool.false_eq_true, if_false, Bool.not_true, Bool.not_false] at m1 ⊢ <;> omega
  · have nj : j ≠ k := fun z => by rw [z, irr k] at r; cases r
    rw [step_b hj nj r, m2 c j hj r]
    unfold lastI shI
    cases up with
    | true =>
      simp only [if_true, Bool.not_true, Bool.false_eq_true, if_false]
      rw [show (h : Int) - 1 + 1 = h by omega, Int.emod_self]
    | false =>
      simp only [if_true, Bool.not_false, Bool.false_eq_true, if_false]
      rw [show (0 : Int) + -1 = ((h : Int) - 1) + (h : Int) * (-1) by omega, Int.add_mul_emod_self_left, emod_small (by omega) (by omega)]
  · refine st_eq okS.1 (stepL_len ..) fun j hj => ?_
    rcases Nat.decEq j k with nj | e
    · rcases Classical.em (R k j = true) with r | r
      · rw [step_b hj nj r, step_b hj nj r]
        have bj := okS.at hj
        unfold shI
        cases up with
        | true => simp only [if_true, Bool.not_true, Bool.false_eq_true, if_false]; exact (up_down (by omega) bj).symm
        | false => simp only [if_true, Bool.not_false, Bool.false_eq_true, if_false]; exact (down_up (by omega) bj).symm
      · rw [step_o hj nj r, step_o hj nj r]
    · rw [e, step_k hk, step_k hk]
      unfold shI
      cases up <;> simp only [if_true, Bool.false_eq_true, if_false, Bool.not_true, Bool.not_false] <;> omega
theorem rt_back {n h : Nat} {R : Rel} (h2 : 2 ≤ h) (irr : Irr R) {careful up : Bool} {S T : List Int} (okS : StOk n h S) (a : Rt n h R careful up S T) : Rt n h R careful (!up) T S := by
  induction a with
  | refl => exact .refl _
  | tail b c ih => exact .head (next_back h2 irr (b.ok h2 okS) c) ih
theorem rt_up {n h : Nat} {R : Rel} (h2 : 2 ≤ h) (hR : Ranked R) (hT : Trans R) {careful : Bool} {S T : List Int} (okS : StOk n h S) (okT : StOk n h T) : Rt n h R careful true S T ↔ Reach n R T S := by
  rw [← rt_down (careful := careful) h2 hR hT okT okS]
  exact ⟨fun a => rt_back h2 hR.irr okS a, fun a => rt_back h2 hR.irr okT a⟩
/-! ### how many states there are -/
def codeN (h : Nat) : Nat → List Int → Nat := fun a l => l.foldl (fun a z => a * h + z.toNat) a
theorem mul_add_inj {h a b x y : Nat} (hx : x < h) (hy : y < h) (e : a * h + x = b * h + y) : a = b ∧ x = y := by
  have e1 : (a * h + x) % h = x := by rw [Nat.mul_comm, Nat.mul_add_mod]; exact Nat.mod_eq_of_lt hx
  have e2 : (b * h + y) % h = y := by rw [Nat.mul_comm, Nat.mul_add_mod]; exact Nat.mod_eq_of_lt hy
  have exy : x = y := by rw [← e1, e, e2]
  refine ⟨?_, exy⟩
  have e3 : a * h = b * h := by omega
  exact Nat.eq_of_mul_eq_mul_right (by omega) e3
theorem code_inj {h : Nat} : ∀ (u v : List Int) (a b : Nat), u.length = v.length → (∀ z ∈ u, 0 ≤ z ∧ z < (h : Int)) → (∀ z ∈ v, 0 ≤ z ∧ z < (h : Int)) → codeN h a u = codeN h b v → a = b ∧ u = v
  | [], [], _, _, _, _, _, e => ⟨e, rfl⟩
  | [], _ :: _, _, _, l, _, _, _ => by simp at l
  | _ :: _, [], _, _, l, _, _, _ => by simp at l
  | x :: u, y :: v, a, b, l, hu, hv, e => by
    have bx := hu x List.mem_cons_self
    have by_ := hv y List.mem_cons_self
    obtain ⟨e1, e2⟩ := code_inj u v (a * h + x.toNat) (b * h + y.toNat) (by simpa using l) (fun z hz => hu z (List.mem_cons_of_mem _ hz)) (fun z hz => hv z (List.mem_cons_of_mem _ hz)) e
    obtain ⟨e3, e4⟩ := mul_add_inj (by omega) (by omega) e1
    exact ⟨e3, by rw [e2, show x = y by omega]⟩
theorem code_lt {h : Nat} : ∀ (u : List Int) (a : Nat), (∀ z ∈ u, 0 ≤ z ∧ z < (h : Int)) → codeN h a u < (a + 1) * h ^ u.length
  | [], a, _ => by show a < (a + 1) * 1; omega
  | x :: u, a, hu => by
    have bx := hu x List.mem_cons_self
    have ih := code_lt u (a * h + x.toNat) fun z hz => hu z (List.mem_cons_of_mem _ hz)
    refine Nat.lt_of_lt_of_le ih ?_
    rw [List.length_cons, Nat.pow_succ, Nat.mul_comm (h ^ u.length) h, ← Nat.mul_assoc]
    refine Nat.mul_le_mul_right _ ?_
    rw [Nat.add_mul, Nat.one_mul]
    omega
theorem nodup_map {α β : Type} {f : α → β} : ∀ {l : List α}, l.Nodup → (∀ x ∈ l, ∀ y ∈ l, f x = f y → x = y) → (l.map f).Nodup
  | [], _, _ => List.nodup_nil
  | a :: l, nd, inj => by
    obtain ⟨n1, n2⟩ := List.nodup_cons.mp nd
    rw [List.map_cons]
    refine List.nodup_cons.mpr ⟨fun hm => ?_, nodup_map n2 fun x hx y hy => inj x (List.mem_cons_of_mem _ hx) y (List.mem_cons_of_mem _ hy)⟩
    obtain ⟨b, hb, e⟩ := List.mem_map.mp hm
    have := inj b (List.mem_cons_of_mem _ hb) a List.mem_cons_self e
    rw [this] at hb
    exact n1 hb
theorem count_states {n h : Nat} {F : List (List Int)} (nd : F.Nodup) (ok : ∀ S ∈ F, StOk n h S) : F.length ≤ h ^ n := by
  have nd2 : (F.map (codeN h 0)).Nodup := nodup_map nd fun S hS T hT e => (code_inj S T 0 0 (by rw [(ok S hS).1, (ok T hT).1]) (ok S hS).2 (ok T hT).2 e).2
  have := nat_nodup_len _ (List.range (h ^ n)) nd2 fun x hx => by
    obtain ⟨S, hS, rfl⟩ := List.mem_map.mp hx
    have := code_lt S 0 (ok S hS).2
    rw [(ok S hS).1, Nat.zero_add, Nat.one_mul] at this
    exact List.mem_range.mpr this
  rwa [List.length_map, List.length_range] at this
/-- what is found and closed is all that is reached -/
theorem found_all {n h : Nat} {R : Rel} {careful up : Bool} {S0 : List Int} {F : List (List Int)} (m0 : S0 ∈ F) (snd : ∀ T ∈ F, Rt n h R careful up S0 T) (cl : ∀ T ∈ F, ∀ U, Next n h R careful up T U → U ∈ F) (T : List Int) :
    T ∈ F ↔ Rt n h R careful up S0 T := by
  refine ⟨snd T, fun a => ?_⟩
  induction a with
  | refl => exact m0
  | tail _ c ih => exact cl _ ih _ c
/-! ### the dict of what is found -/
def dk (S : List Int) : List Key := S.map Sum.inl
theorem dk_V (S : List Int) : (dk S).map kV = stV S := by
  unfold dk stV
  rw [List.map_map]
  rfl
theorem dk_inj : ∀ {S T : List Int}, dk S = dk T → S = T
  | [], [], _ => rfl
  | [], _ :: _, h => by cases h
  | _ :: _, [], h => by cases h
  | a :: S, b :: T, h => by
    have h1 : (Sum.inl a : Key) :: dk S = Sum.inl b :: dk T := h
    injection h1 with h2 h3
    injection h2 with h2
    rw [h2, dk_inj h3]
def fdict (F : List (List Int)) : List (List Key × V) := F.map fun S => (dk S, V.bl true)
theorem val_f {F : List (List Int)} {S : List Int} : (valV (fdict F) (dk S)).isSome = decide (S ∈ F) := by
  rw [← valV_any]
  unfold fdict
  rw [List.any_map, Bool.eq_iff_iff, List.any_eq_true, decide_eq_true_eq]
  constructor
  · rintro ⟨T, hT, e⟩
    rw [← dk_inj (of_decide_eq_true e)]
    exact hT
  · exact fun hS => ⟨S, hS, decide_eq_true rfl⟩
theorem put_f {F : List (List Int)} {S : List Int} (hS : S ∉ F) : putK (fdict F) (dk S) (V.bl true) = fdict (F ++ [S]) := by
  have e : ((fdict F).any fun kv => decide (kv.1 = dk S)) = false := by
    have z := val_f (F := F) (S := S)
    rw [← valV_any, decide_eq_false hS] at z
    exact z
  unfold putK
  rw [e, if_neg Bool.false_ne_true]
  unfold fdict
  rw [List.map_append]
  rfl
end Hue

end
section
set_option maxRecDepth 100000
namespace L2
open PySem PySem.Spec PyProof.Rows
/-! ### {t: v}, t a tuple -/
section
variable {X : Cx} {pos : Pos} {k v : Expr} {tk tv : TE}
def tHuD1 (tk tv : TE) : TE := fun σ H Q => ∀ p, H p = none → tk σ (upd H p (.dT [])) fun x H1 => tv σ H1 fun y H2 => H2 p = some (.dT []) ∧ ∃ (b : Addr) (ks : List Key), x = .ref b ∧ H2 b = some (.tup (ks.map kV)) ∧ Q (.ref p) (upd H2 p (.dT (putK [] ks y)))
theorem hu_pe_disp1 (hu : X.A.units + 1 < cLine) (hk : PE X k tk) (hv : PE X v tv) : PE X (.Dict [some k] [v] pos) (tHuD1 tk tv) := by
  refine ⟨fun pins s σ H Q I q => ?_⟩
  have hn := I.hok.fresh (Nat.le_refl s.heap.objs.size)
  have I1 := I.laid (a := s.heap.objs.size) (o := .dT []) (h' := s.heap.push { cls := .type "dict", data := .dict #[] }) (t' := s.toks) (fun _ _ q => Heap.get?_push_of_some _ q) (Nat.le_refl _) (dt_empty s.heap I.big)
  rw [arm_eval_Dict, zip_pairTrees [some k] [v] X.env pos rfl rfl, dictDisplay_pairs _ (by intro z; have := congrArg List.length z; rw [pairTrees_length _ _ _ _ rfl rfl] at this; simp at this) (by rw [pairTrees_length _ _ _ _ rfl rfl]; show 1 < 17; decide)]
  refine wpAny_bind (wpAny_standAt (wpAny_bind ?_))
  unfold subDict
  refine wpAny_bind (wpAny_alloc ?_)
  refine wpAny_bind (wpAny_holding ?_)
  rw [if_pos (by rw [pairTrees_length _ _ _ _ rfl rfl]; show 1 ≤ 15; decide)]
  have pp : PPs X pos [some k] [v] [(tk, tv)] := pps_cons hk hv pps_nil
  refine wpAny_bind (thn (pp.run pins _ σ _ (fun ps H2 => match ps with
    | [(x, y)] => H2 s.heap.objs.size = some (.dT []) ∧ ∃ (b : Addr) (ks : List Key), x = .ref b ∧ H2 b = some (.tup (ks.map kV)) ∧ Q (.ref s.heap.objs.size) (upd H2 s.heap.objs.size (.dT (putK [] ks y)))
    | _ => False) I1 (q _ hn)) fun ws s2 hw => ?_)
  obtain ⟨ps, H2, I2, rel, hw⟩ := hw
  match ps, ws, rel, hw with
  | [(x, y)], [(u, r')], .cons r .nil, hw =>
    obtain ⟨e, b, ks, rfl, eb, q2⟩ := hw
    obtain ⟨r1, r2⟩ := r
    cases (show u = Value.ref b from r1)
    refine wpAny_holding ?_
    refine wpAny_bind ?_
    rw [List.forIn_cons]
    obtain ⟨z, hd, xs, rel, dd⟩ := dt_of I2.hok e
    have hz : xs.length ≤ sizeLine := by rw [← Paired.length rel]; exact Nat.zero_le _
    refine wpAny_bind (wpAny_bind (wpAny_dictSet_heap (hsz := hz) ?_ (key_of I2.hok eb) dd fun h' dd' hs => wpAny_pure ?_))
    · show X.A.units < cLine
      omega
    refine wpAny_pure (wpAny_pure (wpAny_pure (wpAny_pure ?_)))
    have hl : (putK ([] : List (List Key × V)) ks y).length ≤ sizeLine := by
      have := length_putK ([] : List (List Key × V)) ks y
      rw [List.length_nil] at this
      rw [sizeLine_eq]; omega
    obtain ⟨qo, es, ep, hq, h2, h3, h4, _, h5⟩ := dd'
    refine ⟨.ref s.heap.objs.size, upd H2 s.heap.objs.size (.dT (putK [] ks y)), ?_, rfl, q2⟩
    refine d_write I2 (by rw [e]; exact True.intro) hs ⟨qo, hq⟩ ⟨hl, hd, _, (rel.put ks eb r2).keeps fun c ys ec => ?_, qo, es, ep, hq, h2, h3, h4, h5⟩
    rw [upd_ne (ne_of ec e (fun z => nomatch z))]
    exact ec
end
end L2

end
section
set_option maxRecDepth 100000
namespace Hue
open PySem PySem.Spec PyProof.Rows L2
/-! ### the text by places -/
def top (i : Nat) : Stmt := PySem.Challenge.pw_huefall_k16_whole_reach_is_search.main.body.getD i (.Pass ⟨0, 0, 0, 0⟩)
/-- what the top has left: the class, the built-ins' names -/
structure Txt (K : PySem.W.Frag) (mg : Str → Option Value) (C : Addr) : Prop where
  cl : Cls K C
  nCount : NoAttr K C "count"
  nHues : NoAttr K C "hues"
  nBen : NoAttr K C "_beneath"
  nWires : NoAttr K C "wires"
  nAbove : NoAttr K C "_above"
  nDirect : NoAttr K C "_direct"
  nOrder : NoAttr K C "_order"
  mgC : mg "House" = some (.ref C)
  con : ∃ mc, ClX.CRead K C mc ∧ (∃ u, ClX.CVal K C mc "MOST_LAMPS" (.int 16) u) ∧ ∃ u, ClX.CVal K C mc "MOST_HUES" (.int 10) u
  len : mg "len" = none
  range : mg "range" = none
  isinstance : mg "isinstance" = none
  int : mg "int" = none
  bool : mg "bool" = none
  tuple : mg "tuple" = none
  list : mg "list" = none
  set : mg "set" = none
  enumerate : mg "enumerate" = none
  sorted : mg "sorted" = none
  min : mg "min" = none
  all : mg "all" = none
  abs : mg "abs" = none
section
variable {P : Program} {w : World} {K : PySem.W.Frag} {mg : Str → Option Value} {base : Heap} {C : Addr}
/-! ### whole numbers -/
abbrev s_is_whole : Stmt := top 7
theorem sc_is_whole : FnScope ["value"] ["value"] (defScope s_is_whole) := ⟨rfl, rfl, rfl, by decide +kernel, rfl, by decide +kernel, by decide +kernel⟩
-- slots of is_whole: 0 value
def spWhole : Sp := fun vs H Q _ => ∃ i, vs = [.int i] ∧ Q (.bl true) H
theorem ok_is_whole (T : Txt K mg C) {f : Addr} {fd : FuncData} (F : Fun K "is_whole" "is_whole" s_is_whole f fd) : FnOk P w K mg base CX0 1 f fd ["value"] spWhole := by
  refine F.ok sc_is_whole (fun vs H Q E h => ?_) (fun cdv A outer s H vs Q E hr h => ?_)
  · obtain ⟨i, rfl, _⟩ := h; rfl
  · obtain ⟨i, rfl, q⟩ := h
    refine ⟨_, (pss_one (ps_ret (pe_and (pe_callB (isi_ K) (by rfl) T.isinstance b_isinstance (pa_cons (pv 0) (pa_cons (pe_bltn (v := .ty "int") (by rfl) T.int b_int rfl) pa_nil))) (pe_one (pe_not (pe_callB (isi_ K) (by rfl) T.isinstance b_isinstance (pa_cons (pv 0) (pa_cons (pe_bltn (v := .ty "bool") (by rfl) T.bool b_bool rfl) pa_nil)))))))), ?_⟩
    refine ⟨_, rfl, _, _, _, _, true, rfl, .ty _, .base (.int i), kit_ty (by decide +kernel), true, rfl, iteT ?_⟩
    exact ⟨_, rfl, _, _, _, _, false, rfl, .ty _, .base (.int i), kit_ty (by decide +kernel), false, rfl, q⟩
abbrev s_is_whole_in : Stmt := top 8
theorem sc_is_whole_in : FnScope ["value", "low", "high"] ["value", "low", "high"] (defScope s_is_whole_in) := ⟨rfl, rfl, rfl, by decide +kernel, rfl, by decide +kernel, by decide +kernel⟩
-- slots of is_whole_in: 0 value, 1 low, 2 high
def spWholeIn : Sp := fun vs H Q _ => ∃ v lo hi, vs = [.int v, .int lo, .int hi] ∧ Q (.bl (decide (lo ≤ v) && decide (v ≤ hi))) H
theorem ok_is_whole_in (T : Txt K mg C) {f : Addr} {fd : FuncData} (F : Fun K "is_whole_in" "is_whole_in" s_is_whole_in f fd) (c_is_whole : Cal P w K mg base "is_whole" 1 spWhole) : FnOk P w K mg base CX0 2 f fd ["value", "low", "high"] spWholeIn := by
  refine F.ok sc_is_whole_in (fun vs H Q E h => ?_) (fun cdv A outer s H vs Q E hr h => ?_)
  · obtain ⟨v, lo, hi, rfl, _⟩ := h; rfl
  · obtain ⟨v, lo, hi, rfl, q⟩ := h
    refine ⟨_, (pss_one (ps_ret (pe_and (pe_cal c_is_whole (hr.mono (by decide)) (pa_cons (pv 0) pa_nil)) (pe_one (pe_chain op_le op_le (pv 1) (pv 0) (pv 2)))))), ?_⟩
    refine ⟨_, rfl, v, rfl, true, rfl, iteT ?_⟩
    refine ⟨_, rfl, _, rfl, _, _, rfl, rfl, _, rfl, ?_⟩
    refine ite2 (fun h1 => ?_) (fun h1 => ?_)
    · refine ⟨_, rfl, _, _, rfl, rfl, ?_⟩
      rw [h1, Bool.true_and] at q
      exact q
    · rw [Bool.eq_false_iff.mpr h1, Bool.false_and] at q
      exact q
/-! ### the checks of a house's parts -/
abbrev s_check_count : Stmt := top 19
theorem sc_check_count : FnScope ["count"] ["count"] (defScope s_check_count) := ⟨rfl, rfl, rfl, by decide +kernel, rfl, by decide +kernel, by decide +kernel⟩
-- slots of check_count: 0 count
def spCheckCount : Sp := fun vs H Q _ => ∃ c : Int, vs = [.int c] ∧ 1 ≤ c ∧ c ≤ 16 ∧ Q .non H
theorem ok_check_count (T : Txt K mg C) {f : Addr} {fd : FuncData} (F : Fun K "check_count" "check_count" s_check_count f fd) (c_is_whole_in : Cal P w K mg base "is_whole_in" 2 spWholeIn) : FnOk P w K mg base CX0 3 f fd ["count"] spCheckCount := by
  refine F.ok sc_check_count (fun vs H Q E h => ?_) (fun cdv A outer s H vs Q E hr h => ?_)
  · obtain ⟨c, rfl, _⟩ := h; rfl
  · obtain ⟨c, rfl, h1, h2, q⟩ := h
    obtain ⟨mc, rd, ⟨u, cv⟩, _⟩ := T.con
    refine ⟨_, (pss_one (ps_if (pt_not (pt_val (pe_cal c_is_whole_in (hr.mono (by decide)) (pa_cons (pv 0) (pa_cons pe_int (pa_cons (cval_ K (pe_glob (v := .ref C) (by rfl) T.mgC rfl)) pa_nil))))))
      pss_never pss_nil)), ?_⟩
    refine ⟨_, rfl, C, mc, _, _, rfl, rd, cv, c, 1, 16, rfl, _, rfl, ifF ?_ q⟩
    rw [decide_eq_true h1, decide_eq_true h2] <;> rfl
abbrev s_check_hues : Stmt := top 20
theorem sc_check_hues : FnScope ["hues"] ["hues"] (defScope s_check_hues) := ⟨rfl, rfl, rfl, by decide +kernel, rfl, by decide +kernel, by decide +kernel⟩
-- slots of check_hues: 0 hues
def spCheckHues : Sp := fun vs H Q _ => ∃ c : Int, vs = [.int c] ∧ 2 ≤ c ∧ c ≤ 10 ∧ Q .non H
theorem ok_check_hues (T : Txt K mg C) {f : Addr} {fd : FuncData} (F : Fun K "check_hues" "check_hues" s_check_hues f fd) (c_is_whole_in : Cal P w K mg base "is_whole_in" 2 spWholeIn) : FnOk P w K mg base CX0 3 f fd ["hues"] spCheckHues := by
  refine F.ok sc_check_hues (fun vs H Q E h => ?_) (fun cdv A outer s H vs Q E hr h => ?_)
  · obtain ⟨c, rfl, _⟩ := h; rfl
  · obtain ⟨c, rfl, h1, h2, q⟩ := h
    obtain ⟨mc, rd, _, ⟨u, cv⟩⟩ := T.con
    refine ⟨_, (pss_one (ps_if (pt_not (pt_val (pe_cal c_is_whole_in (hr.mono (by decide)) (pa_cons (pv 0) (pa_cons pe_int (pa_cons (cval_ K (pe_glob (v := .ref C) (by rfl) T.mgC rfl)) pa_nil))))))
      pss_never pss_nil)), ?_⟩
    refine ⟨_, rfl, C, mc, _, _, rfl, rd, cv, c, 2, 10, rfl, _, rfl, ifF ?_ q⟩
    rw [decide_eq_true h1, decide_eq_true h2] <;> rfl
abbrev s_is_wire : Stmt := top 21
theorem sc_is_wire : FnScope ["count", "value", "upper", "lower"] ["count", "value"] (defScope s_is_wire) := ⟨rfl, rfl, rfl, by decide +kernel, rfl, by decide +kernel, by decide +kernel⟩
-- slots of is_wire: 0 count, 1 value, 2 upper, 3 lower
def spIsWire : Sp := fun vs H Q _ => ∃ (c u l : Int) (t : Addr), vs = [.int c, .ref t] ∧ H t = some (.tup [.int u, .int l]) ∧ 0 ≤ u ∧ u < c ∧ 0 ≤ l ∧ l < c ∧ u ≠ l ∧ Q (.bl true) H
theorem ok_is_wire (T : Txt K mg C) {f : Addr} {fd : FuncData} (F : Fun K "is_wire" "is_wire" s_is_wire f fd) (c_is_whole_in : Cal P w K mg base "is_whole_in" 2 spWholeIn) : FnOk P w K mg base CX0 3 f fd ["count", "value"] spIsWire := by
  refine F.ok sc_is_wire (fun vs H Q E h => ?_) (fun cdv A outer s H vs Q E hr h => ?_)
  · obtain ⟨c, u, l, t, rfl, _⟩ := h; rfl
  · obtain ⟨c, u, l, t, rfl, ht, u0, u1, l0, l1, ne, q⟩ := h
    refine ⟨_, (pss_cons (ps_if (PW.pt (pw_or (pt_not (pt_val (pe_callB (isi_ K) (by rfl) T.isinstance b_isinstance (pa_cons (pv 1) (pa_cons (pe_bltn (v := .ty "tuple") (by rfl) T.tuple b_tuple rfl) pa_nil))))) (pw_or1 (pt_cmpR op_ne (pe_callB (lenS_ K) (by rfl) T.len b_len (pa_cons (pv 1) pa_nil)) pe_int (nomark _)))))
      (pss_one (ps_ret pe_bl)) pss_nil)
      (pss_cons (ps_asg (pv 1) (pg_tup (by rfl) (pgs_cons (pg_name (i := 2) sc_is_wire.nd rfl (by first | exact Or.inl rfl | exact Or.inr rfl)) (pgs_cons (pg_name (i := 3) sc_is_wire.nd rfl (by first | exact Or.inl rfl | exact Or.inr rfl)) pgs_nil))))
      (pss_one (ps_ret (pe_and (pe_cal c_is_whole_in (hr.mono (by decide)) (pa_cons (pv 2) (pa_cons pe_int (pa_cons (pe_op op_sub (pv 0) pe_int) pa_nil)))) (pe_and (pe_cal c_is_whole_in (hr.mono (by decide)) (pa_cons (pv 3) (pa_cons pe_int (pa_cons (pe_op op_sub (pv 0) pe_int) pa_nil)))) (pe_one (pe_cmpR op_ne (pv 2) (pv 3) (nomark _))))))))), ?_⟩
    refine ⟨_, rfl, _, _, _, _, true, rfl, .ty _, .base (.tup ht), kit_ty (by decide +kernel), true, rfl, iteF ?_⟩
    refine ⟨_, rfl, t, _, rfl, .inr (SqT.of ht), rfl, _, rfl, iteNS rfl ?_⟩
    refine ⟨_, rfl, t, _, rfl, SqT.of ht, rfl, _, _, rfl, _, _, rfl, rfl, ?_⟩
    refine ⟨_, rfl, _, rfl, _, _, rfl, rfl, u, 0, c - 1, rfl, _, rfl, ifT (by rw [decide_eq_true u0, decide_eq_true (by omega : u ≤ c - 1)] <;> rfl) ?_⟩
    refine ⟨_, rfl, _, rfl, _, _, rfl, rfl, l, 0, c - 1, rfl, _, rfl, ifT (by rw [decide_eq_true l0, decide_eq_true (by omega : l ≤ c - 1)] <;> rfl) ?_⟩
    refine ⟨_, rfl, _, rfl, rfl, ?_⟩
    have e : decide (V.int u = V.int l) = false := decide_eq_false fun z => ne (by injection z)
    rw [e]
    exact q
/-! ### the lamps beneath -/
abbrev s_with_wire : Stmt := top 23
theorem sc_with_wire : FnScope ["beneath", "upper", "lower", "gained", "lamp", "lamps"] ["beneath", "upper", "lower"] (defScope s_with_wire) := ⟨rfl, rfl, rfl, by decide +kernel, rfl, by decide +kernel, by decide +kernel⟩
-- slots of with_wire: 0 beneath, 1 upper, 2 lower, 3 gained, 4 lamp, 5 lamps
def spWithWire : Sp := fun vs H Q _ => ∃ (b : Addr) (n u l : Nat) (R : Rel), vs = [.ref b, .int u, .int l] ∧ n ≤ 16 ∧ u < n ∧ l < n ∧ Rows H b (relRows n R) ∧
  ∀ (H' : Hp) (p : Addr), Same H H' → Rows H' p (relRows n (addW R u l)) → Q (.ref p) H'
theorem ok_with_wire (T : Txt K mg C) {f : Addr} {fd : FuncData} (F : Fun K "with_wire" "with_wire" s_with_wire f fd) : FnOk P w K mg base CX0 1 f fd ["beneath", "upper", "lower"] spWithWire := by
  refine F.ok sc_with_wire (fun vs H Q E h => ?_) (fun cdv A outer s H vs Q E hr h => ?_)
  · obtain ⟨b, n, u, l, R, rfl, _⟩ := h; rfl
  · obtain ⟨b, n, u, l, R, rfl, hn, hu, hl, rw0, q⟩ := h
    obtain ⟨xs, al, hb, hxs, hal, hL⟩ := rw0.at (relRows_at (R := R) hl)
    refine ⟨_, (pss_cons (ps_set (i := 3) sc_with_wire.nd rfl (by first | exact Or.inl rfl | exact Or.inr rfl) (pe_lst (pa_cons (pv 2) (star_ K (pe_ix (ixL_ K) (pv 0) (pv 2) (fun _ _ => rfl)) pa_nil))))
      (pss_one (ps_ret (pe_lc (own := [("lamp", 4), ("lamps", 5)]) (g := gTup K 2 (gCons (gName 4) (gCons (gName 5) gNil))) (tt := tYes) rfl sc_with_wire.nd (pi_enum (by rfl) T.enumerate (pa_cons (pv 0) pa_nil)) (blkOk_by (by kernel_rfl)) (fun _ _ _ _ _ => (pg_tup (by rfl) (pgs_cons (pg_name (i := 4) sc_with_wire.nd rfl (by first | exact Or.inl rfl | exact Or.inr rfl)) (pgs_cons (pg_name (i := 5) sc_with_wire.nd rfl (by first | exact Or.inl rfl | exact Or.inr rfl)) pgs_nil)))) (fun _ _ _ _ _ => pts_nil) (fun _ _ _ _ _ => (pe_ifExp (PW.pt (pw_or (pt_cmpR op_eq (pv 4) (pv 1) (nomark _)) (pw_or1 (pt_cmpR (inS_ K) (pv 1) (pv 5) (by rfl))))) (pe_callB (sortedSet_ w rfl) (by rfl) T.sorted b_sorted (pa_cons (pe_callTy (setL_ K w rfl) (by rfl) T.set b_set (pa_cons (pe_op op_cat (pv 5) (pv 3)) pa_nil)) pa_nil)) (pv 5))))))), ?_⟩
    -- gained = [lower, *beneath[lower]]
    refine ⟨_, rfl, _, rfl, _, rfl, b, xs, _, _, rfl, rfl, SqL.of hb, atI_nat hal, al, _, rfl, .inr (SqL.of hL), ?_, fun g hg => ?_⟩
    · have := Bel_len n R l
      rw [List.length_cons, List.length_append, nL_len, List.length_nil, sizeLine_eq]
      omega
    have eg : (V.int (l : Int) :: (nL (Bel n R l) ++ [])) = nL (l :: Bel n R l) := by rw [List.append_nil]; rfl
    rw [eg]
    have s1 : Same H (upd H g (.lst (nL (l :: Bel n R l)))) := same_new hg
    have hg1 : (upd H g (.lst (nL (l :: Bel n R l)))) g = some (.lst (nL (l :: Bel n R l))) := upd_same
    generalize upd H g (.lst (nL (l :: Bel n R l))) = H1 at s1 hg1 ⊢
    have rw1 := rw0.same s1
    obtain ⟨as0, hb1, las0, hrow⟩ := id rw1
    rw [relRows_len] at las0
    refine ⟨_, rfl, b, as0.map V.ref, rfl, SqL.of hb1, fun D hD => lc_it walk_enum (fun i H2 => ∃ as : List Addr, H2 D = some (.lst (as.map V.ref)) ∧ as.length = i ∧ Same H1 H2 ∧ ∀ (j : Nat) a, as[j]? = some a → a ≠ D ∧ H2 a = some (.lst (nL (Bel n (addW R u l) j))))
      ⟨[], upd_same, rfl, same_new hD, fun j a e => by simp at e⟩ (fun i H2 _ ⟨_, _, _, s2, _⟩ => SqL.of (s2 _ _ hb1)) ?_ ?_⟩
    · rintro i x H2 H3 hi ⟨as, h1, h2, s2, h3⟩ ⟨t, x1, y, rfl, ht, rfl, e1, e2⟩
      cases e1
      rw [List.length_map, las0] at hi
      obtain ⟨a, ha, rfl⟩ : ∃ a, as0[i]? = some a ∧ y = V.ref a := by
        have e3 : (as0.map V.ref)[i]? = some y := e2
        rw [List.getElem?_map] at e3
        obtain ⟨a, h, e⟩ := Option.map_eq_some_iff.mp e3
        exact ⟨a, h, e.symm⟩
      have hrow_i := hrow i a _ ha (relRows_at hi)
      have hz : as.length < sizeLine := by rw [h2, sizeLine_eq]; omega
      have nDt : D ≠ t := ne_of_none h1 ht
      have s3 : Same H1 (upd H2 t (.tup [.int (i : Int), .ref a])) := same_then s2 ht
      have h1' : (upd H2 t (.tup [.int (i : Int), .ref a])) D = some (.lst (as.map V.ref)) := by rw [upd_ne nDt]; exact h1
      have h3' : ∀ (j : Nat) c, as[j]? = some c → c ≠ D ∧ (upd H2 t (.tup [.int (i : Int), .ref a])) c = some (.lst (nL (Bel n (addW R u l) j))) := fun j c e => ⟨(h3 j c e).1, by rw [upd_ne (ne_of_none (h3 j c e).2 ht)]; exact (h3 j c e).2⟩
      have htt : (upd H2 t (.tup [.int (i : Int), .ref a])) t = some (.tup [.int (i : Int), .ref a]) := upd_same
      generalize upd H2 t (.tup [.int (i : Int), .ref a]) = H3 at s3 h1' h3' htt ⊢
      refine ⟨t, _, rfl, SqT.of htt, rfl, _, _, rfl, _, _, rfl, rfl, rfl, yesT ?_⟩
      -- what a turn ends with
      have fin : ∀ (H4 : Hp) (c : Addr), Same H3 H4 → c ≠ D → H4 c = some (.lst (nL (Bel n (addW R u l) i))) → ∃ acc, H4 D = some (.lst acc) ∧ acc.length < sizeLine ∧
          ∃ as : List Addr, (upd H4 D (.lst (acc ++ [V.ref c]))) D = some (.lst (as.map V.ref)) ∧ as.length = i + 1 ∧ Same H1 (upd H4 D (.lst (acc ++ [V.ref c]))) ∧ ∀ (j : Nat) a, as[j]? = some a → a ≠ D ∧ (upd H4 D (.lst (acc ++ [V.ref c]))) a = some (.lst (nL (Bel n (addW R u l) j))) := by
        intro H4 c s4 nc hc
        refine ⟨_, s4 _ _ h1', by rw [List.length_map]; exact hz, as ++ [c], by rw [upd_same, List.map_append]; rfl, by rw [List.length_append, h2]; rfl, same_upd (s3.trans s4) hD, fun j c2 e => ?_⟩
        rcases Nat.lt_or_ge j as.length with lt | ge
        · rw [List.getElem?_append_left lt] at e
          obtain ⟨n1, n2⟩ := h3' j c2 e
          exact ⟨n1, by rw [upd_ne n1]; exact s4 _ _ n2⟩
        · rw [List.getElem?_append_right ge] at e
          have j0 : j - as.length = 0 := by
            rcases Nat.eq_zero_or_pos (j - as.length) with z | z
            · exact z
            · rw [List.getElem?_eq_none (by rw [List.length_singleton]; exact z)] at e; cases e
          rw [j0] at e
          cases e
          have ji : j = i := by omega
          rw [ji]
          exact ⟨nc, by rw [upd_ne nc]; exact hc⟩
      -- the new row
      have grow : (i = u ∨ R i u = true) → tCB (rSortedSet w) (tCons (tCB (rHuSetL K w) (tCons (tOp rCat (tVar 5) (tVar 3)) tNil)) tNil)
          [some (.ref b), some (.int u), some (.int l), some (.ref g), some (.int (i : Int)), some (.ref a)] H3 fun y H4 => ∃ acc, H4 D = some (.lst acc) ∧ acc.length < sizeLine ∧
          ∃ as : List Addr, (upd H4 D (.lst (acc ++ [y]))) D = some (.lst (as.map V.ref)) ∧ as.length = i + 1 ∧ Same H1 (upd H4 D (.lst (acc ++ [y]))) ∧ ∀ (j : Nat) a, as[j]? = some a → a ≠ D ∧ (upd H4 D (.lst (acc ++ [y]))) a = some (.lst (nL (Bel n (addW R u l) j))) := by
        intro hcond
        have b1 := Bel_len n R i
        have b2 := Bel_len n R l
        refine ⟨_, rfl, _, rfl, a, g, _, _, rfl, rfl, s3 _ _ hrow_i, s3 _ _ hg1, ?_, fun c hc => ?_⟩
        · rw [nL_len, nL_len, List.length_cons, sizeLine_eq]; omega
        refine ⟨c, nI (Bel n R i ++ l :: Bel n R l), rfl, SqL.of (by rw [upd_same, ← nL_app]; rfl), by rw [nI_len, List.length_append, List.length_cons]; omega, fun d k hd hk => ?_⟩
        refine ⟨d, _, k, rfl, upd_same, ?_, fun ns p asc mem _ hp => ?_⟩
        · rw [nI_len, List.length_append, List.length_cons] at hk; omega
        have ens : ns = nI (Bel n (addW R u l) i) := by
          refine asc_ext asc (Bel_asc ..) fun z => ?_
          rw [mem, decide_eq_true_eq, mem_nI, mem_nI]
          constructor
          · rintro ⟨m, hm, rfl⟩
            refine ⟨m, mem_Bel.mpr ?_, rfl⟩
            unfold addW
            rcases List.mem_append.mp hm with hm | hm
            · obtain ⟨m1, m2⟩ := mem_Bel.mp hm
              exact ⟨m1, by rw [m2, Bool.true_or]⟩
            · have c1 : (i == u || R i u) = true := by
                rcases hcond with e | e
                · rw [e]; simp
                · rw [e, Bool.or_true]
              rcases List.mem_cons.mp hm with e | hm
              · rw [e, c1]; exact ⟨hl, by simp⟩
              · obtain ⟨m1, m2⟩ := mem_Bel.mp hm
                exact ⟨m1, by rw [c1, m2]; simp⟩
          · rintro ⟨m, hm, rfl⟩
            refine ⟨m, ?_, rfl⟩
            obtain ⟨m1, m2⟩ := mem_Bel.mp hm
            unfold addW at m2
            rw [Bool.or_eq_true, Bool.and_eq_true, Bool.or_eq_true, Bool.or_eq_true, beq_iff_eq, beq_iff_eq] at m2
            rcases m2 with e | ⟨_, e | e⟩
            · exact List.mem_append_left _ (mem_Bel.mpr ⟨m1, e⟩)
            · exact List.mem_append_right _ (by rw [e]; exact List.mem_cons_self)
            · exact List.mem_append_right _ (List.mem_cons_of_mem _ (mem_Bel.mpr ⟨m1, e⟩))
        have s4 := ((same_new (o := .lst (nL (Bel n R i) ++ nL (l :: Bel n R l))) hc).trans (same_new (o := SetO w d (fun j => decide (j ∈ nI (Bel n R i ++ l :: Bel n R l))) k) hd)).trans (same_new (o := .lst (ns.map V.int)) hp)
        refine fin _ p s4 ?_ (by rw [upd_same, ens]; rfl)
        intro e
        have z := (((same_new (o := .lst (nL (Bel n R i) ++ nL (l :: Bel n R l))) hc).trans (same_new (o := SetO w d (fun j => decide (j ∈ nI (Bel n R i ++ l :: Bel n R l))) k) hd)) _ _ h1')
        rw [← e, hp] at z
        cases z
      refine ⟨_, rfl, _, rfl, rfl, _, rfl, ?_⟩
      refine ite2 (fun he => ?_) (fun hne => ?_)
      · have e0 : i = u := by
          have z := of_decide_eq_true he
          injection z with z
          omega
        exact iteT (grow (.inl e0))
      · refine ⟨_, rfl, _, rfl, a, _, rfl, .inl (SqL.of (s3 _ _ hrow_i)), rfl, flat_nL _, _, rfl, ?_⟩
        have nu : ¬ i = u := fun z => hne (by rw [z]; exact decide_eq_true rfl)
        show if (inV (V.int (u : Int)) (nL (Bel n R i))) = true then _ else _
        rw [in_nL]
        refine ite2 (fun he => ?_) (fun hne2 => ?_)
        · exact grow (.inr (mem_Bel.mp (of_decide_eq_true he)).2)
        · refine ⟨_, rfl, fin H3 a (Same.refl _) (fun z => ?_) ?_⟩
          · have q1 := hrow_i
            rw [z, hD] at q1
            cases q1
          · rw [s3 _ _ hrow_i]
            have nR : R i u = false := by
              cases e : R i u with
              | false => rfl
              | true => exact absurd (decide_eq_true (mem_Bel.mpr ⟨hu, e⟩)) hne2
            rw [Bel_congr (S := addW R u l) (i := i) fun j _ => ?_]
            unfold addW
            rw [nR, Bool.or_false, beq_eq_false_iff_ne.mpr nu, Bool.false_and, Bool.or_false]
    · rintro H2 ⟨as, h1, h2, s2, h3⟩
      rw [List.length_map, las0] at h2
      refine q H2 D (s1.trans s2) ⟨as, h1, by rw [h2, relRows_len], fun i a r ha hr => ?_⟩
      have hi : i < n := by rw [← h2]; exact (List.getElem?_eq_some_iff.mp ha).1
      rw [relRows_at hi] at hr
      cases hr
      exact (h3 i a ha).2
abbrev s_lamps_beneath : Stmt := top 22
theorem sc_lamps_beneath : FnScope ["count", "wires", "beneath", "_", "earlier", "index", "wire", "upper", "lower"] ["count", "wires"] (defScope s_lamps_beneath) := ⟨rfl, rfl, rfl, by decide +kernel, rfl, by decide +kernel, by decide +kernel⟩
-- slots of lamps_beneath: 0 count, 1 wires, 2 beneath, 3 _, 4 earlier, 5 index, 6 wire, 7 upper, 8 lower
/-- at a: a list of the tuples ts, which are the pairs ps: wires down a rank -/
def Wires (K : PySem.W.Frag) (H : Hp) (a : Addr) (n : Nat) (ps : List (Nat × Nat)) : Prop :=
  (∃ ts : List Addr, H a = some (.lst (ts.map V.ref)) ∧ Pairs H ts ps) ∧ ps.Nodup ∧ ps.length < 63 ∧ (∀ p ∈ ps, p.1 < n ∧ p.2 < n) ∧ ∃ ρ : Nat → Nat, ∀ p ∈ ps, ρ p.1 < ρ p.2
def spLampsBeneath (K : PySem.W.Frag) : Sp := fun vs H Q _ => ∃ (a : Addr) (n : Nat) (ps : List (Nat × Nat)), vs = [.int n, .ref a] ∧ n ≤ 16 ∧ Wires K H a n ps ∧
  ∀ (H' : Hp) (p : Addr), Same H H' → Rows H' p (relRows n (relOf ps)) → Q (.ref p) H'
theorem ok_lamps_beneath (T : Txt K mg C) {f : Addr} {fd : FuncData} (F : Fun K "lamps_beneath" "lamps_beneath" s_lamps_beneath f fd) (c_is_wire : Cal P w K mg base "is_wire" 3 spIsWire) (c_with_wire : Cal P w K mg base "with_wire" 1 spWithWire) : FnOk P w K mg base CX0 4 f fd ["count", "wires"] (spLampsBeneath K) := by
  refine F.ok sc_lamps_beneath (fun vs H Q E h => ?_) (fun cdv A outer s H vs Q E hr h => ?_)
  · obtain ⟨a, n, ps, rfl, _⟩ := h; rfl
  · obtain ⟨a, n, ps, rfl, hn, ⟨⟨ts, ha, hps⟩, nd, few, lt, ρ, rank⟩, q⟩ := h
    refine ⟨_, (pss_cons (ps_setLc (i := 2) (own := [("_", 3)]) (g := gName 3) (tt := tYes) rfl sc_lamps_beneath.nd rfl rfl (sw_true rfl rfl rfl (by kernel_rfl)) (pi_range1 (by rfl) T.range (pa_cons (pv 0) pa_nil)) (blkOk_by (by kernel_rfl)) (fun _ _ _ _ _ => (pg_name (i := 3) sc_lamps_beneath.nd rfl (by first | exact Or.inl rfl | exact Or.inr rfl))) (fun _ _ _ _ _ => pts_nil) (fun _ _ _ _ _ => (pe_lst pa_nil)))
      (pss_cons (ps_set (i := 4) sc_lamps_beneath.nd rfl (by first | exact Or.inl rfl | exact Or.inr rfl) (pe_callTy0 hu_cr_set0T (by rfl) T.set b_set))
      (pss_cons (ps_for PassesOwn.never rfl (pi_enum (by rfl) T.enumerate (pa_cons (pv 1) pa_nil)) (pg_tup (by rfl) (pgs_cons (pg_name (i := 5) sc_lamps_beneath.nd rfl (by first | exact Or.inl rfl | exact Or.inr rfl)) (pgs_cons (pg_name (i := 6) sc_lamps_beneath.nd rfl (by first | exact Or.inl rfl | exact Or.inr rfl)) pgs_nil)))
      (pss_cons (ps_if (pt_not (pt_val (pe_cal c_is_wire (hr.mono (by decide)) (pa_cons (pv 0) (pa_cons (pv 6) pa_nil)))))
      pss_never pss_nil)
      (pss_cons (ps_if (pt_cmpR (inT_ K P w hr.units) (pv 6) (pv 4) (by rfl))
      pss_never pss_nil)
      (pss_cons (ps_asg (pv 6) (pg_tup (by rfl) (pgs_cons (pg_name (i := 7) sc_lamps_beneath.nd rfl (by first | exact Or.inl rfl | exact Or.inr rfl)) (pgs_cons (pg_name (i := 8) sc_lamps_beneath.nd rfl (by first | exact Or.inl rfl | exact Or.inr rfl)) pgs_nil))))
      (pss_cons (ps_if (pt_cmpR (inS_ K) (pv 7) (pe_ix (ixL_ K) (pv 2) (pv 8) (fun _ _ => rfl)) (by rfl))
      pss_never pss_nil)
      (pss_cons (ps_expr (hu_pe_addT hr.units (pv 4) (pa_cons (pv 6) pa_nil)))
      (pss_one (ps_set (i := 2) sc_lamps_beneath.nd rfl (by first | exact Or.inl rfl | exact Or.inr rfl) (pe_cal c_with_wire (hr.mono (by decide)) (pa_cons (pv 2) (pa_cons (pv 7) (pa_cons (pv 8) pa_nil))))))))))))
      (pss_one (ps_ret (pv 2)))))), ?_⟩
    -- beneath = [[] for _ in range(count)]
    refine ⟨_, rfl, _, rfl, by omega, by omega, fun D hD => ?_⟩
    rw [Int.toNat_natCast]
    refine lc_range (fun i H2 => ∃ as : List Addr, H2 D = some (.lst (as.map V.ref)) ∧ as.length = i ∧ Same H H2 ∧ ∀ (j : Nat) a, as[j]? = some a → a ≠ D ∧ H2 a = some (.lst []))
      ⟨[], upd_same, rfl, same_new hD, fun j a e => by simp at e⟩ ?_ ?_
    · rintro i H2 hi ⟨as, h1, h2, s2, h3⟩
      refine ⟨rfl, yesT ⟨by decide, fun p hp => ?_⟩⟩
      have nDp : D ≠ p := ne_of_none h1 hp
      refine ⟨_, by rw [upd_ne nDp]; exact h1, by rw [List.length_map, h2, sizeLine_eq]; omega, as ++ [p], by rw [upd_same, List.map_append]; rfl, by rw [List.length_append, h2]; rfl, same_upd (same_then s2 hp) hD, fun j c e => ?_⟩
      rcases Nat.lt_or_ge j as.length with l | g
      · rw [List.getElem?_append_left l] at e
        obtain ⟨n1, n2⟩ := h3 j c e
        exact ⟨n1, by rw [upd_ne n1, upd_ne (ne_of_none n2 hp)]; exact n2⟩
      · rw [List.getElem?_append_right g] at e
        have j0 : j - as.length = 0 := by
          rcases Nat.eq_zero_or_pos (j - as.length) with z | z
          · exact z
          · rw [List.getElem?_eq_none (by rw [List.length_singleton]; exact z)] at e; cases e
        rw [j0] at e
        cases e
        exact ⟨nDp.symm, by rw [upd_ne nDp.symm, upd_same]⟩
    rintro H1 ⟨as, h1, h2, s1, h3⟩
    have rows1 : Rows H1 D (relRows n fun _ _ => false) := ⟨as, h1, by rw [h2, relRows_len], fun i a r hi hr => by
      have il : i < n := by rw [← h2]; exact (List.getElem?_eq_some_iff.mp hi).1
      rw [relRows_at il] at hr
      cases hr
      have e0 : Bel n (fun _ _ => false) i = [] := by unfold Bel; simp
      rw [e0]
      exact (h3 i a hi).2⟩
    -- earlier = set()
    refine ⟨rfl, fun e he => ?_⟩
    have s2 : Same H (upd H1 e (SetTO P w e [])) := same_then s1 he
    have h0e : H e = Option.none := s1.free he
    refine ⟨_, rfl, a, ts.map V.ref, rfl, SqL.of (s2 _ _ ha), ?_⟩
    refine for_it walk_enum (fun i σ H2 => ∃ (b : Addr) (L : List (Addr × List Int)) (v5 v6 v7 v8 : Option V), σ = [some (.int n), some (.ref a), some (.ref b), Option.none, some (.ref e), v5, v6, v7, v8] ∧ Same H H2 ∧
        Rows H2 b (relRows n (relOf (ps.take i))) ∧ HasT K P w H2 e L ∧ L.length = i ∧ ∀ k, k ∈ L.map (·.2) → ∃ p ∈ ps.take i, k = [(p.1 : Int), (p.2 : Int)])
      ⟨D, [], _, _, _, _, rfl, s2, rows1.same (same_new he), ⟨upd_same, fun p hp => by cases hp⟩, rfl, fun k hk => by cases hk⟩ (fun i σ H2 _ ⟨_, _, _, _, _, _, _, s, _⟩ => SqL.of (s _ _ ha)) ?_ ?_
    · rintro i x σ H2 H3 hi ⟨b, L, v5, v6, v7, v8, rfl, s3, rows, hasT, lenL, memL⟩ ⟨tp, x1, y, rfl, htp, rfl, e1, e2⟩
      cases e1
      rw [List.length_map] at hi
      have e3 : (ts.map V.ref)[i]? = some y := e2
      rw [List.getElem?_map] at e3
      obtain ⟨t, ht, rfl⟩ := Option.map_eq_some_iff.mp e3
      have hip : i < ps.length := by rw [← hps.1]; exact hi
      obtain ⟨p, hp⟩ : ∃ p, ps[i]? = some p := ⟨_, List.getElem?_eq_getElem hip⟩
      have pmem : p ∈ ps := List.mem_of_getElem? hp
      obtain ⟨plt1, plt2⟩ := lt p pmem
      have prank := rank p pmem
      have tup0 : H t = some (.tup [.int (p.1 : Int), .int (p.2 : Int)]) := hps.2 i t p ht hp
      have s4 : Same H2 (upd H2 tp (.tup [.int (i : Int), .ref t])) := same_new htp
      have rows4 := rows.same s4
      have hasT4 : HasT K P w (upd H2 tp (.tup [.int (i : Int), .ref t])) e L := ⟨s4 _ _ hasT.1, fun q hq => Same.tup s4 (hasT.2 q hq)⟩
      have s5 := s3.trans s4
      have htt : (upd H2 tp (.tup [.int (i : Int), .ref t])) tp = some (.tup [.int (i : Int), .ref t]) := upd_same
      generalize upd H2 tp (.tup [.int (i : Int), .ref t]) = H4 at s4 rows4 hasT4 s5 htt ⊢
      have tup4 := s5 _ _ tup0
      have new : [(p.1 : Int), (p.2 : Int)] ∉ L.map (·.2) := by
        intro z
        obtain ⟨p2, m2, e⟩ := memL _ z
        injection e with z1 z2
        injection z2 with z2 _
        have ep : p2 = p := by
          obtain ⟨a1, a2⟩ := p
          obtain ⟨b1, b2⟩ := p2
          simp only at z1 z2
          rw [Prod.mk.injEq]
          omega
        rw [ep] at m2
        obtain ⟨j, hj, ej⟩ := List.getElem_of_mem m2
        rw [List.length_take] at hj
        rw [List.getElem_take] at ej
        have ei : ps[i] = p := by
          have z := List.getElem?_eq_getElem hip
          rw [hp] at z
          exact (Option.some.inj z).symm
        exact absurd (ej.trans ei.symm) (List.pairwise_iff_getElem.mp nd j i (by omega) hip (by omega))
      refine ⟨tp, _, rfl, SqT.of htt, rfl, _, _, rfl, _, _, rfl, rfl, ?_⟩
      refine ⟨_, rfl, _, rfl, n, p.1, p.2, t, rfl, tup4, by omega, by omega, by omega, by omega, fun z => ?_, true, rfl, iteF ?_⟩
      · have : p.1 = p.2 := by omega
        rw [this] at prank
        exact Nat.lt_irrefl _ prank
      refine ⟨_, rfl, _, rfl, t, e, [(p.1 : Int), (p.2 : Int)], L, rfl, rfl, SqT.of tup4, hasT4, _, rfl, ifF (decide_eq_false new) ?_⟩
      refine ⟨_, rfl, t, _, rfl, SqT.of tup4, rfl, _, _, rfl, _, _, rfl, rfl, ?_⟩
      obtain ⟨xs, al, hb, _, hal, hL⟩ := rows4.at (relRows_at (R := relOf (ps.take i)) plt2)
      refine ⟨_, rfl, _, rfl, _, rfl, b, xs, _, _, rfl, rfl, SqL.of hb, atI_nat hal, al, _, rfl, .inl (SqL.of hL), rfl, flat_nL _, _, rfl, ?_⟩
      refine ifF ?_ ?_
      · show inV (V.int (p.1 : Int)) (nL (Bel n (relOf (ps.take i)) p.2)) = false
        rw [in_nL, decide_eq_false_iff_not]
        intro z
        have r1 := relOf_rank (ρ := ρ) (ps := ps.take i) (fun q hq => rank q (List.mem_of_mem_take hq)) _ _ (mem_Bel.mp z).2
        omega
      refine ⟨_, rfl, ⟨e, L, rfl, hasT4.1⟩, _, rfl, e, t, [(p.1 : Int), (p.2 : Int)], L, rfl, rfl, SqT.of tup4, hasT4, by omega, new, fun L2 pm => ?_⟩
      have rows5 : Rows (upd H4 e (SetTO P w e L2)) b (relRows n (relOf (ps.take i))) := rows4.ext hasT4.1
      refine ⟨_, rfl, _, rfl, _, rfl, b, n, p.1, p.2, relOf (ps.take i), rfl, hn, plt1, plt2, rows5, fun H6 c s6 rows6 => ?_⟩
      have s7 : Same H H6 := (same_upd s5 h0e).trans s6
      refine ⟨c, L2, _, _, _, _, rfl, s7, by rw [relOf_more hp]; exact rows6, ⟨s6 _ _ upd_same, fun r hr => ?_⟩, ?_, fun k hk => ?_⟩
      · rcases List.mem_cons.mp (pm.mem_iff.mp hr) with z | z
        · rw [z]; exact SqT.of (s7 _ _ tup0)
        · refine Same.tup s6 ?_
          have w0 := hasT4.2 r z
          rcases w0 with (w0 | ⟨o, w0⟩) | w0
          · refine .inl (.inl ?_)
            rw [upd_ne (ne_of w0 hasT4.1 (by intro z; cases z))]; exact w0
          · refine .inl (.inr ⟨o, ?_⟩)
            rw [upd_ne (ne_of w0 hasT4.1 (by intro z; cases z))]; exact w0
          · exact .inr w0
      · rw [pm.length_eq, List.length_cons, lenL]
      · have pm2 := (pm.map (·.2)).mem_iff.mp hk
        rw [List.map_cons] at pm2
        rcases List.mem_cons.mp pm2 with z | z
        · refine ⟨p, ?_, z⟩
          rw [List.take_add_one, hp]
          exact List.mem_append_right _ List.mem_cons_self
        · obtain ⟨p2, m2, e⟩ := memL k z
          refine ⟨p2, ?_, e⟩
          rw [List.take_add_one]
          exact List.mem_append_left _ m2
    · rintro σ H2 ⟨b, L, v5, v6, v7, v8, rfl, s3, rows, _⟩
      rw [List.length_map, hps.1, List.take_length] at rows
      exact ⟨_, rfl, q H2 b s3 rows⟩
end
end Hue

end
section
set_option maxRecDepth 100000
namespace Hue
open PySem PySem.Spec PyProof.Rows L2
section
variable {P : Program} {w : World} {K : PySem.W.Frag} {mg : Str → Option Value} {base : Heap} {C : Addr}
/-! ### the order list -/
abbrev s_is_next : Stmt := top 25
theorem sc_is_next : FnScope ["above", "order", "lamp", "upper"] ["above", "order", "lamp"] (defScope s_is_next) := ⟨rfl, rfl, rfl, by decide +kernel, rfl, by decide +kernel, by decide +kernel⟩
-- slots of is_next: 0 above, 1 order, 2 lamp, 3 upper
def spIsNext : Sp := fun vs H Q _ => ∃ (ab o : Addr) (n k : Nat) (R : Rel) (ord : List Nat), vs = [.ref ab, .ref o, .int k] ∧ n ≤ 16 ∧ k < n ∧ Rows H ab (relRows n (flip R)) ∧ H o = some (.lst (nL ord)) ∧
  ∀ H', Same H H' → Q (.bl (nxt n R ord k)) H'
theorem ok_is_next (T : Txt K mg C) {f : Addr} {fd : FuncData} (F : Fun K "is_next" "is_next" s_is_next f fd) : FnOk P w K mg base CX0 1 f fd ["above", "order", "lamp"] spIsNext := by
  refine F.ok sc_is_next (fun vs H Q E h => ?_) (fun cdv A outer s H vs Q E hr h => ?_)
  · obtain ⟨ab, o, n, k, R, ord, rfl, _⟩ := h; rfl
  · obtain ⟨ab, o, n, k, R, ord, rfl, hn, hk, rows, ho, q⟩ := h
    refine ⟨_, (pss_one (ps_ret (pe_and (pe_cmpR (ninS_ K) (pv 2) (pv 1) (by rfl)) (pe_one (pe_callB (all_ K rfl) (by rfl) T.all b_all (pa_cons (pe_lc (own := [("upper", 3)]) (g := gName 3) (tt := tYes) rfl sc_is_next.nd (pil_ K (pe_ix (ixL_ K) (pv 0) (pv 2) (fun _ _ => rfl))) (blkOk_by (by kernel_rfl)) (fun _ _ _ _ _ => (pg_name (i := 3) sc_is_next.nd rfl (by first | exact Or.inl rfl | exact Or.inr rfl))) (fun _ _ _ _ _ => pts_nil) (fun _ _ _ _ _ => (pe_cmpR (inS_ K) (pv 3) (pv 1) (by rfl)))) pa_nil)))))), ?_⟩
    refine ⟨_, rfl, _, rfl, o, _, rfl, .inl (SqL.of ho), rfl, flat_nL _, _, rfl, ?_⟩
    show if (!inV (V.int (k : Int)) (nL ord)) = true then _ else _
    rw [in_nL]
    refine ite2 (fun h1 => ?_) (fun h1 => ?_)
    · obtain ⟨xs, al, hb, _, hal, hL⟩ := rows.at (relRows_at (R := flip R) hk)
      refine ⟨_, rfl, _, rfl, ab, xs, _, _, rfl, rfl, SqL.of hb, atI_nat hal, al, rfl, ⟨_, SqL.of hL⟩, fun D hD => ?_⟩
      refine lc_list (xs := nL (Bel n (flip R) k)) (fun i H2 => H2 D = some (.lst ((((Bel n (flip R) k).take i).map fun j => decide (j ∈ ord)).map V.bl)) ∧ Same H H2)
        ⟨upd_same, same_new hD⟩ (fun i H2 _ ⟨_, s⟩ => SqL.of (s _ _ hL)) ?_ ?_
      · rintro i x H2 hx ⟨h2, s2⟩
        obtain ⟨j, hj, rfl⟩ : ∃ j, (Bel n (flip R) k)[i]? = some j ∧ x = V.int (j : Int) := by
          unfold nL nI at hx
          rw [List.map_map, List.getElem?_map] at hx
          obtain ⟨j, hj, e⟩ := Option.map_eq_some_iff.mp hx
          exact ⟨j, hj, e.symm⟩
        refine ⟨rfl, yesT ⟨_, rfl, _, rfl, o, _, rfl, .inl (SqL.of (s2 _ _ ho)), rfl, flat_nL _, _, h2, ?_, ?_, same_upd s2 hD⟩⟩
        · rw [List.length_map, List.length_map, List.length_take, sizeLine_eq]
          have := Bel_len n (flip R) k
          omega
        · rw [upd_same, List.take_add_one, hj, List.map_append, List.map_append]
          show some (HO.lst (_ ++ [V.bl (inV (V.int (j : Int)) (nL ord))])) = _
          rw [in_nL]
          rfl
      · rintro H2 ⟨h2, s2⟩
        rw [nL_len, List.take_length] at h2
        refine ⟨D, _, rfl, SqL.of h2, ?_⟩
        have e : nxt n R ord k = ((Bel n (flip R) k).map fun j => decide (j ∈ ord)).all id := by
          unfold nxt
          rw [h1, Bool.true_and, List.all_map]
          rfl
        rw [← e]
        exact q H2 s2
    · have e : nxt n R ord k = false := by
        unfold nxt
        rw [Bool.eq_false_iff.mpr h1, Bool.false_and]
      rw [← e]
      exact q H (Same.refl H)
abbrev s_order_list : Stmt := top 24
theorem sc_order_list : FnScope ["above", "order", "lamp"] ["above"] (defScope s_order_list) := ⟨rfl, rfl, rfl, by decide +kernel, rfl, by decide +kernel, by decide +kernel⟩
-- slots of order_list: 0 above, 1 order, 2 lamp
def spOrderList : Sp := fun vs H Q _ => ∃ (ab : Addr) (n : Nat) (R : Rel), vs = [.ref ab] ∧ n ≤ 16 ∧ Ranked R ∧ Rows H ab (relRows n (flip R)) ∧
  ∀ (H' : Hp) (p : Addr), Same H H' → H p = Option.none → H' p = some (.lst (nL (ordN n R n))) → Q (.ref p) H'
theorem ok_order_list (T : Txt K mg C) {f : Addr} {fd : FuncData} (F : Fun K "order_list" "order_list" s_order_list f fd) (c_is_next : Cal P w K mg base "is_next" 1 spIsNext) : FnOk P w K mg base CX0 2 f fd ["above"] spOrderList := by
  refine F.ok sc_order_list (fun vs H Q E h => ?_) (fun cdv A outer s H vs Q E hr h => ?_)
  · obtain ⟨ab, n, R, rfl, _⟩ := h; rfl
  · obtain ⟨ab, n, R, rfl, hn, hR, rows, q⟩ := h
    refine ⟨_, (pss_cons (ps_set (i := 1) sc_order_list.nd rfl (by first | exact Or.inl rfl | exact Or.inr rfl) (pe_lst pa_nil))
      (pss_cons (ps_while PassesOwn.never (pt_cmpR op_lt (pe_callB (lenS_ K) (by rfl) T.len b_len (pa_cons (pv 1) pa_nil)) (pe_callB (lenS_ K) (by rfl) T.len b_len (pa_cons (pv 0) pa_nil)) (nomark _))
      (pss_one (ps_expr (pe_bm PySem.F.plainAttrs_list PySem.F.slot_list_append PySem.F.type_list_append mt_append (pv 1) (pa_cons (pe_callB (min_ K rfl) (by rfl) T.min b_min (pa_cons (pe_lc (own := [("lamp", 2)]) (g := gName 2) rfl sc_order_list.nd (pi_range1 (by rfl) T.range (pa_cons (pe_callB (lenS_ K) (by rfl) T.len b_len (pa_cons (pv 0) pa_nil)) pa_nil)) (blkOk_by (by kernel_rfl)) (fun _ _ _ _ _ => (pg_name (i := 2) sc_order_list.nd rfl (by first | exact Or.inl rfl | exact Or.inr rfl))) (fun _ _ _ _ _ => (pts_one (pt_val (pe_cal c_is_next (hr.mono (by decide)) (pa_cons (pv 0) (pa_cons (pv 1) (pa_cons (pv 2) pa_nil))))))) (fun _ _ _ _ _ => (pv 2))) pa_nil)) pa_nil)))))
      (pss_one (ps_ret (pv 1))))), ?_⟩
    refine ⟨by decide, fun o ho => ?_⟩
    refine ⟨fun m σ H2 => ∃ k, m = n - k ∧ k ≤ n ∧ ∃ v, σ = [some (.ref ab), some (.ref o), v] ∧ Same H H2 ∧ H2 o = some (.lst (nL (ordN n R k))),
      ⟨n - 0, 0, rfl, Nat.zero_le _, _, rfl, same_new ho, upd_same⟩, ?_⟩
    rintro m σ H2 ⟨k, rfl, hk, v, rfl, s2, h2⟩
    have rows2 := rows.same s2
    obtain ⟨as, hab, las, _⟩ := id rows2
    rw [relRows_len] at las
    obtain ⟨len, ok⟩ := ordN_ok hR k hk
    refine ⟨_, rfl, o, _, rfl, .inl (SqL.of h2), _, rfl, ab, _, rfl, .inl (SqL.of hab), _, _, rfl, rfl, _, rfl, ?_⟩
    rw [nL_len, len, List.length_map, las]
    refine ite2 (fun hlt => ?_) (fun hge => ?_)
    · have klt : k < n := by have := of_decide_eq_true hlt; omega
      refine ⟨fun σ' H' => ∃ v, σ' = [some (.ref ab), some (.ref o), v] ∧ Same H H' ∧ H' o = some (.lst (nL (ordN n R (k + 1)))), fun σ' H' ⟨v, e1, e2, e3⟩ => ⟨n - (k + 1), by omega, k + 1, rfl, klt, v, e1, e2, e3⟩, ?_⟩
      obtain ⟨c, rest, ec⟩ := cands_ne (n := n) hR (ord := ordN n R k) (by omega)
      refine ⟨_, rfl, .inl ⟨rfl, _, SqL.of h2⟩, _, rfl, ab, _, rfl, .inl (SqL.of hab), _, rfl, ?_, ?_, fun D hD => ?_⟩
      · rw [List.length_map, las]; omega
      · rw [List.length_map, las]; omega
      rw [List.length_map, las, Int.toNat_natCast]
      refine lc_range (fun i H3 => H3 D = some (.lst (nL ((List.range i).filter (nxt n R (ordN n R k))))) ∧ Same H2 H3) ⟨upd_same, same_new hD⟩ ?_ ?_
      · rintro i H3 hi ⟨h3, s3⟩
        have e0 : (0 : Int) + (i : Int) = (i : Int) := by omega
        rw [e0]
        refine ⟨rfl, _, rfl, _, rfl, _, rfl, ab, o, n, i, R, ordN n R k, rfl, hn, hi, rows2.same s3, s3 _ _ h2, fun H4 s4 => ⟨_, rfl, ?_⟩⟩
        have h4 := s4 _ _ h3
        have grown : (List.range (i + 1)).filter (nxt n R (ordN n R k)) = (List.range i).filter (nxt n R (ordN n R k)) ++ (if nxt n R (ordN n R k) i = true then [i] else []) := by
          rw [List.range_succ, List.filter_append, List.filter_cons]
          rfl
        refine ite2 (fun hx => ?_) (fun hx => ?_)
        · refine ⟨_, rfl, _, h4, ?_, ?_, same_upd (s3.trans s4) hD⟩
          · rw [nL_len, sizeLine_eq]
            have := List.length_filter_le (nxt n R (ordN n R k)) (List.range i)
            rw [List.length_range] at this
            omega
          · rw [upd_same, grown, if_pos hx, nL_app]; rfl
        · refine ⟨?_, s3.trans s4⟩
          rw [h4, grown, if_neg hx, List.append_nil]
      · rintro H3 ⟨h3, s3⟩
        refine ⟨D, nI (cands n R (ordN n R k)), rfl, SqL.of h3, ?_, fun mm hm hle => ?_⟩
        · rw [nI_len, ec]; exact Nat.succ_pos _
        have em := cands_min ec hm hle
        rw [em]
        refine ⟨o, _, _, rfl, rfl, s3 _ _ h2, ?_, _, rfl, same_upd (s2.trans s3) ho, ?_⟩
        · rw [nL_len, len, sizeLine_eq]; omega
        · rw [upd_same, ordN_succ ec, nL_app]; rfl
    · have kn : k = n := by
        have z : ¬ ((k : Int) < (n : Int)) := fun z => hge (decide_eq_true z)
        omega
      rw [kn] at h2
      exact ⟨_, rfl, q H2 o s2 ho h2⟩
/-! ### the house -/
abbrev s_House___init__ : Stmt := inClass (top 16) 2
theorem sc_House___init__ : FnScope ["self", "count", "hues", "wires", "lamps", "upper", "lamp", "lower"] ["self", "count", "hues", "wires"] (defScope s_House___init__) := ⟨rfl, rfl, rfl, by decide +kernel, rfl, by decide +kernel, by decide +kernel⟩
-- slots of House.__init__: 0 self, 1 count, 2 hues, 3 wires, 4 lamps, 5 upper, 6 lamp, 7 lower
def HouseAt (C : Addr) (H : Hp) (x : Addr) (n h : Nat) (R : Rel) : Prop := ∃ (dx : Addr) (fs : List (Str × V)) (be o : Addr), H x = some (.ins C dx fs) ∧ fs.lookup ("count" : Str) = some (.int n) ∧ fs.lookup ("hues" : Str) = some (.int h) ∧
  fs.lookup ("_beneath" : Str) = some (.ref be) ∧ Rows H be (relRows n R) ∧ fs.lookup ("_order" : Str) = some (.ref o) ∧ H o = some (.lst (nL (ordN n R n))) ∧ fs.lookup ("order" : Str) = Option.none ∧ fs.lookup ("beneath" : Str) = Option.none
def spInit (K : PySem.W.Frag) (C : Addr) : Sp := fun vs H Q _ => ∃ (x dx a : Addr) (n h : Nat) (ps : List (Nat × Nat)), vs = [.ref x, .int n, .int h, .ref a] ∧ H x = some (.ins C dx []) ∧ 1 ≤ n ∧ n ≤ 16 ∧ 2 ≤ h ∧ h ≤ 10 ∧ Wires K H a n ps ∧
  ∀ H', SB x H H' → HouseAt C H' x n h (relOf ps) → Q .non H'
theorem ok_init (T : Txt K mg C) {f : Addr} {fd : FuncData} (F : FunV K "__init__" "House.__init__" s_House___init__ f fd) (c_check_count : Cal P w K mg base "check_count" 3 spCheckCount) (c_check_hues : Cal P w K mg base "check_hues" 3 spCheckHues)
    (c_lamps_beneath : Cal P w K mg base "lamps_beneath" 4 (spLampsBeneath K)) (c_order_list : Cal P w K mg base "order_list" 2 spOrderList) : FnOk P w K mg base CX0 5 f fd ["self", "count", "hues", "wires"] (spInit K C) := by
  refine F.ok sc_House___init__ (fun vs H Q E h => ?_) (fun cdv A outer s H vs Q E hr h => ?_)
  · obtain ⟨x, dx, a, n, h, ps, rfl, _⟩ := h; rfl
  · obtain ⟨x, dx, a, n, h, ps, rfl, hx, n1, n16, h2, h10, W, q⟩ := h
    refine ⟨_, (pss_cons (ps_expr (pe_cal c_check_count (hr.mono (by decide)) (pa_cons (pv 1) pa_nil)))
      (pss_cons (ps_expr (pe_cal c_check_hues (hr.mono (by decide)) (pa_cons (pv 2) pa_nil)))
      (pss_cons (ps_fld (pv 0) (pv 1) rfl)
      (pss_cons (ps_fld (pv 0) (pv 2) rfl)
      (pss_cons (ps_fld (pv 0) (pe_cal c_lamps_beneath (hr.mono (by decide)) (pa_cons (pv 1) (pa_cons (pv 3) pa_nil))) rfl)
      (pss_cons (ps_fld (pv 0) (pe_callTy (tupOf_ K) (by rfl) T.tuple b_tuple (pa_cons (pe_callB cr_sortedP (by rfl) T.sorted b_sorted (pa_cons (pv 3) pa_nil)) pa_nil)) rfl)
      (pss_cons (ps_set (i := 4) sc_House___init__.nd rfl (by first | exact Or.inl rfl | exact Or.inr rfl) (pe_callTy hu_cr_range1 (by rfl) T.range b_range (pa_cons (pv 1) pa_nil)))
      (pss_cons (ps_fld (pv 0) (pe_lc (own := [("lamp", 6)]) (g := gName 6) (tt := tYes) rfl sc_House___init__.nd (hu_pi_rng (pv 4)) (blkOk_by (by kernel_rfl)) (fun _ _ _ _ _ => (pg_name (i := 6) sc_House___init__.nd rfl (by first | exact Or.inl rfl | exact Or.inr rfl))) (fun _ _ _ _ _ => pts_nil) (fun _ _ _ _ _ => (pe_lc (own := [("upper", 5)]) (g := gName 5) rfl sc_House___init__.nd (hu_pi_rng (pv 4)) (blkOk_by (by kernel_rfl)) (fun _ _ _ _ _ => (pg_name (i := 5) sc_House___init__.nd rfl (by first | exact Or.inl rfl | exact Or.inr rfl))) (fun _ _ _ _ _ => (pts_one (pt_cmpR (inS_ K) (pv 6) (pe_ix (ixL_ K) (fld_ K (pv 0)) (pv 5) (fun _ _ => rfl)) (by rfl)))) (fun _ _ _ _ _ => (pv 5))))) rfl)
      (pss_cons (ps_fld (pv 0) (pe_lc (own := [("lamp", 6)]) (g := gName 6) (tt := tYes) rfl sc_House___init__.nd (hu_pi_rng (pv 4)) (blkOk_by (by kernel_rfl)) (fun _ _ _ _ _ => (pg_name (i := 6) sc_House___init__.nd rfl (by first | exact Or.inl rfl | exact Or.inr rfl))) (fun _ _ _ _ _ => pts_nil) (fun _ _ _ _ _ => (pe_lc (own := [("upper", 5), ("lower", 7)]) (g := gTup K 2 (gCons (gName 5) (gCons (gName 7) gNil))) rfl sc_House___init__.nd (pit_ K (fld_ K (pv 0))) (blkOk_by (by kernel_rfl)) (fun _ _ _ _ _ => (pg_tup (by rfl) (pgs_cons (pg_name (i := 5) sc_House___init__.nd rfl (by first | exact Or.inl rfl | exact Or.inr rfl)) (pgs_cons (pg_name (i := 7) sc_House___init__.nd rfl (by first | exact Or.inl rfl | exact Or.inr rfl)) pgs_nil)))) (fun _ _ _ _ _ => (pts_one (pt_cmpR op_eq (pv 5) (pv 6) (nomark _)))) (fun _ _ _ _ _ => (pv 7))))) rfl)
      (pss_one (ps_fld (pv 0) (pe_cal c_order_list (hr.mono (by decide)) (pa_cons (fld_ K (pv 0)) pa_nil)) rfl))))))))))), ?_⟩
    refine ⟨_, rfl, n, rfl, by omega, by omega, _, rfl, h, rfl, by omega, by omega, ?_⟩
    -- self.count, self.hues
    refine ⟨_, rfl, _, rfl, x, C, dx, _, rfl, hx, T.cl, T.nCount, by decide, ?_⟩
    refine ⟨_, rfl, _, rfl, x, C, dx, _, rfl, upd_same, T.cl, T.nHues, Nat.lt_of_le_of_lt (put_few (Nat.le_refl 0)) (by decide), ?_⟩
    rw [upd_upd]
    have sb1 : SB x H (upd H x (.ins C dx (putF "hues" (.int h) (putF "count" (.int n) [])))) := (SB.refl x H).upd
    have hx1 : (upd H x (.ins C dx (putF "hues" (.int h) (putF "count" (.int n) [])))) x = some (.ins C dx (putF "hues" (.int h) (putF "count" (.int n) []))) := upd_same
    have lk1 : (putF "hues" (.int h) (putF "count" (.int n) []) : List (Str × V)).length ≤ 2 := put_few (put_few (Nat.le_refl 0))
    generalize upd H x (.ins C dx (putF "hues" (.int h) (putF "count" (.int n) []))) = H1 at sb1 hx1 ⊢
    obtain ⟨⟨ts, ha, hps⟩, nd, few, lt, ρ, rank⟩ := id W
    have nax : a ≠ x := ne_of ha hx (by intro z; cases z)
    have W1 : Wires K H1 a n ps := ⟨⟨ts, sb1 _ _ nax ha, hps.1, fun i t p e1 e2 => sb1 _ _ (ne_of (hps.2 i t p e1 e2) hx (by intro z; cases z)) (hps.2 i t p e1 e2)⟩, nd, few, lt, ρ, rank⟩
    -- self._beneath
    refine ⟨_, rfl, _, rfl, a, n, ps, rfl, n16, W1, fun H2 be s2 rows2 => ?_⟩
    refine ⟨_, rfl, x, C, dx, _, rfl, s2 _ _ hx1, T.cl, T.nBen, by omega, ?_⟩
    have sb3 : SB x H (upd H2 x (.ins C dx (putF "_beneath" (.ref be) (putF "hues" (.int h) (putF "count" (.int n) []))))) := (sb1.trans (SB.of s2)).upd
    have rows3 : Rows (upd H2 x (.ins C dx (putF "_beneath" (.ref be) (putF "hues" (.int h) (putF "count" (.int n) []))))) be (relRows n (relOf ps)) := SB.rows ((SB.refl x H2).upd) (s2 _ _ hx1) rows2
    have hx3 : (upd H2 x (.ins C dx (putF "_beneath" (.ref be) (putF "hues" (.int h) (putF "count" (.int n) []))))) x = some (.ins C dx (putF "_beneath" (.ref be) (putF "hues" (.int h) (putF "count" (.int n) [])))) := upd_same
    have lk3 : (putF "_beneath" (.ref be) (putF "hues" (.int h) (putF "count" (.int n) [])) : List (Str × V)).length ≤ 3 := put_few lk1
    generalize upd H2 x (.ins C dx (putF "_beneath" (.ref be) (putF "hues" (.int h) (putF "count" (.int n) [])))) = H3 at sb3 rows3 hx3 ⊢
    -- self.wires
    have ha3 := sb3 _ _ nax ha
    refine ⟨_, rfl, a, ts.map V.ref, rfl, SqL.of ha3, fun y hy => ?_, fun ys c perm nc => ?_⟩
    · obtain ⟨t, ht, rfl⟩ := List.mem_map.mp hy
      obtain ⟨j, hj, e⟩ := List.getElem_of_mem ht
      have jl : j < ps.length := by rw [← hps.1]; exact hj
      have e2 := hps.2 j t ps[j] (by rw [List.getElem?_eq_getElem hj, e]) (List.getElem?_eq_getElem jl)
      exact ⟨t, _, _, rfl, sb3 _ _ (ne_of e2 hx (by intro z; cases z)) e2⟩
    refine ⟨c, ys, rfl, .inl ⟨SqL.of upd_same, fun l nl => ?_⟩⟩
    have s4 : Same H3 (upd (upd H3 c (.lst ys)) l (.tup ys)) := (same_new nc).trans (same_new nl)
    have hl4 : (upd (upd H3 c (.lst ys)) l (.tup ys)) l = some (.tup ys) := upd_same
    generalize upd (upd H3 c (.lst ys)) l (.tup ys) = H4 at s4 hl4 ⊢
    refine ⟨_, rfl, x, C, dx, _, rfl, s4 _ _ hx3, T.cl, T.nWires, by omega, ?_⟩
    have nlx : l ≠ x := ne_of hl4 (s4 _ _ hx3) (by intro z; cases z)
    generalize hf5 : putF "wires" (.ref l) (putF "_beneath" (.ref be) (putF "hues" (.int h) (putF "count" (.int n) []))) = fs5
    have lk5 : fs5.length ≤ 4 := by rw [← hf5]; exact put_few lk3
    have ben5 : fs5.lookup ("_beneath" : Str) = some (.ref be) := by rw [← hf5, lk_ne _ _ (by decide +kernel), lk_same]
    have wir5 : fs5.lookup ("wires" : Str) = some (.ref l) := by rw [← hf5, lk_same]
    have cnt5 : fs5.lookup ("count" : Str) = some (.int n) := by rw [← hf5, lk_ne _ _ (by decide +kernel), lk_ne _ _ (by decide +kernel), lk_ne _ _ (by decide +kernel), lk_same]
    have hue5 : fs5.lookup ("hues" : Str) = some (.int h) := by rw [← hf5, lk_ne _ _ (by decide +kernel), lk_ne _ _ (by decide +kernel), lk_same]
    have ord5 : fs5.lookup ("order" : Str) = Option.none := by rw [← hf5, lk_ne _ _ (by decide +kernel), lk_ne _ _ (by decide +kernel), lk_ne _ _ (by decide +kernel), lk_ne _ _ (by decide +kernel)] <;> rfl
    have bnt5 : fs5.lookup ("beneath" : Str) = Option.none := by rw [← hf5, lk_ne _ _ (by decide +kernel), lk_ne _ _ (by decide +kernel), lk_ne _ _ (by decide +kernel), lk_ne _ _ (by decide +kernel)] <;> rfl
    have sb5 : SB x H (upd H4 x (.ins C dx fs5)) := (sb3.trans (SB.of s4)).upd
    have rows5 : Rows (upd H4 x (.ins C dx fs5)) be (relRows n (relOf ps)) := SB.rows ((SB.refl x H4).upd) (s4 _ _ hx3) (rows3.same s4)
    have hl5 : (upd H4 x (.ins C dx fs5)) l = some (.tup ys) := by rw [upd_ne nlx]; exact hl4
    have hx5 : (upd H4 x (.ins C dx fs5)) x = some (.ins C dx fs5) := upd_same
    generalize upd H4 x (.ins C dx fs5) = H5 at sb5 rows5 hl5 hx5 ⊢
    have ys5 : ∀ y ∈ ys, ∃ (t : Addr) (i j : Nat), y = V.ref t ∧ H5 t = some (.tup [.int (i : Int), .int (j : Int)]) := by
      intro y hy
      obtain ⟨t, ht, rfl⟩ := List.mem_map.mp (perm.mem_iff.mp hy)
      obtain ⟨j, hj, e⟩ := List.getElem_of_mem ht
      have jl : j < ps.length := by rw [← hps.1]; exact hj
      have e2 := hps.2 j t ps[j] (by rw [List.getElem?_eq_getElem hj, e]) (List.getElem?_eq_getElem jl)
      exact ⟨t, _, _, rfl, sb5 _ _ (ne_of e2 hx (by intro z; cases z)) e2⟩
    have ysl : ys.length < 63 := by rw [perm.length_eq, List.length_map, hps.1]; exact few
    -- lamps = range(count)
    refine ⟨_, rfl, _, rfl, fun r nr => ?_⟩
    have s6 : Same H5 (upd H5 r (.rng 0 (n : Int))) := same_new nr
    have hr6 : (upd H5 r (.rng 0 (n : Int))) r = some (.rng 0 (n : Int)) := upd_same
    generalize upd H5 r (.rng 0 (n : Int)) = H6 at s6 hr6 ⊢
    have nrx : r ≠ x := ne_of hr6 (s6 _ _ hx5) (by intro z; cases z)
    have rows6 := rows5.same s6
    -- self._above
    refine ⟨_, rfl, r, 0, n, rfl, hr6, ⟨by omega, by omega, by omega, by omega⟩, fun D hD => ?_⟩
    rw [show ((n : Int) - 0).toNat = n by omega]
    refine lc_range (fun i H7 => Coll H6 D (fun j => nL (Bel n (flip (relOf ps)) j)) i H7) (Coll.start hD) ?_ ?_
    · intro i H7 hi c7
      have e0 : (0 : Int) + (i : Int) = (i : Int) := by omega
      rw [e0]
      obtain ⟨_, hD7, _, s7, _⟩ := id c7
      refine ⟨rfl, yesT ⟨_, rfl, r, 0, n, rfl, s7 _ _ hr6, ⟨by omega, by omega, by omega, by omega⟩, fun D2 hD2 => ?_⟩⟩
      rw [show ((n : Int) - 0).toNat = n by omega]
      refine lc_range (fun j H8 => H8 D2 = some (.lst (nL ((List.range j).filter (flip (relOf ps) i)))) ∧ Same H7 H8) ⟨upd_same, same_new hD2⟩ ?_ ?_
      · rintro j H8 hj ⟨h8, s8⟩
        have e0 : (0 : Int) + (j : Int) = (j : Int) := by omega
        rw [e0]
        have s68 : Same H6 H8 := s7.trans s8
        obtain ⟨xs, al, hb, _, hal, hL⟩ := (rows6.same s68).at (relRows_at (R := relOf ps) hj)
        refine ⟨rfl, _, rfl, _, rfl, x, C, dx, _, _, rfl, s68 _ _ (s6 _ _ hx5), T.cl, T.nBen, ben5, _, rfl, be, xs, _, _, rfl, rfl, SqL.of hb, atI_nat hal, al, _, rfl, .inl (SqL.of hL), rfl, flat_nL _, _, rfl, ?_⟩
        have grown : (List.range (j + 1)).filter (flip (relOf ps) i) = (List.range j).filter (flip (relOf ps) i) ++ (if flip (relOf ps) i j = true then [j] else []) := by
          rw [List.range_succ, List.filter_append, List.filter_cons]
          rfl
        have same_test : inV (V.int (i : Int)) (nL (Bel n (relOf ps) j)) = flip (relOf ps) i j := by
          rw [in_nL, Bool.eq_iff_iff, decide_eq_true_eq, mem_Bel]
          exact ⟨fun z => z.2, fun z => ⟨hi, z⟩⟩
        show if inV (V.int (i : Int)) (nL (Bel n (relOf ps) j)) = true then _ else _
        rw [same_test]
        refine ite2 (fun hx' => ?_) (fun hx' => ?_)
        · refine ⟨_, rfl, _, h8, ?_, ?_, same_upd s8 hD2⟩
          · rw [nL_len, sizeLine_eq]
            have := List.length_filter_le (flip (relOf ps) i) (List.range j)
            rw [List.length_range] at this
            omega
          · rw [upd_same, grown, if_pos hx', nL_app]; rfl
        · refine ⟨?_, s8⟩
          rw [h8, grown, if_neg hx', List.append_nil]
      · rintro H8 ⟨h8, s8⟩
        exact c7.more hD s8 (fun z => by rw [z, hD7] at hD2; cases hD2) h8 (by omega)
    intro H7 c7
    have rowsA := c7.rows
    obtain ⟨_, hD7, _, s7, _⟩ := id c7
    refine ⟨_, rfl, x, C, dx, _, rfl, s7 _ _ (s6 _ _ hx5), T.cl, T.nAbove, by omega, ?_⟩
    generalize hf8 : putF "_above" (.ref D) fs5 = fs8
    have lk8 : fs8.length ≤ 5 := by rw [← hf8]; exact put_few lk5
    have ben8 : fs8.lookup ("_beneath" : Str) = some (.ref be) := by rw [← hf8, lk_ne _ _ (by decide +kernel)]; exact ben5
    have wir8 : fs8.lookup ("wires" : Str) = some (.ref l) := by rw [← hf8, lk_ne _ _ (by decide +kernel)]; exact wir5
    have cnt8 : fs8.lookup ("count" : Str) = some (.int n) := by rw [← hf8, lk_ne _ _ (by decide +kernel)]; exact cnt5
    have hue8 : fs8.lookup ("hues" : Str) = some (.int h) := by rw [← hf8, lk_ne _ _ (by decide +kernel)]; exact hue5
    have ord8 : fs8.lookup ("order" : Str) = Option.none := by rw [← hf8, lk_ne _ _ (by decide +kernel)]; exact ord5
    have bnt8 : fs8.lookup ("beneath" : Str) = Option.none := by rw [← hf8, lk_ne _ _ (by decide +kernel)]; exact bnt5
    have abv8 : fs8.lookup ("_above" : Str) = some (.ref D) := by rw [← hf8, lk_same]
    have s67 := s6.trans s7
    have sb8 : SB x H (upd H7 x (.ins C dx fs8)) := (sb5.trans (SB.of s67)).upd
    have rows8 : Rows (upd H7 x (.ins C dx fs8)) be (relRows n (relOf ps)) := SB.rows ((SB.refl x H7).upd) (s67 _ _ hx5) (rows6.same s7)
    have rowsA8 : Rows (upd H7 x (.ins C dx fs8)) D (relRows n (flip (relOf ps))) := SB.rows ((SB.refl x H7).upd) (s67 _ _ hx5) rowsA
    have hl8 : (upd H7 x (.ins C dx fs8)) l = some (.tup ys) := by rw [upd_ne nlx]; exact s67 _ _ hl5
    have hr8 : (upd H7 x (.ins C dx fs8)) r = some (.rng 0 (n : Int)) := by rw [upd_ne nrx]; exact s7 _ _ hr6
    have hx8 : (upd H7 x (.ins C dx fs8)) x = some (.ins C dx fs8) := upd_same
    have ys8 : ∀ y ∈ ys, ∃ (t : Addr) (i j : Nat), y = V.ref t ∧ (upd H7 x (.ins C dx fs8)) t = some (.tup [.int (i : Int), .int (j : Int)]) := by
      intro y hy
      obtain ⟨t, i, j, e1, e2⟩ := ys5 y hy
      exact ⟨t, i, j, e1, by rw [upd_ne (ne_of e2 hx5 (by intro z; cases z))]; exact s67 _ _ e2⟩
    generalize upd H7 x (.ins C dx fs8) = H8 at sb8 rows8 rowsA8 hl8 hr8 hx8 ys8 ⊢
    -- self._direct
    refine ⟨_, rfl, r, 0, n, rfl, hr8, ⟨by omega, by omega, by omega, by omega⟩, fun D3 hD3 => ?_⟩
    rw [show ((n : Int) - 0).toNat = n by omega]
    refine lc_range (fun i H9 => ∃ acc, H9 D3 = some (.lst acc) ∧ acc.length = i ∧ Same H8 H9) ⟨[], upd_same, rfl, same_new hD3⟩ ?_ ?_
    · rintro i H9 hi ⟨acc, h9, l9, s9⟩
      refine ⟨rfl, yesT ⟨_, rfl, x, C, dx, _, _, rfl, s9 _ _ hx8, T.cl, T.nWires, wir8, l, rfl, ⟨_, SqT.of (s9 _ _ hl8)⟩, fun D4 hD4 => ?_⟩⟩
      refine lc_it (walk_tup (xs := ys)) (fun j H10 => ∃ acc2, H10 D4 = some (.lst acc2) ∧ acc2.length ≤ j ∧ Same H9 H10) ⟨[], upd_same, Nat.le_refl 0, same_new hD4⟩ (fun j H10 _ ⟨_, _, _, s10⟩ => SqT.of (s10 _ _ (s9 _ _ hl8))) ?_ ?_
      · rintro j y H10 H11 hj ⟨acc2, h10, l10, s10⟩ ⟨rfl, hy⟩
        obtain ⟨t, a1, a2, rfl, ht⟩ := ys8 y (List.mem_of_getElem? hy)
        refine ⟨t, _, rfl, SqT.of (s10 _ _ (s9 _ _ ht)), rfl, _, _, rfl, _, _, rfl, rfl, rfl, ?_⟩
        refine ⟨_, rfl, _, rfl, rfl, _, rfl, ?_⟩
        refine ite2 (fun _ => ?_) (fun _ => ⟨acc2, h10, by omega, s10⟩)
        exact ⟨_, rfl, _, h10, by rw [sizeLine_eq]; omega, _, upd_same, by rw [List.length_append, List.length_singleton]; omega, same_upd s10 hD4⟩
      · rintro H10 ⟨acc2, h10, _, s10⟩
        exact ⟨_, s10 _ _ h9, by rw [sizeLine_eq]; omega, _, upd_same, by rw [List.length_append, l9]; rfl, same_upd (s9.trans s10) hD3⟩
    rintro H9 ⟨acc, h9, l9, s9⟩
    refine ⟨_, rfl, x, C, dx, _, rfl, s9 _ _ hx8, T.cl, T.nDirect, by omega, ?_⟩
    generalize hf10 : putF "_direct" (.ref D3) fs8 = fs10
    have lk10 : fs10.length ≤ 6 := by rw [← hf10]; exact put_few lk8
    have ben10 : fs10.lookup ("_beneath" : Str) = some (.ref be) := by rw [← hf10, lk_ne _ _ (by decide +kernel)]; exact ben8
    have cnt10 : fs10.lookup ("count" : Str) = some (.int n) := by rw [← hf10, lk_ne _ _ (by decide +kernel)]; exact cnt8
    have hue10 : fs10.lookup ("hues" : Str) = some (.int h) := by rw [← hf10, lk_ne _ _ (by decide +kernel)]; exact hue8
    have ord10 : fs10.lookup ("order" : Str) = Option.none := by rw [← hf10, lk_ne _ _ (by decide +kernel)]; exact ord8
    have bnt10 : fs10.lookup ("beneath" : Str) = Option.none := by rw [← hf10, lk_ne _ _ (by decide +kernel)]; exact bnt8
    have abv10 : fs10.lookup ("_above" : Str) = some (.ref D) := by rw [← hf10, lk_ne _ _ (by decide +kernel)]; exact abv8
    have sb10 : SB x H (upd H9 x (.ins C dx fs10)) := (sb8.trans (SB.of s9)).upd
    have rows10 : Rows (upd H9 x (.ins C dx fs10)) be (relRows n (relOf ps)) := SB.rows ((SB.refl x H9).upd) (s9 _ _ hx8) (rows8.same s9)
    have rowsA10 : Rows (upd H9 x (.ins C dx fs10)) D (relRows n (flip (relOf ps))) := SB.rows ((SB.refl x H9).upd) (s9 _ _ hx8) (rowsA8.same s9)
    have hx10 : (upd H9 x (.ins C dx fs10)) x = some (.ins C dx fs10) := upd_same
    generalize upd H9 x (.ins C dx fs10) = H10 at sb10 rows10 rowsA10 hx10 ⊢
    -- self._order
    refine ⟨_, rfl, x, C, dx, _, _, rfl, hx10, T.cl, T.nAbove, abv10, D, n, relOf ps, rfl, n16, relOf_ranked rank, rowsA10, fun H11 o s11 no ho => ?_⟩
    refine ⟨_, rfl, x, C, dx, _, rfl, s11 _ _ hx10, T.cl, T.nOrder, by omega, ?_⟩
    have nox : o ≠ x := ne_of ho (s11 _ _ hx10) (by intro z; cases z)
    refine q _ (sb10.trans (SB.of s11)).upd ⟨dx, _, be, o, upd_same, ?_, ?_, ?_, SB.rows ((SB.refl x H11).upd) (s11 _ _ hx10) (rows10.same s11), ?_, by rw [upd_ne nox]; exact ho, ?_, ?_⟩
    · rw [lk_ne _ _ (by decide +kernel)]; exact cnt10
    · rw [lk_ne _ _ (by decide +kernel)]; exact hue10
    · rw [lk_ne _ _ (by decide +kernel)]; exact ben10
    · rw [lk_same]
    · rw [lk_ne _ _ (by decide +kernel)]; exact ord10
    · rw [lk_ne _ _ (by decide +kernel)]; exact bnt10
end
end Hue

end
section
set_option maxRecDepth 100000
namespace Hue
open PySem PySem.Spec PyProof.Rows L2
section
variable {P : Program} {w : World} {K : PySem.W.Frag} {mg : Str → Option Value} {base : Heap} {C : Addr}
theorem HouseAt.same {H H' : Hp} {x : Addr} {n h : Nat} {R : Rel} (a : HouseAt C H x n h R) (s : Same H H') : HouseAt C H' x n h R := by
  obtain ⟨dx, fs, be, o, h1, h2, h3, h4, h5, h6, h7, h8, h9⟩ := a
  exact ⟨dx, fs, be, o, s _ _ h1, h2, h3, h4, h5.same s, h6, s _ _ h7, h8, h9⟩
abbrev s_House_order : Stmt := inClass (top 16) 10
theorem sc_House_order : FnScope ["self"] ["self"] (defScope s_House_order) := ⟨rfl, rfl, rfl, by decide +kernel, rfl, by decide +kernel, by decide +kernel⟩
-- slots of House.order: 0 self
def spOrder (C : Addr) : Sp := fun vs H Q _ => ∃ (x : Addr) (n h : Nat) (R : Rel), vs = [.ref x] ∧ HouseAt C H x n h R ∧ ∀ (H' : Hp) (p : Addr), Same H H' → H p = Option.none → H' p = some (.lst (nL (ordN n R n))) → Q (.ref p) H'
theorem ok_order (T : Txt K mg C) {f : Addr} {fd : FuncData} (F : Fun K "order" "House.order" s_House_order f fd) : FnOk P w K mg base CX0 1 f fd ["self"] (spOrder C) := by
  refine F.ok sc_House_order (fun vs H Q E h => ?_) (fun cdv A outer s H vs Q E hr h => ?_)
  · obtain ⟨x, n, h, R, rfl, _⟩ := h; rfl
  · obtain ⟨x, n, h, R, rfl, ⟨dx, fs, be, o, h1, h2, h3, h4, h5, h6, h7, h8, h9⟩, q⟩ := h
    refine ⟨_, (pss_one (ps_ret (pe_callTy (lstOf_ K) (by rfl) T.list b_list (pa_cons (fld_ K (pv 0)) pa_nil)))), ?_⟩
    exact ⟨_, rfl, x, C, dx, _, _, rfl, h1, T.cl, T.nOrder, h6, o, _, rfl, .inl (SqL.of h7), fun l nl => q _ l (same_new nl) nl upd_same⟩
abbrev s_is_lamp : Stmt := top 17
theorem sc_is_lamp : FnScope ["house", "value"] ["house", "value"] (defScope s_is_lamp) := ⟨rfl, rfl, rfl, by decide +kernel, rfl, by decide +kernel, by decide +kernel⟩
-- slots of is_lamp: 0 house, 1 value
def spIsLamp (C : Addr) : Sp := fun vs H Q _ => ∃ (x : Addr) (n h : Nat) (R : Rel) (i : Int), vs = [.ref x, .int i] ∧ HouseAt C H x n h R ∧ Q (.bl (decide (0 ≤ i) && decide (i ≤ (n : Int) - 1))) H
theorem ok_is_lamp (T : Txt K mg C) {f : Addr} {fd : FuncData} (F : Fun K "is_lamp" "is_lamp" s_is_lamp f fd) (c_is_whole_in : Cal P w K mg base "is_whole_in" 2 spWholeIn) : FnOk P w K mg base CX0 3 f fd ["house", "value"] (spIsLamp C) := by
  refine F.ok sc_is_lamp (fun vs H Q E h => ?_) (fun cdv A outer s H vs Q E hr h => ?_)
  · obtain ⟨x, n, h, R, i, rfl, _⟩ := h; rfl
  · obtain ⟨x, n, h, R, i, rfl, ⟨dx, fs, be, o, h1, h2, h3, h4, h5, h6, h7, h8, h9⟩, q⟩ := h
    refine ⟨_, (pss_one (ps_ret (pe_cal c_is_whole_in (hr.mono (by decide)) (pa_cons (pv 1) (pa_cons pe_int (pa_cons (pe_op op_sub (fld_ K (pv 0)) pe_int) pa_nil)))))), ?_⟩
    exact ⟨_, rfl, _, rfl, x, C, dx, _, _, rfl, h1, T.cl, T.nCount, h2, _, _, rfl, rfl, i, 0, (n : Int) - 1, rfl, q⟩
abbrev s_check_lamp : Stmt := top 18
theorem sc_check_lamp : FnScope ["house", "lamp"] ["house", "lamp"] (defScope s_check_lamp) := ⟨rfl, rfl, rfl, by decide +kernel, rfl, by decide +kernel, by decide +kernel⟩
-- slots of check_lamp: 0 house, 1 lamp
def spCheckLamp (C : Addr) : Sp := fun vs H Q _ => ∃ (x : Addr) (n h : Nat) (R : Rel) (i : Int), vs = [.ref x, .int i] ∧ HouseAt C H x n h R ∧ 0 ≤ i ∧ i < (n : Int) ∧ Q .non H
theorem ok_check_lamp (T : Txt K mg C) {f : Addr} {fd : FuncData} (F : Fun K "check_lamp" "check_lamp" s_check_lamp f fd) (c_is_lamp : Cal P w K mg base "is_lamp" 3 (spIsLamp C)) : FnOk P w K mg base CX0 4 f fd ["house", "lamp"] (spCheckLamp C) := by
  refine F.ok sc_check_lamp (fun vs H Q E h => ?_) (fun cdv A outer s H vs Q E hr h => ?_)
  · obtain ⟨x, n, h, R, i, rfl, _⟩ := h; rfl
  · obtain ⟨x, n, h, R, i, rfl, ha, i0, i1, q⟩ := h
    refine ⟨_, (pss_one (ps_if (pt_not (pt_val (pe_cal c_is_lamp (hr.mono (by decide)) (pa_cons (pv 0) (pa_cons (pv 1) pa_nil)))))
      pss_never pss_nil)), ?_⟩
    refine ⟨_, rfl, _, rfl, x, n, h, R, i, rfl, ha, _, rfl, ifF ?_ q⟩
    rw [decide_eq_true i0, decide_eq_true (by omega : i ≤ (n : Int) - 1)] <;> rfl
abbrev s_House_beneath : Stmt := inClass (top 16) 5
theorem sc_House_beneath : FnScope ["self", "lamp"] ["self", "lamp"] (defScope s_House_beneath) := ⟨rfl, rfl, rfl, by decide +kernel, rfl, by decide +kernel, by decide +kernel⟩
-- slots of House.beneath: 0 self, 1 lamp
def spBeneath (C : Addr) : Sp := fun vs H Q _ => ∃ (x : Addr) (n h k : Nat) (R : Rel), vs = [.ref x, .int k] ∧ HouseAt C H x n h R ∧ k < n ∧ ∀ (H' : Hp) (p : Addr), Same H H' → H p = Option.none → H' p = some (.lst (nL (Bel n R k))) → Q (.ref p) H'
theorem ok_beneath (T : Txt K mg C) {f : Addr} {fd : FuncData} (F : Fun K "beneath" "House.beneath" s_House_beneath f fd) (c_check_lamp : Cal P w K mg base "check_lamp" 4 (spCheckLamp C)) : FnOk P w K mg base CX0 5 f fd ["self", "lamp"] (spBeneath C) := by
  refine F.ok sc_House_beneath (fun vs H Q E h => ?_) (fun cdv A outer s H vs Q E hr h => ?_)
  · obtain ⟨x, n, h, k, R, rfl, _⟩ := h; rfl
  · obtain ⟨x, n, h, k, R, rfl, ha, hk, q⟩ := h
    obtain ⟨dx, fs, be, o, h1, h2, h3, h4, h5, h6, h7, h8, h9⟩ := id ha
    refine ⟨_, (pss_cons (ps_expr (pe_cal c_check_lamp (hr.mono (by decide)) (pa_cons (pv 0) (pa_cons (pv 1) pa_nil))))
      (pss_one (ps_ret (pe_callTy (lstOf_ K) (by rfl) T.list b_list (pa_cons (pe_ix (ixL_ K) (fld_ K (pv 0)) (pv 1) (fun _ _ => rfl)) pa_nil))))), ?_⟩
    obtain ⟨xs, al, hb, _, hal, hL⟩ := h5.at (relRows_at (R := R) hk)
    refine ⟨_, rfl, _, rfl, x, n, h, R, k, rfl, ha, by omega, by omega, ?_⟩
    exact ⟨_, rfl, x, C, dx, _, _, rfl, h1, T.cl, T.nBen, h4, _, rfl, be, xs, _, _, rfl, rfl, SqL.of hb, atI_nat hal, al, _, rfl, .inl (SqL.of hL), fun l nl => q _ l (same_new nl) nl upd_same⟩
abbrev s_is_state : Stmt := top 10
theorem sc_is_state : FnScope ["house", "value", "hue"] ["house", "value"] (defScope s_is_state) := ⟨rfl, rfl, rfl, by decide +kernel, rfl, by decide +kernel, by decide +kernel⟩
-- slots of is_state: 0 house, 1 value, 2 hue
def spIsState (C : Addr) : Sp := fun vs H Q _ => ∃ (x t : Addr) (n h : Nat) (R : Rel) (S : List Int), vs = [.ref x, .ref t] ∧ HouseAt C H x n h R ∧ n ≤ 16 ∧ H t = some (.tup (stV S)) ∧ StOk n h S ∧ ∀ H', Same H H' → Q (.bl true) H'
theorem ok_is_state (T : Txt K mg C) {f : Addr} {fd : FuncData} (F : Fun K "is_state" "is_state" s_is_state f fd) (c_is_whole_in : Cal P w K mg base "is_whole_in" 2 spWholeIn) : FnOk P w K mg base CX0 3 f fd ["house", "value"] (spIsState C) := by
  refine F.ok sc_is_state (fun vs H Q E h => ?_) (fun cdv A outer s H vs Q E hr h => ?_)
  · obtain ⟨x, t, n, h, R, S, rfl, _⟩ := h; rfl
  · obtain ⟨x, t, n, h, R, S, rfl, ha, n16, ht, hS, q⟩ := h
    obtain ⟨dx, fs, be, o, h1, h2, h3, h4, h5, h6, h7, h8, h9⟩ := id ha
    refine ⟨_, (pss_cons (ps_if (PW.pt (pw_or (pt_not (pt_val (pe_callB (isi_ K) (by rfl) T.isinstance b_isinstance (pa_cons (pv 1) (pa_cons (pe_bltn (v := .ty "tuple") (by rfl) T.tuple b_tuple rfl) pa_nil))))) (pw_or1 (pt_cmpR op_ne (pe_callB (lenS_ K) (by rfl) T.len b_len (pa_cons (pv 1) pa_nil)) (fld_ K (pv 0)) (nomark _)))))
      (pss_one (ps_ret pe_bl)) pss_nil)
      (pss_one (ps_ret (pe_callB (all_ K rfl) (by rfl) T.all b_all (pa_cons (pe_lc (own := [("hue", 2)]) (g := gName 2) (tt := tYes) rfl sc_is_state.nd (pit_ K (pv 1)) (blkOk_by (by kernel_rfl)) (fun _ _ _ _ _ => (pg_name (i := 2) sc_is_state.nd rfl (by first | exact Or.inl rfl | exact Or.inr rfl))) (fun _ _ _ _ _ => pts_nil) (fun _ _ _ _ _ => (pe_cal c_is_whole_in (hr.mono (by decide)) (pa_cons (pv 2) (pa_cons pe_int (pa_cons (pe_op op_sub (fld_ K (pv 0)) pe_int) pa_nil)))))) pa_nil))))), ?_⟩
    refine ⟨_, rfl, _, _, _, _, true, rfl, .ty _, .base (.tup ht), kit_ty (by decide +kernel), true, rfl, iteF ?_⟩
    refine ⟨_, rfl, t, _, rfl, .inr (SqT.of ht), _, rfl, x, C, dx, _, _, rfl, h1, T.cl, T.nCount, h2, rfl, _, rfl, iteNS ?_ ?_⟩
    · rw [List.length_map, hS.1]
    refine ⟨_, rfl, t, rfl, ⟨_, SqT.of ht⟩, fun D hD => ?_⟩
    refine lc_it (walk_tup (xs := stV S)) (fun j H2 => H2 D = some (.lst ((List.replicate j true).map V.bl)) ∧ Same H H2) ⟨upd_same, same_new hD⟩ (fun j H2 _ ⟨_, s⟩ => SqT.of (s _ _ ht)) ?_ ?_
    · rintro j y H2 H3 hj ⟨h2', s2⟩ ⟨rfl, hy⟩
      rw [List.length_map, hS.1] at hj
      rw [stV_get (by rw [hS.1]; exact hj)] at hy
      cases hy
      obtain ⟨b1, b2⟩ := hS.at hj
      refine ⟨rfl, yesT ⟨_, rfl, _, rfl, x, C, dx, _, _, rfl, s2 _ _ h1, T.cl, T.nHues, h3, _, _, rfl, rfl, at_ S j, 0, (h : Int) - 1, rfl, ?_⟩⟩
      rw [decide_eq_true b1, decide_eq_true (by omega : at_ S j ≤ (h : Int) - 1)]
      refine ⟨_, h2', by rw [List.length_map, List.length_replicate, sizeLine_eq]; omega, ?_, same_upd s2 hD⟩
      rw [upd_same, List.replicate_succ', List.map_append]
      rfl
    · rintro H2 ⟨h2', s2⟩
      refine ⟨D, _, rfl, SqL.of h2', ?_⟩
      have e : (List.replicate (stV S).length true).all id = true := by simp
      rw [e]
      exact q H2 s2
abbrev s_check_state : Stmt := top 11
theorem sc_check_state : FnScope ["house", "state"] ["house", "state"] (defScope s_check_state) := ⟨rfl, rfl, rfl, by decide +kernel, rfl, by decide +kernel, by decide +kernel⟩
-- slots of check_state: 0 house, 1 state
theorem ok_check_state (T : Txt K mg C) {f : Addr} {fd : FuncData} (F : Fun K "check_state" "check_state" s_check_state f fd) (c_is_state : Cal P w K mg base "is_state" 3 (spIsState C)) :
    FnOk P w K mg base CX0 4 f fd ["house", "state"] (fun vs H Q _ => ∃ (x t : Addr) (n h : Nat) (R : Rel) (S : List Int), vs = [.ref x, .ref t] ∧ HouseAt C H x n h R ∧ n ≤ 16 ∧ H t = some (.tup (stV S)) ∧ StOk n h S ∧ ∀ H', Same H H' → Q .non H') := by
  refine F.ok sc_check_state (fun vs H Q E h => ?_) (fun cdv A outer s H vs Q E hr h => ?_)
  · obtain ⟨x, t, n, h, R, S, rfl, _⟩ := h; rfl
  · obtain ⟨x, t, n, h, R, S, rfl, ha, n16, ht, hS, q⟩ := h
    refine ⟨_, (pss_one (ps_if (pt_not (pt_val (pe_cal c_is_state (hr.mono (by decide)) (pa_cons (pv 0) (pa_cons (pv 1) pa_nil)))))
      pss_never pss_nil)), ?_⟩
    exact ⟨_, rfl, _, rfl, x, t, n, h, R, S, rfl, ha, n16, ht, hS, fun H' s => ⟨_, rfl, iteF (q H' s)⟩⟩
def spCheckState (C : Addr) : Sp := fun vs H Q _ => ∃ (x t : Addr) (n h : Nat) (R : Rel) (S : List Int), vs = [.ref x, .ref t] ∧ HouseAt C H x n h R ∧ n ≤ 16 ∧ H t = some (.tup (stV S)) ∧ StOk n h S ∧ ∀ H', Same H H' → Q .non H'
end
end Hue

end
section
set_option maxRecDepth 100000
namespace Hue
open PySem PySem.Spec PyProof.Rows L2
section
variable {P : Program} {w : World} {K : PySem.W.Frag} {mg : Str → Option Value} {base : Heap} {C : Addr}
abbrev s_reaches : Stmt := top 14
theorem sc_reaches : FnScope ["house", "source", "target", "passed_over", "lamp"] ["house", "source", "target"] (defScope s_reaches) := ⟨rfl, rfl, rfl, by decide +kernel, rfl, by decide +kernel, by decide +kernel⟩
-- slots of reaches: 0 house, 1 source, 2 target, 3 passed_over, 4 lamp
def spReaches (C : Addr) : Sp := fun vs H Q _ => ∃ (x a b : Addr) (n h : Nat) (R : Rel) (S D : List Int), vs = [.ref x, .ref a, .ref b] ∧ HouseAt C H x n h R ∧ n ≤ 16 ∧ Ranked R ∧ Trans R ∧ H a = some (.tup (stV S)) ∧ H b = some (.tup (stV D)) ∧ StOk n h S ∧ StOk n h D ∧
  ∀ (r : Bool) H', (r = true ↔ Reach n R S D) → Same H H' → Q (.bl r) H'
theorem ok_reaches (T : Txt K mg C) {f : Addr} {fd : FuncData} (F : Fun K "reaches" "reaches" s_reaches f fd) (M_order : MCal P w K mg base C "order" 1 (spOrder C)) (M_beneath : MCal P w K mg base C "beneath" 5 (spBeneath C)) : FnOk P w K mg base CX0 6 f fd ["house", "source", "target"] (spReaches C) := by
  refine F.ok sc_reaches (fun vs H Q E h => ?_) (fun cdv A outer s H vs Q E hr h => ?_)
  · obtain ⟨x, a, b, n, h, R, S, D, rfl, _⟩ := h; rfl
  · obtain ⟨x, a, b, n, h, R, S, D, rfl, hx, n16, hR, hT, ha, hb, hS, hD, q⟩ := h
    obtain ⟨f_order, fd_order, ps_order, F_order, m_order, b_order⟩ := M_order.ex
    obtain ⟨f_beneath, fd_beneath, ps_beneath, F_beneath, m_beneath, b_beneath⟩ := M_beneath.ex
    obtain ⟨dx, fs, be, o, h1, h2, h3, h4, h5, h6, h7, h8, h9⟩ := id hx
    obtain ⟨olen, ook⟩ := ordN_ok hR n (Nat.le_refl n)
    refine ⟨_, (pss_cons (ps_set (i := 3) sc_reaches.nd rfl (by first | exact Or.inl rfl | exact Or.inr rfl) (pe_lst pa_nil))
      (pss_cons (ps_for PassesOwn.never rfl (pil_ K (pe_meth0 (pv 0) T.cl m_order F_order (hr.mono (by decide)) b_order .nil pass0)) (pg_name (i := 4) sc_reaches.nd rfl (by first | exact Or.inl rfl | exact Or.inr rfl))
      (pss_one (ps_if (PW.pt (pw_and (pt_cmpR op_ne (pe_ix (ixT_ K) (pv 1) (pv 4) (fun _ _ => rfl)) (pe_ix (ixT_ K) (pv 2) (pv 4) (fun _ _ => rfl)) (nomark _)) (pw_and1 (pt_cmpR (ninS_ K) (pv 4) (pv 3) (by rfl)))))
      (pss_cons (ps_if (pt_cmpR op_lt (pe_ix (ixT_ K) (pv 1) (pv 4) (fun _ _ => rfl)) (pe_ix (ixT_ K) (pv 2) (pv 4) (fun _ _ => rfl)) (nomark _))
      (pss_one (ps_ret pe_bl)) pss_nil)
      (pss_one (ps_expr (pe_bm PySem.F.plainAttrs_list PySem.F.slot_list_extend PySem.F.type_list_extend mt_extend (pv 3) (pa_cons (pe_meth (pv 0) T.cl m_beneath F_beneath (hr.mono (by decide)) b_beneath .nil pass0 (pa_cons (pv 4) pa_nil)) pa_nil))))) pss_nil)))
      (pss_one (ps_ret pe_bl)))), ?_⟩
    refine ⟨by decide, fun po hpo => ?_⟩
    have s1 : Same H (upd H po (.lst [])) := same_new hpo
    refine ⟨_, rfl, x, dx, fs, rfl, s1 _ _ h1, h8, x, n, h, R, rfl, hx.same s1, fun H2 l s2 nl hl => ⟨l, rfl, ⟨_, SqL.of hl⟩, ?_⟩⟩
    have np : H po = Option.none := hpo
    have h2po : H2 po = some (.lst (nL [])) := s2 _ _ upd_same
    have nlpo : l ≠ po := fun z => by
      rw [z, upd_same] at nl; cases nl
    have s12 := s1.trans s2
    -- the invariant: what is passed over, and no topmost difference so far goes up
    refine for_list (K := K) (a := l) (xs := nL (ordN n R n)) (fun i σ H3 => ∃ (v : Option V) (pl : List Nat), σ = [some (.ref x), some (.ref a), some (.ref b), some (.ref po), v] ∧ Same H H3 ∧ H3 l = some (.lst (nL (ordN n R n))) ∧ H3 po = some (.lst (nL pl)) ∧ pl.length ≤ 16 * i ∧
        (∀ j, j < n → (j ∈ pl ↔ ∃ u ∈ (ordN n R n).take i, at_ S u ≠ at_ D u ∧ R u j = true)) ∧
        (∀ k ∈ (ordN n R n).take i, at_ S k ≠ at_ D k → (∀ u, u < n → R u k = true → at_ S u = at_ D u) → at_ D k < at_ S k))
      ⟨_, [], rfl, s12, hl, h2po, Nat.le_refl 0, fun j _ => by simp, fun k hk => by simp at hk⟩ (fun i σ H3 _ ⟨_, _, _, _, hl3, _⟩ => SqL.of hl3) ?_ ?_
    · rintro i y σ H3 hy ⟨v, pl, rfl, s3, hl3, hp3, lp, mem, good⟩
      obtain ⟨k, hk, rfl⟩ : ∃ k, (ordN n R n)[i]? = some k ∧ y = V.int (k : Int) := by
        unfold nL nI at hy
        rw [List.map_map, List.getElem?_map] at hy
        obtain ⟨j, hj, e⟩ := Option.map_eq_some_iff.mp hy
        exact ⟨j, hj, e.symm⟩
      have kn : k < n := ook.lt k (List.mem_of_getElem? hk)
      have iln : i < n := by
        have := (List.getElem?_eq_some_iff.mp hk).1
        rw [olen] at this; exact this
      have kS := stV_get (S := S) (k := k) (by rw [hS.1]; exact kn)
      have kD := stV_get (S := D) (k := k) (by rw [hD.1]; exact kn)
      have up := ook.up i k hk
      have tk : (ordN n R n).take (i + 1) = (ordN n R n).take i ++ [k] := by rw [List.take_add_one, hk]; rfl
      -- passed over: some differing lamp above
      have passed : k ∈ pl ↔ ∃ u, u < n ∧ at_ S u ≠ at_ D u ∧ R u k = true := by
        rw [mem k kn]
        constructor
        · rintro ⟨u, hu, d, r⟩
          exact ⟨u, ook.lt u (List.mem_of_mem_take hu), d, r⟩
        · rintro ⟨u, hu, d, r⟩
          exact ⟨u, up u hu r, d, r⟩
      refine ⟨_, rfl, _, rfl, a, _, _, _, rfl, rfl, SqT.of (s3 _ _ ha), atI_nat kS, _, rfl, _, rfl, b, _, _, _, rfl, rfl, SqT.of (s3 _ _ hb), atI_nat kD, rfl, _, rfl, ?_⟩
      -- what stays when the lamp adds nothing
      have stay : (at_ S k = at_ D k ∨ k ∈ pl) → ∃ (v : Option V) (pl' : List Nat), ([some (.ref x), some (.ref a), some (.ref b), some (.ref po), some (V.int (k : Int))] : L2.St) = [some (.ref x), some (.ref a), some (.ref b), some (.ref po), v] ∧ Same H H3 ∧ H3 l = some (.lst (nL (ordN n R n))) ∧ H3 po = some (.lst (nL pl')) ∧ pl'.length ≤ 16 * (i + 1) ∧
        (∀ j, j < n → (j ∈ pl' ↔ ∃ u ∈ (ordN n R n).take (i + 1), at_ S u ≠ at_ D u ∧ R u j = true)) ∧
        (∀ k ∈ (ordN n R n).take (i + 1), at_ S k ≠ at_ D k → (∀ u, u < n → R u k = true → at_ S u = at_ D u) → at_ D k < at_ S k) := by
        intro hc
        refine ⟨_, pl, rfl, s3, hl3, hp3, by omega, fun j hj => ?_, fun m hm => ?_⟩
        · rw [mem j hj, tk]
          constructor
          · rintro ⟨u, hu, d, r⟩
            exact ⟨u, List.mem_append_left _ hu, d, r⟩
          · rintro ⟨u, hu, d, r⟩
            rcases List.mem_append.mp hu with hu | hu
            · exact ⟨u, hu, d, r⟩
            · rw [List.mem_singleton.mp hu] at d r
              rcases hc with e | e
              · exact absurd e d
              · obtain ⟨u2, hu2, d2, r2⟩ := (mem k kn).mp e
                exact ⟨u2, hu2, d2, hT _ _ _ r2 r⟩
        · rw [tk] at hm
          rcases List.mem_append.mp hm with hm | hm
          · exact good m hm
          · intro d top
            rw [List.mem_singleton.mp hm] at d top
            rcases hc with e | e
            · exact absurd e d
            · obtain ⟨u2, hu2, d2, r2⟩ := passed.mp e
              exact absurd (top u2 hu2 r2) d2
      refine ite2 (fun hne => ?_) (fun heq => ?_)
      · have ne : at_ S k ≠ at_ D k := by
          intro z
          rw [z] at hne
          simp at hne
        refine ⟨_, rfl, _, rfl, po, _, rfl, .inl (SqL.of hp3), rfl, flat_nL _, _, rfl, ?_⟩
        show if (!inV (V.int (k : Int)) (nL pl)) = true then _ else _
        rw [in_nL]
        refine ite2 (fun hnp => ?_) (fun hnp => ?_)
        · have kp : k ∉ pl := by simpa using hnp
          have top : ∀ u, u < n → R u k = true → at_ S u = at_ D u := fun u hu r => by
            rcases Classical.em (at_ S u = at_ D u) with e | e
            · exact e
            · exact absurd (passed.mpr ⟨u, hu, e, r⟩) kp
          refine ⟨_, rfl, _, rfl, a, _, _, _, rfl, rfl, SqT.of (s3 _ _ ha), atI_nat kS, _, rfl, _, rfl, b, _, _, _, rfl, rfl, SqT.of (s3 _ _ hb), atI_nat kD, _, _, rfl, rfl, _, rfl, ?_⟩
          refine ite2 (fun hlt => ?_) (fun hge => ?_)
          · have lt := of_decide_eq_true hlt
            refine q false H3 ⟨fun z => (by cases z), fun z => ?_⟩ s3
            have := z k kn ne top
            omega
          · have dlt : at_ D k < at_ S k := by
              have z : ¬ at_ S k < at_ D k := fun z => hge (decide_eq_true z)
              omega
            refine ⟨_, rfl, .inl ⟨rfl, _, SqL.of hp3⟩, _, rfl, x, dx, fs, rfl, s3 _ _ h1, h9, _, rfl, x, n, h, k, R, rfl, hx.same s3, kn, fun H4 c s4 nc hc => ?_⟩
            have bl := Bel_len n R k
            refine ⟨po, c, _, _, rfl, rfl, s4 _ _ hp3, hc, ?_, ?_⟩
            · rw [nL_len, nL_len, sizeLine_eq]; omega
            refine ⟨_, pl ++ Bel n R k, rfl, same_upd (s3.trans s4) np, by rw [upd_ne nlpo]; exact s4 _ _ hl3, by rw [upd_same, nL_app], by rw [List.length_append]; omega, fun j hj => ?_, fun m hm => ?_⟩
            · rw [List.mem_append, mem j hj, mem_Bel, tk]
              constructor
              · rintro (⟨u, hu, d, r⟩ | ⟨_, r⟩)
                · exact ⟨u, List.mem_append_left _ hu, d, r⟩
                · exact ⟨k, List.mem_append_right _ List.mem_cons_self, ne, r⟩
              · rintro ⟨u, hu, d, r⟩
                rcases List.mem_append.mp hu with hu | hu
                · exact .inl ⟨u, hu, d, r⟩
                · rw [List.mem_singleton.mp hu] at r
                  exact .inr ⟨hj, r⟩
            · rw [tk] at hm
              rcases List.mem_append.mp hm with hm | hm
              · exact good m hm
              · rw [List.mem_singleton.mp hm]
                exact fun _ _ => dlt
        · have kp : k ∈ pl := by simpa using hnp
          exact stay (.inr kp)
      · have e : at_ S k = at_ D k := by
          rcases Classical.em (at_ S k = at_ D k) with e | e
          · exact e
          · exfalso
            apply heq
            have e2 : decide (V.int (at_ S k) = V.int (at_ D k)) = false := decide_eq_false fun z => e (by injection z)
            rw [e2]; rfl
        exact stay (.inl e)
    · rintro σ H3 ⟨v, pl, rfl, s3, hl3, hp3, lp, mem, good⟩
      rw [nL_len, List.take_length] at good
      refine q true H3 ⟨fun _ k hk d top => ?_, fun _ => rfl⟩ s3
      exact good k (ord_all hR hk) d top
abbrev s_is_reachable : Stmt := top 13
theorem sc_is_reachable : FnScope ["house", "source", "target"] ["house", "source", "target"] (defScope s_is_reachable) := ⟨rfl, rfl, rfl, by decide +kernel, rfl, by decide +kernel, by decide +kernel⟩
-- slots of is_reachable: 0 house, 1 source, 2 target
def spIsReachable (C : Addr) : Sp := spReaches C
theorem ok_is_reachable (T : Txt K mg C) {f : Addr} {fd : FuncData} (F : Fun K "is_reachable" "is_reachable" s_is_reachable f fd) (c_check_state : Cal P w K mg base "check_state" 4 (spCheckState C)) (c_reaches : Cal P w K mg base "reaches" 6 (spReaches C)) : FnOk P w K mg base CX0 7 f fd ["house", "source", "target"] (spReaches C) := by
  refine F.ok sc_is_reachable (fun vs H Q E h => ?_) (fun cdv A outer s H vs Q E hr h => ?_)
  · obtain ⟨x, a, b, n, h, R, S, D, rfl, _⟩ := h; rfl
  · obtain ⟨x, a, b, n, h, R, S, D, rfl, hx, n16, hR, hT, ha, hb, hS, hD, q⟩ := h
    refine ⟨_, (pss_cons (ps_expr (pe_cal c_check_state (hr.mono (by decide)) (pa_cons (pv 0) (pa_cons (pv 1) pa_nil))))
      (pss_cons (ps_expr (pe_cal c_check_state (hr.mono (by decide)) (pa_cons (pv 0) (pa_cons (pv 2) pa_nil))))
      (pss_one (ps_ret (pe_cal c_reaches (hr.mono (by decide)) (pa_cons (pv 0) (pa_cons (pv 1) (pa_cons (pv 2) pa_nil)))))))), ?_⟩
    refine ⟨_, rfl, _, rfl, x, a, n, h, R, S, rfl, hx, n16, ha, hS, fun H1 s1 => ?_⟩
    refine ⟨_, rfl, _, rfl, x, b, n, h, R, D, rfl, hx.same s1, n16, s1 _ _ hb, hD, fun H2 s2 => ?_⟩
    have s12 := s1.trans s2
    exact ⟨_, rfl, _, rfl, _, rfl, x, a, b, n, h, R, S, D, rfl, hx.same s12, n16, hR, hT, s12 _ _ ha, s12 _ _ hb, hS, hD, fun r H3 e s3 => q r H3 e (s12.trans s3)⟩
end
end Hue

end
section
set_option maxRecDepth 100000
namespace Hue
open PySem PySem.Spec PyProof.Rows L2
section
variable {P : Program} {w : World} {K : PySem.W.Frag} {mg : Str → Option Value} {base : Heap} {C : Addr}
/-! ### the law's draws -/
/-- the pool of draws at p -/
def Pool (H : Hp) (p l : Addr) : Prop := ∃ (ns : List Int) (i1 : Nat) (i2 i3 i4 : Int), l ≠ p ∧ H l = some (.lst (ns.map V.int)) ∧ H p = some (.lst [.ref l, .int i1, .int i2, .int i3, .int i4]) ∧ 0 ≤ i2
abbrev s__law_pool : Stmt := top 27
theorem sc__law_pool : FnScope ["script"] ["script"] (defScope s__law_pool) := ⟨rfl, rfl, rfl, by decide +kernel, rfl, by decide +kernel, by decide +kernel⟩
-- slots of _law_pool: 0 script
def spPool (K : PySem.W.Frag) : Sp := fun vs H Q _ => ∃ (a : Addr) (ns : List Int), vs = [.ref a] ∧ SqL K H a (ns.map V.int) ∧ ∀ (H' : Hp) (p l : Addr), Same H H' → H p = Option.none → Pool H' p l → Q (.ref p) H'
theorem ok__law_pool (T : Txt K mg C) {f : Addr} {fd : FuncData} (F : Fun K "_law_pool" "_law_pool" s__law_pool f fd) : FnOk P w K mg base CX0 1 f fd ["script"] (spPool K) := by
  refine F.ok sc__law_pool (fun vs H Q E h => ?_) (fun cdv A outer s H vs Q E hr h => ?_)
  · obtain ⟨a, ns, rfl, _⟩ := h; rfl
  · obtain ⟨a, ns, rfl, ha, q⟩ := h
    refine ⟨_, (pss_one (ps_ret (pe_lst (pa_cons (pe_callTy (lstOf_ K) (by rfl) T.list b_list (pa_cons (pv 0) pa_nil)) (pa_cons pe_int (pa_cons pe_int (pa_cons pe_int (pa_cons pe_int pa_nil)))))))), ?_⟩
    refine ⟨_, rfl, a, _, rfl, .inl ha, fun l nl => ⟨by show 5 ≤ sizeLine; decide, fun p np => ?_⟩⟩
    have nlp : l ≠ p := fun z => by
      rw [← z, upd_same] at np; cases np
    refine q _ p l ((same_new nl).trans (same_new np)) ((same_new nl).free np) ⟨ns, 0, 0, 94207, 0, nlp, by rw [upd_ne nlp, upd_same], by rw [upd_same]; rfl, Int.le_refl 0⟩
abbrev s__law_draw : Stmt := top 28
theorem sc__law_draw : FnScope ["pool", "many", "cell", "digit", "mixed"] ["pool", "many"] (defScope s__law_draw) := ⟨rfl, rfl, rfl, by decide +kernel, rfl, by decide +kernel, by decide +kernel⟩
-- slots of _law_draw: 0 pool, 1 many, 2 cell, 3 digit, 4 mixed
def spDraw : Sp := fun vs H Q _ => ∃ (p l : Addr) (m : Nat), vs = [.ref p, .int m] ∧ 1 ≤ m ∧ m < 1000000 ∧ Pool H p l ∧ ∀ (d : Nat) (H' : Hp), d < m → SB p H H' → Pool H' p l → Q (.int d) H'
theorem mod_nat {i : Int} {m : Nat} (hm : 1 ≤ m) : ∃ d : Nat, d < m ∧ i % (m : Int) = (d : Int) := by
  have h1 := Int.emod_nonneg i (by omega : (m : Int) ≠ 0)
  have h2 := Int.emod_lt_of_pos i (by omega : (0 : Int) < m)
  exact ⟨(i % (m : Int)).toNat, by omega, by omega⟩
theorem ok__law_draw (T : Txt K mg C) {f : Addr} {fd : FuncData} (F : Fun K "_law_draw" "_law_draw" s__law_draw f fd) : FnOk P w K mg base CX0 1 f fd ["pool", "many"] spDraw := by
  refine F.ok sc__law_draw (fun vs H Q E h => ?_) (fun cdv A outer s H vs Q E hr h => ?_)
  · obtain ⟨p, l, m, rfl, _⟩ := h; rfl
  · obtain ⟨p, l, m, rfl, m1, m2, ⟨ns, i1, i2, i3, i4, nlp, hl, hp, n2⟩, q⟩ := h
    refine ⟨_, (pss_cons (ps_asg (pe_op op_add (pe_ix (ixL_ K) (pv 0) pe_int (fun _ _ => rfl)) pe_int) (pg_sub (pv 0) pe_int set_list))
      (C8.pss_cut (ps_if (PW.pt (pw_and (pt_cmpR op_eq (pe_ix (ixL_ K) (pv 0) pe_int (fun _ _ => rfl)) pe_int (nomark _)) (pw_and1 (pt_cmpR op_lt (pe_ix (ixL_ K) (pv 0) pe_int (fun _ _ => rfl)) (pe_callB (lenS_ K) (by rfl) T.len b_len (pa_cons (pe_ix (ixL_ K) (pv 0) pe_int (fun _ _ => rfl)) pa_nil)) (nomark _)))))
      (pss_cons (ps_set (i := 2) sc__law_draw.nd rfl (by first | exact Or.inl rfl | exact Or.inr rfl) (pe_callTy call_int1 (by rfl) T.int b_int (pa_cons (pe_ix (ixL_ K) (pe_ix (ixL_ K) (pv 0) pe_int (fun _ _ => rfl)) (pe_ix (ixL_ K) (pv 0) pe_int (fun _ _ => rfl)) (fun _ _ => rfl)) pa_nil)))
      (pss_cons (ps_asg (pe_op op_add (pe_ix (ixL_ K) (pv 0) pe_int (fun _ _ => rfl)) pe_int) (pg_sub (pv 0) pe_int set_list))
      (pss_one (ps_if (pt_cmpR op_ge (pe_callB call_abs (by rfl) T.abs b_abs (pa_cons (pv 2) pa_nil)) (pe_op op_pow pe_int pe_int) (nomark _))
      (pss_one (ps_asg (pe_callB call_abs (by rfl) T.abs b_abs (pa_cons (pv 2) pa_nil)) (pg_sub (pv 0) pe_int set_list))) (pss_one (ps_asg (pe_op op_mod (pe_callTy call_int1 (by rfl) T.int b_int (pa_cons (pe_op op_add (pe_op op_add (pe_op op_mul (pe_ix (ixL_ K) (pv 0) pe_int (fun _ _ => rfl)) pe_int) (pe_op op_mul (pv 2) pe_int)) pe_int) pa_nil)) pe_int) (pg_sub (pv 0) pe_int set_list))))))) pss_nil)
      (pss_cons (ps_if (pt_cmpR op_gt (pe_ix (ixL_ K) (pv 0) pe_int (fun _ _ => rfl)) pe_int (nomark _))
      (pss_cons (ps_set (i := 3) sc__law_draw.nd rfl (by first | exact Or.inl rfl | exact Or.inr rfl) (pe_op op_mod (pe_callTy call_int1 (by rfl) T.int b_int (pa_cons (pe_ix (ixL_ K) (pv 0) pe_int (fun _ _ => rfl)) pa_nil)) (pv 1)))
      (pss_cons (ps_asg (pe_op op_fdiv (pe_ix (ixL_ K) (pv 0) pe_int (fun _ _ => rfl)) (pv 1)) (pg_sub (pv 0) pe_int set_list))
      (pss_one (ps_ret (pv 3))))) pss_nil)
      (pss_cons (ps_asg (pe_op op_mod (pe_callTy call_int1 (by rfl) T.int b_int (pa_cons (pe_op op_add (pe_op op_add (pe_op op_mul (pe_ix (ixL_ K) (pv 0) pe_int (fun _ _ => rfl)) pe_int) (pe_op op_mul (pe_ix (ixL_ K) (pv 0) pe_int (fun _ _ => rfl)) pe_int)) pe_int) pa_nil)) pe_int) (pg_sub (pv 0) pe_int set_list))
      (pss_cons (ps_set (i := 4) sc__law_draw.nd rfl (by first | exact Or.inl rfl | exact Or.inr rfl) (pe_op op_mod (pe_callTy call_int1 (by rfl) T.int b_int (pa_cons (pe_op op_add (pe_op op_mul (pe_ix (ixL_ K) (pv 0) pe_int (fun _ _ => rfl)) pe_int) (pe_op op_mul (pe_op op_fdiv (pe_ix (ixL_ K) (pv 0) pe_int (fun _ _ => rfl)) pe_int) pe_int)) pa_nil)) pe_int))
      (pss_one (ps_ret (pe_op op_mod (pe_op op_fdiv (pv 4) pe_int) (pv 1))))))))), ?_⟩
    -- pool[4] = pool[4] + 1
    refine ⟨_, rfl, p, _, _, _, rfl, rfl, SqL.of hp, rfl, _, _, rfl, rfl, _, rfl, set_at hp rfl fun H1 s1 h1 => ?_⟩
    have hl1 := s1 _ _ nlp hl
    -- the word between
    refine ⟨fun σ H2 => ∃ v2 v3 v4 : Option V, σ = [some (.ref p), some (.int m), v2, v3, v4] ∧ SB p H H2 ∧ ∃ (i1 : Nat) (i2 i3 i4 : Int), H2 p = some (.lst [.ref l, .int i1, .int i2, .int i3, .int i4]) ∧ 0 ≤ i2, ?_, ?_⟩
    · refine ⟨_, rfl, p, _, _, _, rfl, rfl, SqL.of h1, rfl, rfl, _, rfl, ?_⟩
      refine ite2 (fun hz => ?_) (fun hz => iteF ⟨_, _, _, rfl, s1, _, _, _, _, h1, n2⟩)
      refine ⟨_, rfl, p, _, _, _, rfl, rfl, SqL.of h1, rfl, _, rfl, p, _, _, _, rfl, rfl, SqL.of h1, rfl, l, _, rfl, .inl (SqL.of hl1), _, _, rfl, rfl, _, rfl, ?_⟩
      refine ite2 (fun hlt => ?_) (fun hlt => ⟨_, _, _, rfl, s1, _, _, _, _, h1, n2⟩)
      have ilt : i1 < ns.length := by
        have z := of_decide_eq_true hlt
        rw [List.length_map] at z
        omega
      have hcell : (ns.map V.int)[i1]? = some (V.int ns[i1]) := by rw [List.getElem?_map, List.getElem?_eq_getElem ilt]; rfl
      generalize ns[i1] = c at hcell
      refine ⟨_, rfl, p, _, _, _, rfl, rfl, SqL.of h1, rfl, _, rfl, p, _, _, _, rfl, rfl, SqL.of h1, rfl, l, _, _, _, rfl, rfl, SqL.of hl1, atI_nat hcell, .inl ⟨_, rfl, ?_⟩⟩
      refine ⟨_, rfl, p, _, _, _, rfl, rfl, SqL.of h1, rfl, _, _, rfl, rfl, _, rfl, set_at h1 rfl fun H2 s2 h2 => ?_⟩
      have e1 : ((i1 : Nat) : Int) + 1 = ((i1 + 1 : Nat) : Int) := by omega
      have h2' : H2 p = some (.lst [.ref l, .int ((i1 + 1 : Nat) : Int), .int i2, .int i3, .int (i4 + 1)]) := by rw [← e1]; exact h2
      refine ⟨_, rfl, _, rfl, _, _, rfl, rfl, ⟨by decide, by decide, by decide⟩, _, _, rfl, rfl, _, rfl, ?_⟩
      refine ite2 (fun hbig => ?_) (fun hsm => ?_)
      · refine ⟨_, rfl, _, rfl, _, rfl, set_at h2' rfl fun H3 s3 h3 => ⟨_, _, _, rfl, (s1.trans s2).trans s3, _, _, _, _, h3, ?_⟩⟩
        split <;> omega
      · refine ⟨_, rfl, p, _, _, _, rfl, rfl, SqL.of h2', rfl, _, _, rfl, rfl, .inr ⟨by decide, by decide⟩, _, rfl, _, _, rfl, rfl, .inr ⟨by decide, by decide⟩, _, _, rfl, rfl, _, _, rfl, rfl, .inl ⟨_, rfl, _, _, rfl, rfl, (by show (0 : Int) < 2147483647; decide), _, rfl, set_at h2' rfl fun H3 s3 h3 => ⟨_, _, _, rfl, (s1.trans s2).trans s3, _, _, _, _, h3, n2⟩⟩⟩
    · rintro σ H2 ⟨v2, v3, v4, rfl, s2, j1, j2, j3, j4, h2, n2⟩
      have hl2 := s2 _ _ nlp hl
      refine ⟨_, rfl, p, _, _, _, rfl, rfl, SqL.of h2, rfl, _, _, rfl, rfl, _, rfl, ?_⟩
      refine ite2 (fun hpos => ?_) (fun hz => ?_)
      · obtain ⟨d, hd, ed⟩ := mod_nat (i := j2) m1
        refine ⟨_, rfl, p, _, _, _, rfl, rfl, SqL.of h2, rfl, .inl ⟨_, rfl, _, rfl, _, _, rfl, rfl, by omega, ?_⟩⟩
        refine ⟨_, rfl, p, _, _, _, rfl, rfl, SqL.of h2, rfl, _, rfl, _, _, rfl, rfl, ⟨by omega, by omega⟩, _, rfl, set_at h2 rfl fun H3 s3 h3 => ?_⟩
        refine ⟨_, rfl, ?_⟩
        show Q (V.int (j2 % (m : Int))) H3
        rw [ed]
        exact q d H3 hd (s2.trans s3) ⟨ns, j1, j2 / (m : Int), j3, j4, nlp, s3 _ _ nlp hl2, h3, Int.ediv_nonneg n2 (by omega)⟩
      · refine ⟨_, rfl, p, _, _, _, rfl, rfl, SqL.of h2, rfl, _, _, rfl, rfl, .inr ⟨by decide, by decide⟩, _, rfl, p, _, _, _, rfl, rfl, SqL.of h2, rfl, _, _, rfl, rfl, .inr ⟨by decide, by decide⟩, _, _, rfl, rfl, _, _, rfl, rfl, .inl ⟨_, rfl, _, _, rfl, rfl, (by show (0 : Int) < 2147483647; decide), _, rfl, set_at h2 rfl fun H3 s3 h3 => ?_⟩⟩
        have s23 := s2.trans s3
        have key : ∀ i : Int, Q (V.int (i % (m : Int))) H3 := fun i => by
          obtain ⟨d, hd, ed⟩ := mod_nat (i := i) m1
          rw [ed]
          exact q d H3 hd s23 ⟨ns, j1, j2, _, j4, nlp, s3 _ _ nlp hl2, h3, n2⟩
        refine ⟨_, rfl, p, _, _, _, rfl, rfl, SqL.of h3, rfl, _, _, rfl, rfl, .inr ⟨by decide, by decide⟩, _, rfl, p, _, _, _, rfl, rfl, SqL.of h3, rfl, _, _, rfl, rfl, ⟨by decide, by decide⟩, _, _, rfl, rfl, .inr ⟨by decide, by decide⟩, _, _, rfl, rfl, .inl ⟨_, rfl, _, _, rfl, rfl, (by show (0 : Int) < 2147483399; decide), ?_⟩⟩
        exact ⟨_, rfl, _, _, rfl, rfl, ⟨by decide, by decide⟩, _, rfl, _, _, rfl, rfl, (by show (0 : Int) < (m : Int); omega), key _⟩
end
end Hue

end
section
set_option maxRecDepth 100000
namespace Hue
open PySem PySem.Spec PyProof.Rows L2
section
variable {P : Program} {w : World} {K : PySem.W.Frag} {mg : Str → Option Value} {base : Heap} {C : Addr}
theorem Pool.same {H H' : Hp} {p l : Addr} (h : Pool H p l) (s : Same H H') : Pool H' p l := by
  obtain ⟨ns, i1, i2, i3, i4, a, b, c, d⟩ := h
  exact ⟨ns, i1, i2, i3, i4, a, s _ _ b, s _ _ c, d⟩
/-- no list of numbers is the pool -/
theorem Pool.upd {H : Hp} {p l a : Addr} {o : HO} (h : Pool H p l) (n1 : a ≠ p) (n2 : a ≠ l) : Pool (upd H a o) p l := by
  obtain ⟨ns, i1, i2, i3, i4, x, b, c, d⟩ := h
  exact ⟨ns, i1, i2, i3, i4, x, by rw [upd_ne n2.symm]; exact b, by rw [upd_ne n1.symm]; exact c, d⟩
theorem Pool.new {H : Hp} {p l a : Addr} (h : Pool H p l) (n : H a = Option.none) : a ≠ p ∧ a ≠ l := by
  obtain ⟨ns, i1, i2, i3, i4, x, b, c, d⟩ := h
  exact ⟨(ne_of_none c n).symm, (ne_of_none b n).symm⟩
theorem Pool.ne {H : Hp} {p q a : Addr} {xs : List V} (h : Pool H p q) (ha : H a = some (.lst xs)) (hx : ∀ l r, xs ≠ V.ref l :: V.int r :: xs.drop 2) : a ≠ p := by
  obtain ⟨ns, i1, i2, i3, i4, _, b, c, d⟩ := h
  intro z
  rw [z, c] at ha
  injection ha with ha
  injection ha with ha
  exact hx q i1 (by rw [← ha]; rfl)
theorem Pool.neN {H : Hp} {p q a : Addr} {l : List Nat} (h : Pool H p q) (ha : H a = some (.lst (nL l))) : a ≠ p :=
  h.ne ha fun x r z => by
    cases l with
    | nil => cases z
    | cons k l => injection z with z; cases z
/-! ### the sizes -/
def SmallOk (n h : Nat) : Prop := (1 ≤ n ∧ n ≤ 8) ∧ (2 ≤ h ∧ h ≤ 10) ∧ h ^ n ≤ 256
instance (n h : Nat) : Decidable (SmallOk n h) := by unfold SmallOk; infer_instance
def tabV (tab : List Nat) : List V := tab.map fun k : Nat => V.int (k : Int)
theorem tab_get {tab : List Nat} {d : Nat} (h : d < tab.length) : (tabV tab)[d]? = some (V.int (tab.getD d 0 : Nat)) := by
  unfold tabV
  rw [List.getElem?_map, List.getElem?_eq_getElem h, List.getD_eq_getElem?_getD, List.getElem?_eq_getElem h]
  rfl
theorem tabs1 : ∀ d, d < 6 → 1 ≤ [5, 3, 2, 1, 1, 1].getD d 0 ∧ [5, 3, 2, 1, 1, 1].getD d 0 < 100 ∧ ∀ e, e < [5, 3, 2, 1, 1, 1].getD d 0 → SmallOk (3 + d) (2 + e) := by decide +kernel
theorem tabs2 : ∀ d, d < 10 → 1 ≤ [1, 2, 3, 4, 5, 6, 3, 4, 5, 6].getD d 0 ∧ [1, 2, 3, 4, 5, 6, 3, 4, 5, 6].getD d 0 ≤ 6 := by decide +kernel
theorem tabs3 : ∀ d, d < 6 → 1 ≤ [9, 8, 3, 2, 1, 1].getD d 0 ∧ [9, 8, 3, 2, 1, 1].getD d 0 < 100 ∧ ∀ e, e < [9, 8, 3, 2, 1, 1].getD d 0 → SmallOk (1 + d) (2 + e) := by decide +kernel
abbrev s__law_small : Stmt := top 29
theorem sc__law_small : FnScope ["pool", "count"] ["pool"] (defScope s__law_small) := ⟨rfl, rfl, rfl, by decide +kernel, rfl, by decide +kernel, by decide +kernel⟩
-- slots of _law_small: 0 pool, 1 count
def spSmall : Sp := fun vs H Q _ => ∃ p q, vs = [.ref p] ∧ Pool H p q ∧ ∀ (n h : Nat) (t : Addr) (H' : Hp), SmallOk n h → SB p H H' → Pool H' p q → H' t = some (.tup [.int n, .int h]) → Q (.ref t) H'
theorem ok__law_small (T : Txt K mg C) {f : Addr} {fd : FuncData} (F : Fun K "_law_small" "_law_small" s__law_small f fd) (c__law_draw : Cal P w K mg base "_law_draw" 1 spDraw) : FnOk P w K mg base CX0 2 f fd ["pool"] spSmall := by
  refine F.ok sc__law_small (fun vs H Q E h => ?_) (fun cdv A outer s H vs Q E hr h => ?_)
  · obtain ⟨p, pq, rfl, _⟩ := h; rfl
  · obtain ⟨p, pq, rfl, hp, q⟩ := h
    refine ⟨_, (pss_cons (ps_if (pt_cmpR op_eq (pe_cal c__law_draw (hr.mono (by decide)) (pa_cons (pv 0) (pa_cons pe_int pa_nil))) pe_int (nomark _))
      (pss_cons (ps_set (i := 1) sc__law_small.nd rfl (by first | exact Or.inl rfl | exact Or.inr rfl) (pe_op op_add pe_int (pe_cal c__law_draw (hr.mono (by decide)) (pa_cons (pv 0) (pa_cons pe_int pa_nil)))))
      (pss_one (ps_ret (pe_tup (pa_cons (pv 1) (pa_cons (pe_op op_add pe_int (pe_cal c__law_draw (hr.mono (by decide)) (pa_cons (pv 0) (pa_cons (pe_ix (ixL_ K) (pe_lst (pa_cons pe_int (pa_cons pe_int (pa_cons pe_int (pa_cons pe_int (pa_cons pe_int (pa_cons pe_int pa_nil))))))) (pe_op op_sub (pv 1) pe_int) (fun _ _ => rfl)) pa_nil)))) pa_nil)))))) pss_nil)
      (pss_cons (ps_set (i := 1) sc__law_small.nd rfl (by first | exact Or.inl rfl | exact Or.inr rfl) (pe_ix (ixL_ K) (pe_lst (pa_cons pe_int (pa_cons pe_int (pa_cons pe_int (pa_cons pe_int (pa_cons pe_int (pa_cons pe_int (pa_cons pe_int (pa_cons pe_int (pa_cons pe_int (pa_cons pe_int pa_nil))))))))))) (pe_cal c__law_draw (hr.mono (by decide)) (pa_cons (pv 0) (pa_cons pe_int pa_nil))) (fun _ _ => rfl)))
      (pss_one (ps_ret (pe_tup (pa_cons (pv 1) (pa_cons (pe_op op_add pe_int (pe_cal c__law_draw (hr.mono (by decide)) (pa_cons (pv 0) (pa_cons (pe_ix (ixL_ K) (pe_lst (pa_cons pe_int (pa_cons pe_int (pa_cons pe_int (pa_cons pe_int (pa_cons pe_int (pa_cons pe_int pa_nil))))))) (pe_op op_sub (pv 1) pe_int) (fun _ _ => rfl)) pa_nil)))) pa_nil))))))), ?_⟩
    refine ⟨_, rfl, p, pq, 3, rfl, by decide, by decide, hp, fun d0 H1 _ s1 p1 => ⟨rfl, _, rfl, ?_⟩⟩
    refine ite2 (fun _ => ?_) (fun _ => ?_)
    · refine ⟨_, rfl, p, pq, 6, rfl, by decide, by decide, p1, fun d H2 hd s2 p2 => ⟨_, _, rfl, rfl, ?_⟩⟩
      obtain ⟨t1, t2, t3⟩ := tabs1 d hd
      refine ⟨_, rfl, _, rfl, by show 6 ≤ sizeLine; decide, fun l nl => ?_⟩
      have s3 : Same H2 (upd H2 l (.lst (tabV [5, 3, 2, 1, 1, 1]))) := same_new nl
      refine ⟨_, rfl, _, _, rfl, rfl, l, tabV [5, 3, 2, 1, 1, 1], _, _, rfl, rfl, SqL.of upd_same, ?_, p, pq, [5, 3, 2, 1, 1, 1].getD d 0, rfl, t1, by omega, p2.same s3, fun e H4 he s4 p4 => ⟨_, _, rfl, rfl, by show 2 ≤ sizeLine; decide, fun t nt => ?_⟩⟩
      · rw [show (3 : Int) + (d : Int) - 3 = (d : Int) by omega]
        exact atI_nat (tab_get hd)
      · refine q (3 + d) (2 + e) t _ (t3 e he) ((((s1.trans s2).trans (SB.of s3)).trans s4).trans (SB.of (same_new nt))) (p4.same (same_new nt)) ?_
        rw [upd_same]
        have e1 : ((3 + d : Nat) : Int) = 3 + (d : Int) := by omega
        have e2 : ((2 + e : Nat) : Int) = 2 + (e : Int) := by omega
        rw [e1, e2]
    · refine ⟨by show 10 ≤ sizeLine; decide, fun l nl => ?_⟩
      have s2 : Same H1 (upd H1 l (.lst (tabV [1, 2, 3, 4, 5, 6, 3, 4, 5, 6]))) := same_new nl
      refine ⟨_, rfl, p, pq, 10, rfl, by decide, by decide, p1.same s2, fun d H2 hd s3 p3 => ?_⟩
      have nlp : l ≠ p := (p1.new nl).1
      have hl2 : H2 l = some (.lst (tabV [1, 2, 3, 4, 5, 6, 3, 4, 5, 6])) := s3 _ _ nlp upd_same
      refine ⟨l, tabV [1, 2, 3, 4, 5, 6, 3, 4, 5, 6], _, _, rfl, rfl, SqL.of hl2, atI_nat (tab_get hd), ?_⟩
      obtain ⟨c1, c2⟩ := tabs2 d hd
      generalize [1, 2, 3, 4, 5, 6, 3, 4, 5, 6].getD d 0 = c at c1 c2 ⊢
      obtain ⟨t1, t2, t3⟩ := tabs3 (c - 1) (by omega)
      refine ⟨_, rfl, _, rfl, by show 6 ≤ sizeLine; decide, fun l2 nl2 => ?_⟩
      have s4 : Same H2 (upd H2 l2 (.lst (tabV [9, 8, 3, 2, 1, 1]))) := same_new nl2
      refine ⟨_, rfl, _, _, rfl, rfl, l2, tabV [9, 8, 3, 2, 1, 1], _, _, rfl, rfl, SqL.of upd_same, ?_, p, pq, [9, 8, 3, 2, 1, 1].getD (c - 1) 0, rfl, t1, by omega, p3.same s4, fun e H4 he s5 p5 => ⟨_, _, rfl, rfl, by show 2 ≤ sizeLine; decide, fun t nt => ?_⟩⟩
      · rw [show (c : Int) - 1 = ((c - 1 : Nat) : Int) by omega]
        exact atI_nat (tab_get (show c - 1 < 6 by omega))
      · have ok := t3 e he
        rw [show 1 + (c - 1) = c by omega] at ok
        refine q c (2 + e) t _ ok (((((s1.trans (SB.of s2)).trans s3).trans (SB.of s4)).trans s5).trans (SB.of (same_new nt))) (p5.same (same_new nt)) ?_
        rw [upd_same]
        have e2 : ((2 + e : Nat) : Int) = 2 + (e : Int) := by omega
        rw [e2]
theorem cons_erase {α : Type} : ∀ {l : List α} {j : Nat} {y : α}, l[j]? = some y → (y :: l.eraseIdx j).Perm l
  | [], j, y, h => by simp at h
  | a :: l, 0, y, h => by
    have e : a = y := by simpa using h
    rw [e]; exact List.Perm.refl _
  | a :: l, j + 1, y, h => by
    have ih := cons_erase (l := l) (j := j) (y := y) (by simpa using h)
    show (y :: a :: l.eraseIdx j).Perm (a :: l)
    exact (List.Perm.swap a y _).trans (ih.cons a)
/-! ### the line of the lamps -/
abbrev s__law_line : Stmt := top 30
theorem sc__law_line : FnScope ["pool", "count", "rest", "line", "k"] ["pool", "count"] (defScope s__law_line) := ⟨rfl, rfl, rfl, by decide +kernel, rfl, by decide +kernel, by decide +kernel⟩
-- slots of _law_line: 0 pool, 1 count, 2 rest, 3 line, 4 k
def LineOk (n : Nat) (line : List Nat) : Prop := line.length = n ∧ line.Nodup ∧ ∀ k ∈ line, k < n
def spLine : Sp := fun vs H Q _ => ∃ (p pq : Addr) (n : Nat), vs = [.ref p, .int n] ∧ n ≤ 16 ∧ Pool H p pq ∧ ∀ (line : List Nat) (t : Addr) (H' : Hp), LineOk n line → SB p H H' → Pool H' p pq → H' t = some (.lst (nL line)) → Q (.ref t) H'
theorem ok__law_line (T : Txt K mg C) {f : Addr} {fd : FuncData} (F : Fun K "_law_line" "_law_line" s__law_line f fd) (c__law_draw : Cal P w K mg base "_law_draw" 1 spDraw) : FnOk P w K mg base CX0 2 f fd ["pool", "count"] spLine := by
  refine F.ok sc__law_line (fun vs H Q E h => ?_) (fun cdv A outer s H vs Q E hr h => ?_)
  · obtain ⟨p, pq, n, rfl, _⟩ := h; rfl
  · obtain ⟨p, pq, n, rfl, n16, hp, q⟩ := h
    refine ⟨_, (pss_cons (ps_set (i := 2) sc__law_line.nd rfl (by first | exact Or.inl rfl | exact Or.inr rfl) (pe_listRg rfl (by rfl) T.list (prg_1 (by rfl) T.range (pv 1))))
      (pss_cons (ps_set (i := 3) sc__law_line.nd rfl (by first | exact Or.inl rfl | exact Or.inr rfl) (pe_lst pa_nil))
      (pss_cons (ps_for PassesOwn.never rfl (pi_range1 (by rfl) T.range (pa_cons (pv 1) pa_nil)) (pg_name (i := 4) sc__law_line.nd rfl (by first | exact Or.inl rfl | exact Or.inr rfl))
      (pss_one (ps_expr (pe_bm PySem.F.plainAttrs_list PySem.F.slot_list_append PySem.F.type_list_append mt_append (pv 3) (pa_cons (pe_bm PySem.F.plainAttrs_list PySem.F.slot_list_pop PySem.F.type_list_pop mt_popAt (pv 2) (pa_cons (pe_cal c__law_draw (hr.mono (by decide)) (pa_cons (pv 0) (pa_cons (pe_callB (lenS_ K) (by rfl) T.len b_len (pa_cons (pv 2) pa_nil)) pa_nil))) pa_nil)) pa_nil)))))
      (pss_one (ps_ret (pv 3)))))), ?_⟩
    refine ⟨_, rfl, _, rfl, rgOk n (by omega), fun r nr => ?_⟩
    rw [rgV_nL]
    have s1 : Same H (upd H r (.lst (nL (List.range n)))) := same_new nr
    have hr1 : (upd H r (.lst (nL (List.range n)))) r = some (.lst (nL (List.range n))) := upd_same
    have p1 := hp.same s1
    generalize upd H r (.lst (nL (List.range n))) = H1 at s1 hr1 p1 ⊢
    refine ⟨by decide, fun ln nln => ?_⟩
    have s2 : Same H1 (upd H1 ln (.lst [])) := same_new nln
    have hl2 : (upd H1 ln (.lst [])) ln = some (.lst (nL [])) := upd_same
    have nrl : r ≠ ln := ne_of_none hr1 nln
    have hr2 := s2 _ _ hr1
    have p2 := p1.same s2
    have sb2 : SB p H (upd H1 ln (.lst [])) := SB.of (s1.trans s2)
    have hr0 : H r = Option.none := nr
    have hln0 : H ln = Option.none := s1.free nln
    have nrq := (hp.new nr).2
    have nlq := (p1.new nln).2
    generalize upd H1 ln (.lst []) = H2 at s2 hl2 hr2 p2 sb2 ⊢
    refine ⟨_, rfl, _, rfl, by omega, by omega, ?_⟩
    rw [Int.toNat_natCast]
    refine for_range (fun i σ H3 => ∃ (v : Option V) (rs line : List Nat), σ = [some (.ref p), some (.int n), some (.ref r), some (.ref ln), v] ∧ SB p H H3 ∧ Pool H3 p pq ∧ H3 r = some (.lst (nL rs)) ∧ H3 ln = some (.lst (nL line)) ∧ line.length = i ∧ rs.length = n - i ∧ (rs ++ line).Perm (List.range n))
      ⟨_, List.range n, [], rfl, sb2, p2, hr2, hl2, rfl, by rw [List.length_range]; omega, by rw [List.append_nil]⟩ ?_ ?_
    · rintro i σ H3 hi ⟨v, rs, line, rfl, sb3, p3, hr3, hl3, ll, lr, perm⟩
      have nrp := p3.neN hr3
      have nlp := p3.neN hl3
      refine ⟨_, rfl, .inl ⟨rfl, _, SqL.of hl3⟩, _, rfl, .inl ⟨rfl, _, SqL.of hr3⟩, _, rfl, _, rfl, r, _, rfl, .inl (SqL.of hr3), p, pq, rs.length, by rw [nL_len], by omega, by omega, p3, fun d H4 hd s4 p4 => ?_⟩
      have hr4 := s4 _ _ nrp hr3
      have hl4 := s4 _ _ nlp hl3
      obtain ⟨y, hy⟩ : ∃ y, rs[d]? = some y := ⟨_, List.getElem?_eq_getElem hd⟩
      obtain ⟨j, e1, e2, _, b1, b2⟩ := atI_get (atI_nat (nL_get hy))
      have ej : ∃ z, rs[j]? = some z ∧ (z : Int) = (y : Int) := by
        unfold nL nI at e2
        rw [List.map_map, List.getElem?_map] at e2
        obtain ⟨z, hz, e⟩ := Option.map_eq_some_iff.mp e2
        exact ⟨z, hz, by injection e⟩
      obtain ⟨z, hz, ez⟩ := ej
      have ezy : z = y := by omega
      rw [ezy] at hz
      rw [nL_len] at b1 b2
      refine ⟨r, _, _, j, _, rfl, rfl, hr4, by omega, by omega, e1, e2, ?_⟩
      rw [nL_erase]
      have hl5 : (upd H4 r (.lst (nL (rs.eraseIdx j)))) ln = some (.lst (nL line)) := by rw [upd_ne nrl.symm]; exact hl4
      have sb5 : SB p H (upd H4 r (.lst (nL (rs.eraseIdx j)))) := fun b o nb e => by
        rw [upd_ne (ne_of_none e hr0)]; exact (sb3.trans s4) b o nb e
      have hr5 : (upd H4 r (.lst (nL (rs.eraseIdx j)))) r = some (.lst (nL (rs.eraseIdx j))) := upd_same
      have p5 : Pool (upd H4 r (.lst (nL (rs.eraseIdx j)))) p pq := p4.upd nrp nrq
      generalize upd H4 r (.lst (nL (rs.eraseIdx j))) = H5 at hl5 sb5 hr5 p5 ⊢
      refine ⟨ln, _, _, rfl, rfl, hl5, by rw [nL_len, sizeLine_eq]; omega, ?_⟩
      refine ⟨_, rs.eraseIdx j, line ++ [y], rfl, ?_, ?_, by rw [upd_ne nrl]; exact hr5, by rw [upd_same, nL_app]; rfl, by rw [List.length_append, ll]; rfl, ?_, ?_⟩
      · exact fun b o nb e => by rw [upd_ne (ne_of_none e hln0)]; exact sb5 b o nb e
      · exact p5.upd nlp nlq
      · have jl := (List.getElem?_eq_some_iff.mp hz).1
        rw [List.length_eraseIdx_of_lt jl, lr]; omega
      · refine List.Perm.trans ?_ perm
        have pe : (y :: rs.eraseIdx j).Perm rs := cons_erase hz
        refine List.Perm.trans ?_ (pe.append_right line)
        rw [← List.append_assoc]
        exact List.perm_append_singleton y _
    · rintro σ H3 ⟨v, rs, line, rfl, sb3, p3, hr3, hl3, ll, lr, perm⟩
      have e : rs = [] := List.eq_nil_of_length_eq_zero (by omega)
      rw [e, List.nil_append] at perm
      exact ⟨_, rfl, q line ln H3 ⟨ll, perm.nodup_iff.mpr List.nodup_range, fun k hk => List.mem_range.mp (perm.mem_iff.mp hk)⟩ sb3 p3 hl3⟩
end
end Hue

end
section
set_option maxRecDepth 100000
namespace Hue
open PySem PySem.Spec PyProof.Rows L2
section
variable {P : Program} {w : World} {K : PySem.W.Frag} {mg : Str → Option Value} {base : Heap} {C : Addr}
theorem Pairs.sb {H H' : Hp} {p : Addr} {xs : List V} {ts : List Addr} {ps : List (Nat × Nat)} (h : Pairs H ts ps) (hp : H p = some (.lst xs)) (s : SB p H H') : Pairs H' ts ps :=
  ⟨h.1, fun i t q a b => s _ _ (ne_of (h.2 i t q a b) hp (by intro z; cases z)) (h.2 i t q a b)⟩
theorem Pool.at {H : Hp} {p l : Addr} (h : Pool H p l) : ∃ xs, H p = some (.lst xs) := let ⟨_, _, _, _, _, _, _, c, _⟩ := h; ⟨_, c⟩
/-- the pairs lead down the line, all drawn before (lo, hi) -/
def DownI (line : List Nat) (lo hi : Nat) (ps : List (Nat × Nat)) : Prop := ∀ p ∈ ps, ∃ h l, h < l ∧ (l < lo ∨ (l = lo ∧ h < hi)) ∧ line[h]? = some p.1 ∧ line[l]? = some p.2
def Down (line : List Nat) (ps : List (Nat × Nat)) : Prop := ∀ p ∈ ps, ∃ h l : Nat, h < l ∧ line[h]? = some p.1 ∧ line[l]? = some p.2
def Tri : Nat → Nat
  | 0 => 0
  | k + 1 => Tri k + k
theorem tri8 : ∀ n, n ≤ 8 → Tri n < 63 := by decide
theorem nodup_at {l : List Nat} (nd : l.Nodup) {i j k : Nat} (h1 : l[i]? = some k) (h2 : l[j]? = some k) : i = j := by
  obtain ⟨a1, a2⟩ := List.getElem?_eq_some_iff.mp h1
  obtain ⟨b1, b2⟩ := List.getElem?_eq_some_iff.mp h2
  rcases Nat.lt_trichotomy i j with h | h | h
  · exact absurd (a2.trans b2.symm) (List.pairwise_iff_getElem.mp nd i j a1 b1 h)
  · exact h
  · exact absurd (b2.trans a2.symm) (List.pairwise_iff_getElem.mp nd j i b1 a1 h)
/-- the wires drawn so far -/
structure WInv (H0 H : Hp) (p pq wz : Addr) (line : List Nat) (lo hi : Nat) : Prop where
  sb : SB p H0 H
  pool : Pool H p pq
  ex : ∃ (ts : List Addr) (ps : List (Nat × Nat)), H wz = some (.lst (ts.map V.ref)) ∧ Pairs H ts ps ∧ DownI line lo hi ps ∧ ps.Nodup ∧ ps.length ≤ Tri lo + hi
theorem WInv.draw {H0 H H' : Hp} {p pq wz : Addr} {line : List Nat} {lo hi : Nat} (h : WInv H0 H p pq wz line lo hi) (nw : wz ≠ p) (s : SB p H H') (pool : Pool H' p pq) : WInv H0 H' p pq wz line lo hi := by
  obtain ⟨xs, hp⟩ := h.pool.at
  obtain ⟨ts, ps, a, b, c, d, e⟩ := h.ex
  exact ⟨h.sb.trans s, pool, ts, ps, s _ _ nw a, b.sb hp s, c, d, e⟩
theorem WInv.same {H0 H H' : Hp} {p pq wz : Addr} {line : List Nat} {lo hi : Nat} (h : WInv H0 H p pq wz line lo hi) (s : Same H H') : WInv H0 H' p pq wz line lo hi := by
  obtain ⟨ts, ps, a, b, c, d, e⟩ := h.ex
  exact ⟨h.sb.trans (SB.of s), h.pool.same s, ts, ps, s _ _ a, b.same s, c, d, e⟩
theorem Pairs.rev {H : Hp} {ts : List Addr} {ps : List (Nat × Nat)} (h : Pairs H ts ps) : Pairs H ts.reverse ps.reverse := by
  refine ⟨by rw [List.length_reverse, List.length_reverse, h.1], fun i t p ht hp => ?_⟩
  have l1 := (List.getElem?_eq_some_iff.mp ht).1
  rw [List.length_reverse] at l1
  rw [List.getElem?_reverse l1] at ht
  rw [List.getElem?_reverse (by rw [← h.1]; exact l1), ← h.1] at hp
  exact h.2 _ t p ht hp
theorem tabs4 : ∀ d, d < 5 → 1 ≤ [2, 2, 3, 3, 4].getD d 0 ∧ [2, 2, 3, 3, 4].getD d 0 < 1000000 := by decide +kernel
theorem WInv.next {H0 H : Hp} {p pq wz : Addr} {line : List Nat} {lo hi : Nat} (h : WInv H0 H p pq wz line lo hi) : WInv H0 H p pq wz line lo (hi + 1) := by
  obtain ⟨ts, ps, a, b, c, d, e⟩ := h.ex
  refine ⟨h.sb, h.pool, ts, ps, a, b, fun q hq => ?_, d, by omega⟩
  obtain ⟨x, y, h1, h2, h3⟩ := c q hq
  exact ⟨x, y, h1, by omega, h3⟩
theorem WInv.row {H0 H : Hp} {p pq wz : Addr} {line : List Nat} {lo : Nat} (h : WInv H0 H p pq wz line lo lo) : WInv H0 H p pq wz line (lo + 1) 0 := by
  obtain ⟨ts, ps, a, b, c, d, e⟩ := h.ex
  refine ⟨h.sb, h.pool, ts, ps, a, b, fun q hq => ?_, d, ?_⟩
  · obtain ⟨x, y, h1, h2, h3⟩ := c q hq
    exact ⟨x, y, h1, by omega, h3⟩
  · show ps.length ≤ Tri lo + lo + 0
    omega
/-- the word behind each row that may change hit -/
def WMid (H0 : Hp) (p pq a wz : Addr) (sh cut lo par hi : Nat) (line : List Nat) : L2.St → Hp → Prop := fun σ H7 => ∃ b : Bool,
  σ = [some (.ref p), some (.ref a), some (.int sh), some (.int cut), some (.ref wz), some (.int lo), some (.int par), some (.int hi), some (.bl b)] ∧ WInv H0 H7 p pq wz line lo hi
abbrev s__law_wires : Stmt := top 31
theorem sc__law_wires : FnScope ["pool", "line", "shape", "cut", "wires", "low", "parent", "high", "hit"] ["pool", "line"] (defScope s__law_wires) := ⟨rfl, rfl, rfl, by decide +kernel, rfl, by decide +kernel, by decide +kernel⟩
-- slots of _law_wires: 0 pool, 1 line, 2 shape, 3 cut, 4 wires, 5 low, 6 parent, 7 high, 8 hit
def spWires : Sp := fun vs H Q _ => ∃ (p pq a : Addr) (n : Nat) (line : List Nat), vs = [.ref p, .ref a] ∧ 1 ≤ n ∧ n ≤ 8 ∧ LineOk n line ∧ Pool H p pq ∧ H a = some (.lst (nL line)) ∧
  ∀ (ts : List Addr) (ps : List (Nat × Nat)) (t : Addr) (H' : Hp), Down line ps → ps.Nodup → ps.length < 63 → SB p H H' → Pool H' p pq → H' t = some (.lst (ts.map V.ref)) → Pairs H' ts ps → Q (.ref t) H'
theorem ok__law_wires (T : Txt K mg C) {f : Addr} {fd : FuncData} (F : Fun K "_law_wires" "_law_wires" s__law_wires f fd) (c__law_draw : Cal P w K mg base "_law_draw" 1 spDraw) : FnOk P w K mg base CX0 2 f fd ["pool", "line"] spWires := by
  refine F.ok sc__law_wires (fun vs H Q E h => ?_) (fun cdv A outer s H vs Q E hr h => ?_)
  · obtain ⟨p, pq, a, n, line, rfl, _⟩ := h; rfl
  · obtain ⟨p, pq, a, n, line, rfl, n1, n8, ⟨ll, lnd, llt⟩, hp, ha, q⟩ := h
    refine ⟨_, (pss_cons (ps_set (i := 2) sc__law_wires.nd rfl (by first | exact Or.inl rfl | exact Or.inr rfl) (pe_cal c__law_draw (hr.mono (by decide)) (pa_cons (pv 0) (pa_cons pe_int pa_nil))))
      (pss_cons (ps_set (i := 3) sc__law_wires.nd rfl (by first | exact Or.inl rfl | exact Or.inr rfl) (pe_cal c__law_draw (hr.mono (by decide)) (pa_cons (pv 0) (pa_cons (pe_op op_add (pe_callB (lenS_ K) (by rfl) T.len b_len (pa_cons (pv 1) pa_nil)) pe_int) pa_nil))))
      (pss_cons (ps_set (i := 4) sc__law_wires.nd rfl (by first | exact Or.inl rfl | exact Or.inr rfl) (pe_lst pa_nil))
      (pss_cons (ps_for PassesOwn.never rfl (pi_range1 (by rfl) T.range (pa_cons (pe_callB (lenS_ K) (by rfl) T.len b_len (pa_cons (pv 1) pa_nil)) pa_nil)) (pg_name (i := 5) sc__law_wires.nd rfl (by first | exact Or.inl rfl | exact Or.inr rfl))
      (pss_cons (ps_set (i := 6) sc__law_wires.nd rfl (by first | exact Or.inl rfl | exact Or.inr rfl) (pe_cal c__law_draw (hr.mono (by decide)) (pa_cons (pv 0) (pa_cons (pe_op op_add (pv 5) pe_int) pa_nil))))
      (pss_one (ps_for PassesOwn.never rfl (pi_range1 (by rfl) T.range (pa_cons (pv 5) pa_nil)) (pg_name (i := 7) sc__law_wires.nd rfl (by first | exact Or.inl rfl | exact Or.inr rfl))
      (C8.pss_cut (ps_set (i := 8) sc__law_wires.nd rfl (by first | exact Or.inl rfl | exact Or.inr rfl) (pe_and (pe_cmpR op_eq (pv 2) pe_int (nomark _)) (pe_one (pe_cmpR op_eq (pv 7) (pe_op op_sub (pv 5) pe_int) (nomark _)))))
      (C8.pss_cut (ps_set (i := 8) sc__law_wires.nd rfl (by first | exact Or.inl rfl | exact Or.inr rfl) (pe_or (pv 8) (pe_one (pe_and (pe_cmpR op_eq (pv 2) pe_int (nomark _)) (pe_one (pe_chain op_lt op_le (pv 7) (pv 3) (pv 5)))))))
      (C8.pss_cut (ps_set (i := 8) sc__law_wires.nd rfl (by first | exact Or.inl rfl | exact Or.inr rfl) (pe_or (pv 8) (pe_one (pe_and (pe_cmpR op_eq (pv 2) pe_int (nomark _)) (pe_one (pe_cmpR op_eq (pv 7) (pv 6) (nomark _)))))))
      (C8.pss_cut (ps_if (pt_cmpR op_gt (pv 2) pe_int (nomark _))
      (pss_one (ps_set (i := 8) sc__law_wires.nd rfl (by first | exact Or.inl rfl | exact Or.inr rfl) (pe_cmpR op_eq (pe_cal c__law_draw (hr.mono (by decide)) (pa_cons (pv 0) (pa_cons (pe_ix (ixL_ K) (pe_lst (pa_cons pe_int (pa_cons pe_int (pa_cons pe_int (pa_cons pe_int (pa_cons pe_int pa_nil)))))) (pe_op op_sub (pv 2) pe_int) (fun _ _ => rfl)) pa_nil))) pe_int (nomark _)))) pss_nil)
      (pss_one (ps_if (pt_val (pv 8))
      (pss_one (ps_expr (pe_bm PySem.F.plainAttrs_list PySem.F.slot_list_append PySem.F.type_list_append mt_append (pv 4) (pa_cons (pe_tup (pa_cons (pe_ix (ixL_ K) (pv 1) (pv 7) (fun _ _ => rfl)) (pa_cons (pe_ix (ixL_ K) (pv 1) (pv 5) (fun _ _ => rfl)) pa_nil))) pa_nil)))) pss_nil))))))))))
      (pss_cons (ps_if (pt_cmpR op_eq (pe_cal c__law_draw (hr.mono (by decide)) (pa_cons (pv 0) (pa_cons pe_int pa_nil))) pe_int (nomark _))
      (pss_one (ps_ret (revL_ K (pv 4)))) pss_nil)
      (pss_one (ps_ret (pv 4)))))))), ?_⟩
    have nap := hp.neN ha
    refine ⟨_, rfl, p, pq, 9, rfl, by decide, by decide, hp, fun sh H1 hsh s1 p1 => ?_⟩
    refine ⟨_, rfl, _, rfl, a, _, rfl, .inl (SqL.of (s1 _ _ nap ha)), _, _, rfl, rfl, p, pq, n + 1, by rw [nL_len, ll]; rfl, by omega, by omega, p1, fun cut H2 hcut s2 p2 => ?_⟩
    have s12 := s1.trans s2
    refine ⟨by decide, fun wz nw => ?_⟩
    obtain ⟨nwp, nwq⟩ := p2.new nw
    have ha3 : (upd H2 wz (.lst [])) a = some (.lst (nL line)) := (same_new nw) _ _ (s12 _ _ nap ha)
    have inv3 : WInv H (upd H2 wz (.lst [])) p pq wz line 0 0 := ⟨s12.trans (SB.of (same_new nw)), p2.same (same_new nw), [], [], upd_same, ⟨rfl, fun i t q h => by simp at h⟩, fun q hq => absurd hq List.not_mem_nil, List.nodup_nil, Nat.le_refl 0⟩
    have nw0 : H2 wz = Option.none := nw
    generalize upd H2 wz (.lst []) = H3 at ha3 inv3 ⊢
    refine ⟨_, rfl, a, _, rfl, .inl (SqL.of ha3), _, rfl, by rw [nL_len, ll]; omega, by rw [nL_len, ll]; omega, ?_⟩
    rw [nL_len, ll, Int.toNat_natCast]
    have hwz : H wz = Option.none := by
      cases e : H wz with
      | none => rfl
      | some o => rw [s12 _ _ nwp e] at nw0; cases nw0
    refine for_range (fun i σ H4 => ∃ v5 v6 v7 v8 : Option V, σ = [some (.ref p), some (.ref a), some (.int sh), some (.int cut), some (.ref wz), v5, v6, v7, v8] ∧ WInv H H4 p pq wz line i 0)
      ⟨_, _, _, _, rfl, inv3⟩ ?_ ?_
    · rintro lo σ H4 hlo ⟨v5, v6, v7, v8, rfl, inv4⟩
      have e0 : (0 : Int) + (lo : Int) = (lo : Int) := by omega
      rw [e0]
      refine ⟨_, rfl, _, rfl, _, _, rfl, rfl, p, pq, lo + 1, rfl, by omega, by omega, inv4.pool, fun par H5 hpar s5 p5 => ?_⟩
      have inv5 := inv4.draw nwp s5 p5
      refine ⟨_, rfl, _, rfl, by omega, by omega, ?_⟩
      rw [Int.toNat_natCast]
      refine for_range (fun i σ H6 => ∃ v7 v8 : Option V, σ = [some (.ref p), some (.ref a), some (.int sh), some (.int cut), some (.ref wz), some (.int lo), some (.int par), v7, v8] ∧ WInv H H6 p pq wz line lo i)
        ⟨_, _, rfl, inv5⟩ ?_ ?_
      · rintro hi σ H6 hhi ⟨v7, v8, rfl, inv6⟩
        have e0 : (0 : Int) + (hi : Int) = (hi : Int) := by omega
        rw [e0]
        -- hit, whatever it is
        refine ⟨WMid H p pq a wz sh cut lo par hi line, ⟨_, rfl, rfl, _, rfl, ?_⟩, ?_⟩
        · refine ite2 (fun _ => ?_) (fun _ => ⟨_, rfl, inv6⟩)
          exact ⟨_, rfl, _, rfl, _, _, rfl, rfl, rfl, ⟨_, rfl, inv6⟩⟩
        rintro σ7 H7 ⟨b7, rfl, inv7⟩
        refine ⟨WMid H p pq a wz sh cut lo par hi line, ⟨_, rfl, b7, rfl, ?_⟩, ?_⟩
        · refine ite2 (fun _ => ⟨_, rfl, inv7⟩) (fun _ => ?_)
          refine ⟨_, rfl, rfl, _, rfl, ite2 (fun _ => ?_) (fun _ => ⟨_, rfl, inv7⟩)⟩
          refine ⟨_, rfl, _, rfl, _, _, rfl, rfl, _, rfl, ite2 (fun _ => ?_) (fun _ => ⟨_, rfl, inv7⟩)⟩
          exact ⟨_, rfl, _, _, rfl, rfl, ⟨_, rfl, inv7⟩⟩
        clear inv7 b7
        rintro σ8 H8 ⟨b8, rfl, inv8⟩
        refine ⟨WMid H p pq a wz sh cut lo par hi line, ⟨_, rfl, b8, rfl, ?_⟩, ?_⟩
        · refine ite2 (fun _ => ⟨_, rfl, inv8⟩) (fun _ => ?_)
          refine ⟨_, rfl, rfl, _, rfl, ite2 (fun _ => ?_) (fun _ => ⟨_, rfl, inv8⟩)⟩
          exact ⟨_, rfl, _, rfl, rfl, ⟨_, rfl, inv8⟩⟩
        clear inv8 b8
        rintro σ9 H9 ⟨b9, rfl, inv9⟩
        refine ⟨WMid H p pq a wz sh cut lo par hi line, ⟨_, rfl, _, _, rfl, rfl, _, rfl, ?_⟩, ?_⟩
        · refine ite2 (fun hgt => ?_) (fun _ => ⟨_, rfl, inv9⟩)
          have g3 : 3 < sh := by have := of_decide_eq_true hgt; omega
          refine ⟨_, rfl, by show 5 ≤ sizeLine; decide, fun tb ntb => ?_⟩
          have i10 : WInv H (upd H9 tb (.lst (tabV [2, 2, 3, 3, 4]))) p pq wz line lo hi := inv9.same (same_new ntb)
          refine ⟨_, rfl, _, _, rfl, rfl, tb, tabV [2, 2, 3, 3, 4], _, _, rfl, rfl, SqL.of upd_same, ?_, p, pq, [2, 2, 3, 3, 4].getD (sh - 4) 0, rfl, (tabs4 (sh - 4) (by omega)).1, (tabs4 (sh - 4) (by omega)).2, i10.pool, fun d H11 _ s11 p11 => ⟨rfl, ⟨_, rfl, i10.draw nwp s11 p11⟩⟩⟩
          rw [show (sh : Int) - 4 = ((sh - 4 : Nat) : Int) by omega]
          exact atI_nat (tab_get (show sh - 4 < 5 by omega))
        clear inv9 b9
        rintro σ10 H10 ⟨b10, rfl, inv10⟩
        refine ⟨_, rfl, b10, rfl, ?_⟩
        refine ite2 (fun _ => ?_) (fun _ => ⟨_, _, rfl, inv10.next⟩)
        -- wires.append((line[high], line[low]))
        obtain ⟨ts, ps, hw, hps, dn, nd, len⟩ := inv10.ex
        have ha10 := inv10.sb _ _ nap ha
        obtain ⟨k1, hk1⟩ : ∃ k, line[hi]? = some k := ⟨_, List.getElem?_eq_getElem (by omega)⟩
        obtain ⟨k2, hk2⟩ : ∃ k, line[lo]? = some k := ⟨_, List.getElem?_eq_getElem (by omega)⟩
        refine ⟨_, rfl, .inl ⟨rfl, _, SqL.of hw⟩, _, rfl, _, rfl, a, _, _, _, rfl, rfl, SqL.of ha10, atI_nat (nL_get hk1), _, rfl, _, rfl, a, _, _, _, rfl, rfl, SqL.of ha10, atI_nat (nL_get hk2), by show 2 ≤ sizeLine; decide, fun t nt => ?_⟩
        have tri := tri8 lo (by omega)
        have s11 : Same H10 (upd H10 t (.tup [.int (k1 : Int), .int (k2 : Int)])) := same_new nt
        refine ⟨wz, _, _, rfl, rfl, s11 _ _ hw, by rw [List.length_map, hps.1, sizeLine_eq]; omega, _, _, rfl, ?_⟩
        have nwt : t ≠ wz := (ne_of_none hw nt).symm
        refine ⟨fun b o nb e => ?_, (inv10.pool.same s11).upd nwp nwq, ts ++ [t], ps ++ [(k1, k2)], by rw [upd_same, List.map_append]; rfl, ⟨by rw [List.length_append, List.length_append, hps.1]; rfl, fun i c r hc hr => ?_⟩, ?_, ?_, by rw [List.length_append, List.length_singleton]; omega⟩
        · have nbw : b ≠ wz := fun z => by rw [z, hwz] at e; cases e
          rw [upd_ne nbw]; exact s11 _ _ (inv10.sb b o nb e)
        · rcases Nat.lt_or_ge i ts.length with lt | ge
          · rw [List.getElem?_append_left lt] at hc
            rw [List.getElem?_append_left (by rw [← hps.1]; exact lt)] at hr
            have z := hps.2 i c r hc hr
            rw [upd_ne (ne_of z hw (by intro z; cases z))]
            exact s11 _ _ z
          · rw [List.getElem?_append_right ge] at hc
            rw [List.getElem?_append_right (by rw [← hps.1]; exact ge)] at hr
            have j0 : i - ts.length = 0 := by
              rcases Nat.eq_zero_or_pos (i - ts.length) with z | z
              · exact z
              · rw [List.getElem?_eq_none (by rw [List.length_singleton]; exact z)] at hc; cases hc
            rw [j0] at hc
            rw [← hps.1, j0] at hr
            cases hc
            cases hr
            rw [upd_ne nwt, upd_same]
        · intro r hr
          rcases List.mem_append.mp hr with hr | hr
          · obtain ⟨x, y, h1, h2, h3⟩ := dn r hr
            exact ⟨x, y, h1, by omega, h3⟩
          · rw [List.mem_singleton.mp hr]
            exact ⟨hi, lo, hhi, .inr ⟨rfl, Nat.lt_succ_self _⟩, hk1, hk2⟩
        · rw [List.nodup_append]
          refine ⟨nd, by simp, fun r hr r2 hr2 e => ?_⟩
          rw [List.mem_singleton.mp hr2] at e
          obtain ⟨x, y, h1, h2, h3, h4⟩ := dn r hr
          rw [e] at h3 h4
          have e1 := nodup_at lnd h3 hk1
          have e2 := nodup_at lnd h4 hk2
          omega
      · rintro σ H6 ⟨v7, v8, rfl, inv6⟩
        exact ⟨_, _, _, _, rfl, inv6.row⟩
    · rintro σ H4 ⟨v5, v6, v7, v8, rfl, inv⟩
      obtain ⟨ts, ps, hw, hps, dn, nd, len⟩ := inv.ex
      have tri := tri8 n n8
      have few : ps.length < 63 := by omega
      have dn2 : Down line ps := fun r hr => by
        obtain ⟨x, y, h1, _, h2⟩ := dn r hr
        exact ⟨x, y, h1, h2⟩
      refine ⟨_, rfl, p, pq, 2, rfl, by decide, by decide, inv.pool, fun d H5 _ s5 p5 => ⟨rfl, _, rfl, ?_⟩⟩
      have i5 := inv.draw nwp s5 p5
      obtain ⟨xs, hpx⟩ := inv.pool.at
      have hw5 := s5 _ _ nwp hw
      have hps5 := hps.sb hpx s5
      refine ite2 (fun _ => ?_) (fun _ => ?_)
      · refine ⟨_, rfl, wz, _, rfl, SqL.of hw5, fun t nt => ?_⟩
        refine q ts.reverse ps.reverse t _ (fun r hr => dn2 r (List.mem_reverse.mp hr)) ((List.reverse_perm ps).nodup_iff.mpr nd) (by rw [List.length_reverse]; exact few) (i5.sb.trans (SB.of (same_new nt))) (p5.same (same_new nt)) (by rw [upd_same, List.map_reverse]) ((hps5.rev).same (same_new nt))
      · exact ⟨_, rfl, q ts ps wz H5 dn2 nd few i5.sb p5 hw5 hps5⟩
end
end Hue

end
section
set_option maxRecDepth 100000
namespace Hue
open PySem PySem.Spec PyProof.Rows L2
section
variable {P : Program} {w : World} {K : PySem.W.Frag} {mg : Str → Option Value} {base : Heap} {C : Addr}
/-- the lists of the lamps above, as far as they are made: of the lamps in done -/
def UpAt (H : Hp) (t : Addr) (n : Nat) (R : Rel) (done : List Nat) : Prop := ∃ (as : List Addr) (U : Nat → List Nat), H t = some (.lst (as.map V.ref)) ∧ as.length = n ∧ (∀ (k : Nat) a, as[k]? = some a → a ≠ t ∧ H a = some (.lst (nL (U k)))) ∧
  ∀ k ∈ done, (U k).Nodup ∧ ∀ j, j ∈ U k ↔ R j k = true
theorem UpAt.same {H H' : Hp} {t : Addr} {n : Nat} {R : Rel} {done : List Nat} (h : UpAt H t n R done) (s : Same H H') : UpAt H' t n R done := by
  obtain ⟨as, U, a, b, c, d⟩ := h
  exact ⟨as, U, s _ _ a, b, fun k x e => ⟨(c k x e).1, s _ _ (c k x e).2⟩, d⟩
/-- what is found: the lamps above by the wires qs that lead to low -/
def FoundOk (n : Nat) (R : Rel) (low : Nat) (qs : List (Nat × Nat)) (fd : List Nat) : Prop := fd.Nodup ∧ (∀ x ∈ fd, x < n) ∧ ∀ x, x ∈ fd ↔ ∃ p ∈ qs, p.2 = low ∧ (x = p.1 ∨ R x p.1 = true)
theorem few_of {n : Nat} {fd : List Nat} (h1 : fd.Nodup) (h2 : ∀ x ∈ fd, x < n) : fd.length ≤ n := by
  have := nat_nodup_len fd (List.range n) h1 fun x hx => List.mem_range.mpr (h2 x hx)
  rw [List.length_range] at this
  exact this
abbrev s__law_uppers : Stmt := top 32
theorem sc__law_uppers : FnScope ["line", "wires", "uppers", "lamp", "lower", "found", "wire"] ["line", "wires"] (defScope s__law_uppers) := ⟨rfl, rfl, rfl, by decide +kernel, rfl, by decide +kernel, by decide +kernel⟩
-- slots of _law_uppers: 0 line, 1 wires, 2 uppers, 3 lamp, 4 lower, 5 found, 6 wire
def spUppers : Sp := fun vs H Q _ => ∃ (a wz : Addr) (n : Nat) (line : List Nat) (ts : List Addr) (ps : List (Nat × Nat)), vs = [.ref a, .ref wz] ∧ n ≤ 8 ∧ LineOk n line ∧ H a = some (.lst (nL line)) ∧ H wz = some (.lst (ts.map V.ref)) ∧ Pairs H ts ps ∧ Down line ps ∧
  ∀ (t : Addr) (H' : Hp), Same H H' → UpAt H' t n (relOf ps) line → Q (.ref t) H'
theorem ok__law_uppers (T : Txt K mg C) {f : Addr} {fd : FuncData} (F : Fun K "_law_uppers" "_law_uppers" s__law_uppers f fd) : FnOk P w K mg base CX0 1 f fd ["line", "wires"] spUppers := by
  refine F.ok sc__law_uppers (fun vs H Q E h => ?_) (fun cdv A outer s H vs Q E hr h => ?_)
  · obtain ⟨a, wz, n, line, ts, ps, rfl, _⟩ := h; rfl
  · obtain ⟨a, wz, n, line, ts, ps, rfl, n8, ⟨ll, lnd, llt⟩, ha, hw, hps, dn, q⟩ := h
    have hR : ∀ x y, relOf ps x y = true → x < n := by
      have key : ∀ (qs : List (Nat × Nat)) (R : Rel), (∀ p ∈ qs, p.1 < n) → (∀ x y, R x y = true → x < n) → ∀ x y, qs.foldl (fun R p => addW R p.1 p.2) R x y = true → x < n := by
        intro qs
        induction qs with
        | nil => intro R _ h; exact h
        | cons p qs ih =>
          intro R hq h
          refine ih _ (fun r hr => hq r (List.mem_cons_of_mem _ hr)) fun x y hxy => ?_
          rcases addW_iff.mp hxy with z | ⟨z, _⟩
          · exact h x y z
          · rcases z with z | z
            · rw [z]; exact hq p List.mem_cons_self
            · exact h x _ z
      refine key ps _ (fun p hp => ?_) fun x y h => by cases h
      obtain ⟨x, y, _, h1, _⟩ := dn p hp
      exact llt _ (List.mem_of_getElem? h1)
    refine ⟨_, (pss_cons (ps_setLc (i := 2) (own := [("lamp", 3)]) (g := gName 3) (tt := tYes) rfl sc__law_uppers.nd rfl rfl (sw_true rfl rfl rfl (by kernel_rfl)) (pil_ K (pv 0)) (blkOk_by (by kernel_rfl)) (fun _ _ _ _ _ => (pg_name (i := 3) sc__law_uppers.nd rfl (by first | exact Or.inl rfl | exact Or.inr rfl))) (fun _ _ _ _ _ => pts_nil) (fun _ _ _ _ _ => (pe_lst pa_nil)))
      (pss_cons (ps_for PassesOwn.never rfl (pil_ K (pv 0)) (pg_name (i := 4) sc__law_uppers.nd rfl (by first | exact Or.inl rfl | exact Or.inr rfl))
      (pss_cons (ps_set (i := 5) sc__law_uppers.nd rfl (by first | exact Or.inl rfl | exact Or.inr rfl) (pe_lst pa_nil))
      (pss_cons (ps_for PassesOwn.never rfl (pil_ K (pv 1)) (pg_name (i := 6) sc__law_uppers.nd rfl (by first | exact Or.inl rfl | exact Or.inr rfl))
      (pss_one (ps_if (pt_cmpR op_eq (pe_ix (ixT_ K) (pv 6) pe_int (fun _ _ => rfl)) (pv 4) (nomark _))
      (pss_one (ps_for PassesOwn.never rfl (pil_ K (pe_op op_cat (pe_ix (ixL_ K) (pv 2) (pe_ix (ixT_ K) (pv 6) pe_int (fun _ _ => rfl)) (fun _ _ => rfl)) (pe_lst (pa_cons (pe_ix (ixT_ K) (pv 6) pe_int (fun _ _ => rfl)) pa_nil)))) (pg_name (i := 3) sc__law_uppers.nd rfl (by first | exact Or.inl rfl | exact Or.inr rfl))
      (pss_one (ps_if (pt_cmpR (ninS_ K) (pv 3) (pv 5) (by rfl))
      (pss_one (ps_expr (pe_bm PySem.F.plainAttrs_list PySem.F.slot_list_append PySem.F.type_list_append mt_append (pv 5) (pa_cons (pv 3) pa_nil)))) pss_nil)))) pss_nil)))
      (pss_one (ps_asg (pv 5) (pg_sub (pv 2) (pv 4) set_list))))))
      (pss_one (ps_ret (pv 2))))), ?_⟩
    -- uppers = [[] for lamp in line]
    refine ⟨_, rfl, a, rfl, ⟨_, SqL.of ha⟩, fun t ht => ?_⟩
    refine lc_list (xs := nL line) (fun i H2 => Coll H t (fun _ => []) i H2) (Coll.start ht) (fun i H2 _ c => SqL.of (c.same _ _ ha)) ?_ ?_
    · rintro i x H2 hx c
      obtain ⟨_, hD2, ll2, _, _⟩ := id c
      have il : i < n := by
        have := (List.getElem?_eq_some_iff.mp hx).1
        rw [nL_len, ll] at this; exact this
      refine ⟨rfl, yesT ⟨by decide, fun p hp => ?_⟩⟩
      exact c.more ht (same_new hp) (fun z => by rw [z, hD2] at hp; cases hp) upd_same (by omega)
    rintro H1 c1
    rw [nL_len, ll] at c1
    have s1 := c1.same
    have up1 : UpAt H1 t n (relOf ps) (line.take 0) := by
      obtain ⟨as, h1, h2, _, h3⟩ := c1
      exact ⟨as, fun _ => [], h1, h2, h3, fun k hk => by simp at hk⟩
    refine ⟨_, rfl, a, rfl, ⟨_, SqL.of (s1 _ _ ha)⟩, ?_⟩
    refine for_list (K := K) (a := a) (xs := nL line) (fun i σ H2 => ∃ v3 v4 v5 v6 : Option V, σ = [some (.ref a), some (.ref wz), some (.ref t), v3, v4, v5, v6] ∧ Same H H2 ∧ UpAt H2 t n (relOf ps) (line.take i))
      ⟨_, _, _, _, rfl, s1, up1⟩ (fun i σ H2 _ ⟨_, _, _, _, _, s, _⟩ => SqL.of (s _ _ ha)) ?_ ?_
    · rintro i y σ H2 hy ⟨v3, v4, v5, v6, rfl, s2, up2⟩
      obtain ⟨low, hlow, rfl⟩ : ∃ k, line[i]? = some k ∧ y = V.int (k : Int) := by
        unfold nL nI at hy
        rw [List.map_map, List.getElem?_map] at hy
        obtain ⟨j, hj, e⟩ := Option.map_eq_some_iff.mp hy
        exact ⟨j, hj, e.symm⟩
      have lown : low < n := llt low (List.mem_of_getElem? hlow)
      refine ⟨by decide, fun fz nf => ?_⟩
      have s3 : Same H2 (upd H2 fz (.lst [])) := same_new nf
      refine ⟨_, rfl, wz, rfl, ⟨_, SqL.of ((s2.trans s3) _ _ hw)⟩, ?_⟩
      refine for_list (K := K) (a := wz) (xs := ts.map V.ref) (fun j σ H3 => ∃ (v3 v6 : Option V) (fd : List Nat), σ = [some (.ref a), some (.ref wz), some (.ref t), v3, some (.int low), some (.ref fz), v6] ∧ Same H2 H3 ∧ H3 fz = some (.lst (nL fd)) ∧ FoundOk n (relOf ps) low (ps.take j) fd)
        ⟨_, _, [], rfl, s3, upd_same, List.nodup_nil, fun x hx => absurd hx List.not_mem_nil, fun x => by simp⟩ (fun j σ H3 _ ⟨_, _, _, _, s, _⟩ => SqL.of ((s2.trans s) _ _ hw)) ?_ ?_
      · rintro j y σ H3 hy ⟨v3, v6, fd, rfl, s4, hf, fok⟩
        rw [List.getElem?_map] at hy
        obtain ⟨tj, htj, rfl⟩ := Option.map_eq_some_iff.mp hy
        have jl : j < ps.length := by rw [← hps.1]; exact (List.getElem?_eq_some_iff.mp htj).1
        obtain ⟨p, hp⟩ : ∃ p, ps[j]? = some p := ⟨_, List.getElem?_eq_getElem jl⟩
        have tup := (s2.trans s4) _ _ (hps.2 j tj p htj hp)
        have tk : ps.take (j + 1) = ps.take j ++ [p] := by rw [List.take_add_one, hp]; rfl
        refine ⟨_, rfl, tj, _, _, _, rfl, rfl, SqT.of tup, rfl, _, rfl, rfl, _, rfl, ?_⟩
        refine ite2 (fun heq => ?_) (fun hne => ?_)
        · have e2 : p.2 = low := by
            have z := of_decide_eq_true heq
            injection z with z
            omega
          -- the upper lamp is done already
          obtain ⟨h0, l0, hlt, hh, hl⟩ := dn p (List.mem_of_getElem? hp)
          rw [e2] at hl
          have l0i := nodup_at lnd hl hlow
          have pin : p.1 ∈ line.take i := by
            rw [List.mem_iff_getElem?]
            exact ⟨h0, by rw [List.getElem?_take_of_lt (by omega)]; exact hh⟩
          have p1n : p.1 < n := llt _ (List.mem_of_getElem? hh)
          obtain ⟨as, U, u1, u2, u3, u4⟩ := up2.same s4
          obtain ⟨ap, hap⟩ : ∃ x, as[p.1]? = some x := ⟨_, List.getElem?_eq_getElem (by omega)⟩
          obtain ⟨nat_, hU⟩ := u3 p.1 ap hap
          obtain ⟨Und, Umem⟩ := u4 p.1 pin
          have hap' : (as.map V.ref)[p.1]? = some (V.ref ap) := by rw [List.getElem?_map, hap]; rfl
          have Ulen := few_of (n := n) Und fun x hx => hR _ _ ((Umem x).mp hx)
          refine ⟨_, rfl, _, rfl, tj, _, _, _, rfl, rfl, SqT.of tup, rfl, t, _, _, _, rfl, rfl, SqL.of u1, atI_nat hap', _, rfl, tj, _, _, _, rfl, rfl, SqT.of tup, rfl, by show 1 ≤ sizeLine; decide, fun c1 nc1 => ?_⟩
          have s5 : Same H3 (upd H3 c1 (.lst [.int (p.1 : Int)])) := same_new nc1
          refine ⟨ap, c1, _, _, rfl, rfl, s5 _ _ hU, upd_same, by rw [nL_len, sizeLine_eq, List.length_singleton]; omega, fun c2 nc2 => ?_⟩
          have s6 := s5.trans (same_new (o := .lst (nL (U p.1) ++ [.int (p.1 : Int)])) nc2)
          have hc2 : (upd (upd H3 c1 (.lst [.int (p.1 : Int)])) c2 (.lst (nL (U p.1) ++ [.int (p.1 : Int)]))) c2 = some (.lst (nL (U p.1 ++ [p.1]))) := by rw [upd_same, nL_app]; rfl
          generalize upd (upd H3 c1 (.lst [.int (p.1 : Int)])) c2 (.lst (nL (U p.1) ++ [.int (p.1 : Int)])) = H4 at s6 hc2 ⊢
          have nfc2 : fz ≠ c2 := by
            intro z
            have z1 := s5 _ _ hf
            rw [z, nc2] at z1
            cases z1
          refine ⟨c2, rfl, ⟨_, SqL.of hc2⟩, ?_⟩
          refine for_list (K := K) (a := c2) (xs := nL (U p.1 ++ [p.1])) (fun m σ H5 => ∃ (v3 : Option V) (fd' : List Nat), σ = [some (.ref a), some (.ref wz), some (.ref t), v3, some (.int low), some (.ref fz), some (.ref tj)] ∧ Same H2 H5 ∧ H5 c2 = some (.lst (nL (U p.1 ++ [p.1]))) ∧ H5 fz = some (.lst (nL fd')) ∧ fd'.Nodup ∧ (∀ x ∈ fd', x < n) ∧ ∀ x, x ∈ fd' ↔ x ∈ fd ∨ x ∈ (U p.1 ++ [p.1]).take m)
            ⟨_, fd, rfl, s4.trans s6, hc2, s6 _ _ hf, fok.1, fok.2.1, fun x => by simp⟩ (fun m σ H5 _ ⟨_, _, _, _, h, _⟩ => SqL.of h) ?_ ?_
          · rintro m y σ H5 hy ⟨v3, fd', rfl, s7, hc5, hf5, nd5, lt5, mem5⟩
            obtain ⟨x, hx, rfl⟩ : ∃ k, (U p.1 ++ [p.1])[m]? = some k ∧ y = V.int (k : Int) := by
              unfold nL nI at hy
              rw [List.map_map, List.getElem?_map] at hy
              obtain ⟨j, hj, e⟩ := Option.map_eq_some_iff.mp hy
              exact ⟨j, hj, e.symm⟩
            have xn : x < n := by
              rcases List.mem_append.mp (List.mem_of_getElem? hx) with z | z
              · exact hR _ _ ((Umem x).mp z)
              · rw [List.mem_singleton.mp z]; exact p1n
            have tkm : (U p.1 ++ [p.1]).take (m + 1) = (U p.1 ++ [p.1]).take m ++ [x] := by rw [List.take_add_one, hx]; rfl
            refine ⟨_, rfl, _, rfl, fz, _, rfl, .inl (SqL.of hf5), rfl, flat_nL _, _, rfl, ?_⟩
            show if (!inV (V.int (x : Int)) (nL fd')) = true then _ else _
            rw [in_nL]
            refine ite2 (fun hn => ?_) (fun hn => ?_)
            · have xf : x ∉ fd' := by simpa using hn
              have l5 := few_of nd5 lt5
              refine ⟨_, rfl, .inl ⟨rfl, _, SqL.of hf5⟩, _, rfl, fz, _, _, rfl, rfl, hf5, by rw [nL_len, sizeLine_eq]; omega, _, fd' ++ [x], rfl, same_upd s7 nf, by rw [upd_ne nfc2.symm]; exact hc5, by rw [upd_same, nL_app]; rfl, ?_, ?_, ?_⟩
              · rw [List.nodup_append]
                exact ⟨nd5, by simp, fun b hb b2 hb2 e => by rw [List.mem_singleton.mp hb2] at e; exact xf (e ▸ hb)⟩
              · intro b hb
                rcases List.mem_append.mp hb with hb | hb
                · exact lt5 b hb
                · rw [List.mem_singleton.mp hb]; exact xn
              · intro b
                rw [List.mem_append, mem5, tkm, List.mem_append, or_assoc]
            · have xf : x ∈ fd' := by simpa using hn
              refine ⟨_, fd', rfl, s7, hc5, hf5, nd5, lt5, fun b => ?_⟩
              rw [tkm, List.mem_append, ← or_assoc, ← mem5]
              constructor
              · exact fun z => .inl z
              · rintro (z | z)
                · exact z
                · rw [List.mem_singleton.mp z]; exact xf
          · rintro σ H5 ⟨v3, fd', rfl, s7, hc5, hf5, nd5, lt5, mem5⟩
            rw [nL_len, List.take_length] at mem5
            refine ⟨_, _, fd', rfl, s7, hf5, nd5, lt5, fun x => ?_⟩
            rw [mem5, fok.2.2, tk, List.mem_append, List.mem_singleton, Umem]
            constructor
            · rintro (⟨r, hr, z⟩ | z)
              · exact ⟨r, List.mem_append_left _ hr, z⟩
              · exact ⟨p, List.mem_append_right _ List.mem_cons_self, e2, z.symm⟩
            · rintro ⟨r, hr, z1, z2⟩
              rcases List.mem_append.mp hr with hr | hr
              · exact .inl ⟨r, hr, z1, z2⟩
              · rw [List.mem_singleton.mp hr] at z2
                exact .inr z2.symm
        · refine ⟨_, _, fd, rfl, s4, hf, fok.1, fok.2.1, fun x => ?_⟩
          rw [fok.2.2, tk]
          constructor
          · rintro ⟨r, hr, z⟩
            exact ⟨r, List.mem_append_left _ hr, z⟩
          · rintro ⟨r, hr, z1, z2⟩
            rcases List.mem_append.mp hr with hr | hr
            · exact ⟨r, hr, z1, z2⟩
            · rw [List.mem_singleton.mp hr] at z1
              exact absurd (decide_eq_true (by rw [z1])) hne
      · rintro σ H3 ⟨v3, v6, fd, rfl, s4, hf, fok⟩
        rw [List.length_map, hps.1, List.take_length] at fok
        obtain ⟨as, U, u1, u2, u3, u4⟩ := up2.same s4
        refine ⟨_, rfl, _, rfl, _, rfl, t, _, _, low, rfl, rfl, u1, ixN_nat (by rw [List.length_map, u2]; exact lown), ?_⟩
        have tkl : line.take (i + 1) = line.take i ++ [low] := by rw [List.take_add_one, hlow]; rfl
        have ntz : fz ≠ t := by
          intro z
          obtain ⟨_, _, k1, _⟩ := up2
          rw [← z, nf] at k1
          cases k1
        refine ⟨_, _, _, _, rfl, same_upd (s2.trans s4) ht, as.set low fz, fun k => if k = low then fd else U k, by rw [upd_same, List.map_set], by rw [List.length_set]; exact u2, fun k c hc => ?_, fun k hk => ?_⟩
        · rcases Nat.decEq low k with ne | e
          · rw [List.getElem?_set_ne ne] at hc
            obtain ⟨z1, z2⟩ := u3 k c hc
            refine ⟨z1, ?_⟩
            rw [upd_ne z1]
            show H3 c = some (.lst (nL (if k = low then fd else U k)))
            rw [if_neg (fun z : k = low => ne z.symm)]
            exact z2
          · rw [← e, List.getElem?_set_self (by omega)] at hc
            cases hc
            refine ⟨ntz, ?_⟩
            rw [upd_ne ntz]
            show H3 fz = some (.lst (nL (if k = low then fd else U k)))
            rw [if_pos e.symm]
            exact hf
        · rcases Nat.decEq k low with ne | e
          · show (if k = low then fd else U k).Nodup ∧ ∀ j, j ∈ (if k = low then fd else U k) ↔ _
            rw [if_neg ne]
            rw [tkl] at hk
            rcases List.mem_append.mp hk with hk | hk
            · exact u4 k hk
            · exact absurd (List.mem_singleton.mp hk) ne
          · show (if k = low then fd else U k).Nodup ∧ ∀ j, j ∈ (if k = low then fd else U k) ↔ _
            rw [if_pos e, e]
            refine ⟨fok.1, fun j => ?_⟩
            rw [fok.2.2, rel_last]
            constructor
            · rintro ⟨p, hp, z1, z2⟩
              exact ⟨p.1, by rw [← z1]; exact hp, z2⟩
            · rintro ⟨u, hu, z⟩
              exact ⟨(u, low), hu, rfl, z⟩
    · rintro σ H2 ⟨v3, v4, v5, v6, rfl, s2, up2⟩
      rw [nL_len, List.take_length] at up2
      exact ⟨_, rfl, q t H2 s2 up2⟩
end
end Hue

end
section
set_option maxRecDepth 100000
namespace Hue
open PySem PySem.Spec PyProof.Rows L2
section
variable {P : Program} {w : World} {K : PySem.W.Frag} {mg : Str → Option Value} {base : Heap} {C : Addr}
theorem LineOk.all {n : Nat} {line : List Nat} (h : LineOk n line) {k : Nat} (hk : k < n) : k ∈ line := by
  rcases Classical.em (k ∈ line) with z | z
  · exact z
  · exfalso
    have := nat_nodup_len (k :: line) (List.range n) (List.nodup_cons.mpr ⟨z, h.2.1⟩) fun x hx => by
      rcases List.mem_cons.mp hx with e | e
      · rw [e]; exact List.mem_range.mpr hk
      · exact List.mem_range.mpr (h.2.2 x e)
    rw [List.length_cons, h.1, List.length_range] at this
    omega
abbrev s__law_lowers : Stmt := top 33
theorem sc__law_lowers : FnScope ["uppers", "lowers", "lamp", "lower"] ["uppers"] (defScope s__law_lowers) := ⟨rfl, rfl, rfl, by decide +kernel, rfl, by decide +kernel, by decide +kernel⟩
-- slots of _law_lowers: 0 uppers, 1 lowers, 2 lamp, 3 lower
def spLowers : Sp := fun vs H Q _ => ∃ (t : Addr) (n : Nat) (R : Rel) (line : List Nat), vs = [.ref t] ∧ n ≤ 8 ∧ UpAt H t n R line ∧ (∀ k, k < n → k ∈ line) ∧ ∀ (r : Addr) (H' : Hp), Same H H' → Rows H' r (relRows n R) → Q (.ref r) H'
theorem ok__law_lowers (T : Txt K mg C) {f : Addr} {fd : FuncData} (F : Fun K "_law_lowers" "_law_lowers" s__law_lowers f fd) : FnOk P w K mg base CX0 1 f fd ["uppers"] spLowers := by
  refine F.ok sc__law_lowers (fun vs H Q E h => ?_) (fun cdv A outer s H vs Q E hr h => ?_)
  · obtain ⟨t, n, R, line, rfl, _⟩ := h; rfl
  · obtain ⟨t, n, R, line, rfl, n8, ⟨as, U, u1, u2, u3, u4⟩, all, q⟩ := h
    refine ⟨_, (pss_cons (ps_set (i := 1) sc__law_lowers.nd rfl (by first | exact Or.inl rfl | exact Or.inr rfl) (pe_lst pa_nil))
      (pss_cons (ps_for PassesOwn.never rfl (pi_range1 (by rfl) T.range (pa_cons (pe_callB (lenS_ K) (by rfl) T.len b_len (pa_cons (pv 0) pa_nil)) pa_nil)) (pg_name (i := 2) sc__law_lowers.nd rfl (by first | exact Or.inl rfl | exact Or.inr rfl))
      (pss_one (ps_expr (pe_bm PySem.F.plainAttrs_list PySem.F.slot_list_append PySem.F.type_list_append mt_append (pv 1) (pa_cons (pe_lc (own := [("lower", 3)]) (g := gName 3) rfl sc__law_lowers.nd (pi_range1 (by rfl) T.range (pa_cons (pe_callB (lenS_ K) (by rfl) T.len b_len (pa_cons (pv 0) pa_nil)) pa_nil)) (blkOk_by (by kernel_rfl)) (fun _ _ _ _ _ => (pg_name (i := 3) sc__law_lowers.nd rfl (by first | exact Or.inl rfl | exact Or.inr rfl))) (fun _ _ _ _ _ => (pts_one (pt_cmpR (inS_ K) (pv 2) (pe_ix (ixL_ K) (pv 0) (pv 3) (fun _ _ => rfl)) (by rfl)))) (fun _ _ _ _ _ => (pv 3))) pa_nil)))))
      (pss_one (ps_ret (pv 1))))), ?_⟩
    refine ⟨by decide, fun lz nl => ?_⟩
    have s0 : Same H (upd H lz (.lst [])) := same_new nl
    refine ⟨_, rfl, t, _, rfl, .inl (SqL.of (s0 _ _ u1)), _, rfl, by rw [List.length_map, u2]; omega, by rw [List.length_map, u2]; omega, ?_⟩
    rw [List.length_map, u2, Int.toNat_natCast]
    refine for_range (fun i σ H2 => ∃ v2 v3 : Option V, σ = [some (.ref t), some (.ref lz), v2, v3] ∧ Coll H lz (fun j => nL (Bel n R j)) i H2) ⟨_, _, rfl, Coll.start nl⟩ ?_ ?_
    · rintro i σ H2 hi ⟨v2, v3, rfl, c⟩
      have e0 : (0 : Int) + (i : Int) = (i : Int) := by omega
      rw [e0]
      have s2 := c.same
      obtain ⟨ac, hlz, lac, _, _⟩ := id c
      refine ⟨_, rfl, .inl ⟨rfl, _, SqL.of hlz⟩, _, rfl, t, _, rfl, .inl (SqL.of (s2 _ _ u1)), _, rfl, by rw [List.length_map, u2]; omega, by rw [List.length_map, u2]; omega, fun D hD => ?_⟩
      rw [List.length_map, u2, Int.toNat_natCast]
      refine lc_range (fun j H3 => H3 D = some (.lst (nL ((List.range j).filter (R i)))) ∧ Same H2 H3) ⟨upd_same, same_new hD⟩ ?_ ?_
      · rintro j H3 hj ⟨h3, s3⟩
        have e0 : (0 : Int) + (j : Int) = (j : Int) := by omega
        rw [e0]
        obtain ⟨aj, haj⟩ : ∃ x, as[j]? = some x := ⟨_, List.getElem?_eq_getElem (by omega)⟩
        obtain ⟨_, hU⟩ := u3 j aj haj
        obtain ⟨_, mem⟩ := u4 j (all j hj)
        have haj' : (as.map V.ref)[j]? = some (V.ref aj) := by rw [List.getElem?_map, haj]; rfl
        have s03 := s2.trans s3
        refine ⟨rfl, _, rfl, _, rfl, _, rfl, t, _, _, _, rfl, rfl, SqL.of (s03 _ _ u1), atI_nat haj', aj, _, rfl, .inl (SqL.of (s03 _ _ hU)), rfl, flat_nL _, _, rfl, ?_⟩
        have grown : (List.range (j + 1)).filter (R i) = (List.range j).filter (R i) ++ (if R i j = true then [j] else []) := by
          rw [List.range_succ, List.filter_append, List.filter_cons]
          rfl
        have same_test : inV (V.int (i : Int)) (nL (U j)) = R i j := by
          rw [in_nL, Bool.eq_iff_iff, decide_eq_true_eq, mem]
        show if inV (V.int (i : Int)) (nL (U j)) = true then _ else _
        rw [same_test]
        refine ite2 (fun hx' => ?_) (fun hx' => ?_)
        · refine ⟨_, rfl, _, h3, ?_, ?_, same_upd s3 hD⟩
          · rw [nL_len, sizeLine_eq]
            have := List.length_filter_le (R i) (List.range j)
            rw [List.length_range] at this
            omega
          · rw [upd_same, grown, if_pos hx', nL_app]; rfl
        · refine ⟨?_, s3⟩
          rw [h3, grown, if_neg hx', List.append_nil]
      · rintro H3 ⟨h3, s3⟩
        obtain ⟨acc, ha, hl, c2⟩ := c.more nl s3 (fun z => by rw [z, hlz] at hD; cases hD) h3 (by omega)
        exact ⟨lz, _, _, rfl, rfl, ha, hl, _, _, rfl, c2⟩
    · rintro σ H2 ⟨v2, v3, rfl, c⟩
      exact ⟨_, rfl, q lz H2 c.same c.rows⟩
/-! ### all states -/
abbrev s__law_all : Stmt := top 34
theorem sc__law_all : FnScope ["count", "hues", "states", "k", "longer", "state", "hue"] ["count", "hues"] (defScope s__law_all) := ⟨rfl, rfl, rfl, by decide +kernel, rfl, by decide +kernel, by decide +kernel⟩
-- slots of _law_all: 0 count, 1 hues, 2 states, 3 k, 4 longer, 5 state, 6 hue
/-- at a: a list of the tuples SS -/
def TupL (H : Hp) (a : Addr) (SS : List (List Int)) : Prop := ∃ as : List Addr, H a = some (.lst (as.map V.ref)) ∧ as.length = SS.length ∧ ∀ (i : Nat) x S, as[i]? = some x → SS[i]? = some S → H x = some (.tup (stV S))
theorem TupL.same {H H' : Hp} {a : Addr} {SS : List (List Int)} (h : TupL H a SS) (s : Same H H') : TupL H' a SS := by
  obtain ⟨as, a1, a2, a3⟩ := h
  exact ⟨as, s _ _ a1, a2, fun i x S h1 h2 => s _ _ (a3 i x S h1 h2)⟩
theorem TupL.more {H : Hp} {a x : Addr} {SS : List (List Int)} {S : List Int} (h : TupL H a SS) (hx : H x = some (.tup (stV S))) : ∃ acc, H a = some (.lst acc) ∧ acc.length = SS.length ∧ TupL (upd H a (.lst (acc ++ [V.ref x]))) a (SS ++ [S]) := by
  obtain ⟨as, a1, a2, a3⟩ := h
  refine ⟨_, a1, by rw [List.length_map, a2], as ++ [x], by rw [upd_same, List.map_append]; rfl, by rw [List.length_append, List.length_append, a2]; rfl, fun i y S2 h1 h2 => ?_⟩
  rcases Nat.lt_or_ge i as.length with lt | ge
  · rw [List.getElem?_append_left lt] at h1
    rw [List.getElem?_append_left (by rw [← a2]; exact lt)] at h2
    have z := a3 i y S2 h1 h2
    rw [upd_ne (ne_of z a1 (by intro z; cases z))]
    exact z
  · rw [List.getElem?_append_right ge] at h1
    rw [List.getElem?_append_right (by rw [← a2]; exact ge)] at h2
    have j0 : i - as.length = 0 := by
      rcases Nat.eq_zero_or_pos (i - as.length) with z | z
      · exact z
      · rw [List.getElem?_eq_none (by rw [List.length_singleton]; exact z)] at h1; cases h1
    rw [j0] at h1
    rw [← a2, j0] at h2
    cases h1
    cases h2
    rw [upd_ne (ne_of hx a1 (by intro z; cases z))]
    exact hx
def spAll : Sp := fun vs H Q _ => ∃ n h : Nat, vs = [.int n, .int h] ∧ SmallOk n h ∧ ∀ (a : Addr) (SS : List (List Int)) (H' : Hp), Same H H' → TupL H' a SS → (∀ S ∈ SS, StOk n h S) → Q (.ref a) H'
theorem ok__law_all (T : Txt K mg C) {f : Addr} {fd : FuncData} (F : Fun K "_law_all" "_law_all" s__law_all f fd) : FnOk P w K mg base CX0 1 f fd ["count", "hues"] spAll := by
  refine F.ok sc__law_all (fun vs H Q E h => ?_) (fun cdv A outer s H vs Q E hr h => ?_)
  · obtain ⟨n, h, rfl, _⟩ := h; rfl
  · obtain ⟨n, h, rfl, ⟨⟨n1, n8⟩, ⟨h2, h10⟩, pw⟩, q⟩ := h
    refine ⟨_, (pss_cons (ps_set (i := 2) sc__law_all.nd rfl (by first | exact Or.inl rfl | exact Or.inr rfl) (pe_lst (pa_cons (pe_tup pa_nil) pa_nil)))
      (pss_cons (ps_for PassesOwn.never rfl (pi_range1 (by rfl) T.range (pa_cons (pv 0) pa_nil)) (pg_name (i := 3) sc__law_all.nd rfl (by first | exact Or.inl rfl | exact Or.inr rfl))
      (pss_cons (ps_set (i := 4) sc__law_all.nd rfl (by first | exact Or.inl rfl | exact Or.inr rfl) (pe_lst pa_nil))
      (pss_cons (ps_for PassesOwn.never rfl (pil_ K (pv 2)) (pg_name (i := 5) sc__law_all.nd rfl (by first | exact Or.inl rfl | exact Or.inr rfl))
      (pss_one (ps_for PassesOwn.never rfl (pi_range1 (by rfl) T.range (pa_cons (pv 1) pa_nil)) (pg_name (i := 6) sc__law_all.nd rfl (by first | exact Or.inl rfl | exact Or.inr rfl))
      (pss_one (ps_expr (pe_bm PySem.F.plainAttrs_list PySem.F.slot_list_append PySem.F.type_list_append mt_append (pv 4) (pa_cons (pe_op (catA_ K) (pv 5) (pe_tup (pa_cons (pv 6) pa_nil))) pa_nil)))))))
      (pss_one (ps_set (i := 2) sc__law_all.nd rfl (by first | exact Or.inl rfl | exact Or.inr rfl) (pv 4))))))
      (pss_one (ps_ret (pv 2))))), ?_⟩
    have pk : ∀ k, k ≤ n → h ^ k ≤ 256 := fun k hk => Nat.le_trans (Nat.pow_le_pow_right (by omega) hk) pw
    refine ⟨by decide, fun e0 ne0 => ⟨by show 1 ≤ sizeLine; decide, fun st nst => ?_⟩⟩
    have s0 : Same H (upd (upd H e0 (.tup [])) st (.lst [.ref e0])) := (same_new ne0).trans (same_new nst)
    have n0 : e0 ≠ st := fun z => by rw [← z, upd_same] at nst; cases nst
    have t0 : TupL (upd (upd H e0 (.tup [])) st (.lst [.ref e0])) st [[]] := ⟨[e0], upd_same, rfl, fun i x S h1 h2 => by
      cases i with
      | zero => cases h1; cases h2; rw [upd_ne n0, upd_same]; rfl
      | succ i => simp at h1⟩
    refine ⟨_, rfl, _, rfl, by omega, by omega, ?_⟩
    rw [Int.toNat_natCast]
    refine for_range (fun k σ H2 => ∃ (st : Addr) (SS : List (List Int)) (v3 v4 v5 v6 : Option V), σ = [some (.int n), some (.int h), some (.ref st), v3, v4, v5, v6] ∧ Same H H2 ∧ TupL H2 st SS ∧ (∀ S ∈ SS, StOk k h S) ∧ SS.length = h ^ k)
      ⟨st, [[]], _, _, _, _, rfl, s0, t0, fun S hS => by rw [List.mem_singleton.mp hS]; exact ⟨rfl, fun z hz => absurd hz List.not_mem_nil⟩, rfl⟩ ?_ ?_
    · rintro k σ H2 hk ⟨st, SS, v3, v4, v5, v6, rfl, s2, tl, ok, len⟩
      have p1 := pk k (by omega)
      have p2 := pk (k + 1) (by omega)
      refine ⟨by decide, fun lz nlz => ?_⟩
      have s3 : Same H2 (upd H2 lz (.lst [])) := same_new nlz
      obtain ⟨as, a1, a2, a3⟩ := id tl
      refine ⟨_, rfl, st, rfl, ⟨_, SqL.of (s3 _ _ a1)⟩, ?_⟩
      refine for_list (K := K) (a := st) (xs := as.map V.ref) (fun i σ H3 => ∃ (LL : List (List Int)) (v5 v6 : Option V), σ = [some (.int n), some (.int h), some (.ref st), some (.int ((0 : Int) + (k : Int))), some (.ref lz), v5, v6] ∧ Same H2 H3 ∧ TupL H3 lz LL ∧ (∀ S ∈ LL, StOk (k + 1) h S) ∧ LL.length = i * h)
        ⟨[], _, _, rfl, s3, ⟨[], upd_same, rfl, fun i x S h1 _ => by simp at h1⟩, fun S hS => absurd hS List.not_mem_nil, by simp⟩ (fun i σ H3 _ ⟨_, _, _, _, s, _⟩ => SqL.of (s _ _ a1)) ?_ ?_
      · rintro i y σ H3 hy ⟨LL, v5, v6, rfl, s4, tL, okL, lenL⟩
        rw [List.getElem?_map] at hy
        obtain ⟨x, hx, rfl⟩ := Option.map_eq_some_iff.mp hy
        have il : i < SS.length := by rw [← a2]; exact (List.getElem?_eq_some_iff.mp hx).1
        obtain ⟨S, hS⟩ : ∃ S, SS[i]? = some S := ⟨_, List.getElem?_eq_getElem il⟩
        have okS := ok S (List.mem_of_getElem? hS)
        have hxS := a3 i x S hx hS
        have room : (i + 1) * h ≤ 256 := by
          have z : (i + 1) * h ≤ h ^ k * h := Nat.mul_le_mul_right h (by rw [← len]; exact il)
          rw [Nat.pow_succ] at p2
          omega
        rw [Nat.add_mul, Nat.one_mul] at room
        refine ⟨_, rfl, _, rfl, by omega, by omega, ?_⟩
        rw [Int.toNat_natCast]
        refine for_range (fun j σ H4 => ∃ (LL : List (List Int)) (v6 : Option V), σ = [some (.int n), some (.int h), some (.ref st), some (.int ((0 : Int) + (k : Int))), some (.ref lz), some (.ref x), v6] ∧ Same H2 H4 ∧ TupL H4 lz LL ∧ (∀ S ∈ LL, StOk (k + 1) h S) ∧ LL.length = i * h + j)
          ⟨LL, _, rfl, s4, tL, okL, lenL⟩ ?_ ?_
        · rintro j σ H4 hj ⟨LL, v6, rfl, s5, tL, okL, lenL⟩
          have ej : (0 : Int) + (j : Int) = (j : Int) := by omega
          rw [ej]
          obtain ⟨asL, l1, l2, l3⟩ := id tL
          refine ⟨_, rfl, .inl ⟨rfl, _, SqL.of l1⟩, _, rfl, _, rfl, by show 1 ≤ sizeLine; decide, fun tt nt => ?_⟩
          have s6 : Same H4 (upd H4 tt (.tup [.int (j : Int)])) := same_new nt
          -- what a turn ends with
          have okN : StOk (k + 1) h (S ++ [(j : Int)]) := ⟨by rw [List.length_append, okS.1]; rfl, fun z hz => by
            rcases List.mem_append.mp hz with hz | hz
            · exact okS.2 z hz
            · rw [List.mem_singleton.mp hz]; omega⟩
          have fin : ∀ (H5 : Hp) (c : Addr), Same H4 H5 → H5 c = some (.tup (stV (S ++ [(j : Int)]))) → rAppend (.ref lz) [.ref c] H5 fun _ H6 => ∃ (LL : List (List Int)) (v6 : Option V),
              ([some (.int n), some (.int h), some (.ref st), some (.int ((0 : Int) + (k : Int))), some (.ref lz), some (.ref x), some (.int (j : Int))] : L2.St) = [some (.int n), some (.int h), some (.ref st), some (.int ((0 : Int) + (k : Int))), some (.ref lz), some (.ref x), v6] ∧ Same H2 H6 ∧ TupL H6 lz LL ∧ (∀ S ∈ LL, StOk (k + 1) h S) ∧ LL.length = i * h + (j + 1) := by
            intro H5 c s7 hc
            obtain ⟨acc, b1, b2, b3⟩ := (tL.same s7).more hc
            refine ⟨lz, acc, _, rfl, rfl, b1, by rw [b2, lenL, sizeLine_eq]; omega, LL ++ [S ++ [(j : Int)]], _, rfl, same_upd (s5.trans s7) nlz, b3, fun S2 h2 => ?_, by rw [List.length_append, lenL]; rfl⟩
            rcases List.mem_append.mp h2 with h2 | h2
            · exact okL S2 h2
            · rw [List.mem_singleton.mp h2]; exact okN
          refine ⟨x, tt, stV S, _, rfl, rfl, SqT.of (s6 _ _ (s5 _ _ hxS)), SqT.of upd_same, ?_, fun hnil => ?_, fun _ z => (by cases z), fun _ _ c nc => ?_⟩
          · rw [List.length_map, okS.1, sizeLine_eq, List.length_singleton]; omega
          · have eS : S = [] := by
              unfold stV at hnil
              exact List.map_eq_nil_iff.mp hnil
            exact fin _ tt s6 (by rw [upd_same, eS]; rfl)
          · exact fin _ c (s6.trans (same_new nc)) (by rw [upd_same]; unfold stV; rw [List.map_append]; rfl)
        · rintro σ H4 ⟨LL, v6, rfl, s5, tL, okL, lenL⟩
          exact ⟨LL, _, _, rfl, s5, tL, okL, by rw [lenL, Nat.add_mul, Nat.one_mul]⟩
      · rintro σ H3 ⟨LL, v5, v6, rfl, s4, tL, okL, lenL⟩
        rw [List.length_map, a2, len] at lenL
        exact ⟨_, rfl, lz, LL, _, _, _, _, rfl, s2.trans s4, tL, okL, by rw [lenL, Nat.pow_succ]⟩
    · rintro σ H2 ⟨st, SS, v3, v4, v5, v6, rfl, s2, tl, ok, len⟩
      exact ⟨_, rfl, q st SS H2 s2 tl ok⟩
/-! ### the first state -/
abbrev s__law_begin : Stmt := top 35
theorem sc__law_begin : FnScope ["pool", "count", "hues", "way", "drawn", "lamp"] ["pool", "count", "hues"] (defScope s__law_begin) := ⟨rfl, rfl, rfl, by decide +kernel, rfl, by decide +kernel, by decide +kernel⟩
-- slots of _law_begin: 0 pool, 1 count, 2 hues, 3 way, 4 drawn, 5 lamp
def spBegin : Sp := fun vs H Q _ => ∃ (p pq : Addr) (n h : Nat), vs = [.ref p, .int n, .int h] ∧ 1 ≤ n ∧ n ≤ 16 ∧ 2 ≤ h ∧ h ≤ 10 ∧ Pool H p pq ∧ ∀ (S : List Int) (t : Addr) (H' : Hp), StOk n h S → SB p H H' → Pool H' p pq → H' t = some (.tup (stV S)) → Q (.ref t) H'
theorem ok__law_begin (T : Txt K mg C) {f : Addr} {fd : FuncData} (F : Fun K "_law_begin" "_law_begin" s__law_begin f fd) (c__law_draw : Cal P w K mg base "_law_draw" 1 spDraw) : FnOk P w K mg base CX0 2 f fd ["pool", "count", "hues"] spBegin := by
  refine F.ok sc__law_begin (fun vs H Q E h => ?_) (fun cdv A outer s H vs Q E hr h => ?_)
  · obtain ⟨p, pq, n, h, rfl, _⟩ := h; rfl
  · obtain ⟨p, pq, n, h, rfl, n1, n16, h2, h10, hp, q⟩ := h
    refine ⟨_, (pss_cons (ps_set (i := 3) sc__law_begin.nd rfl (by first | exact Or.inl rfl | exact Or.inr rfl) (pe_cal c__law_draw (hr.mono (by decide)) (pa_cons (pv 0) (pa_cons pe_int pa_nil))))
      (pss_cons (ps_set (i := 4) sc__law_begin.nd rfl (by first | exact Or.inl rfl | exact Or.inr rfl) (pe_callTy (tupOf_ K) (by rfl) T.tuple b_tuple (pa_cons (pe_lc (own := [("lamp", 5)]) (g := gName 5) (tt := tYes) rfl sc__law_begin.nd (pi_range1 (by rfl) T.range (pa_cons (pv 1) pa_nil)) (blkOk_by (by kernel_rfl)) (fun _ _ _ _ _ => (pg_name (i := 5) sc__law_begin.nd rfl (by first | exact Or.inl rfl | exact Or.inr rfl))) (fun _ _ _ _ _ => pts_nil) (fun _ _ _ _ _ => (pe_cal c__law_draw (hr.mono (by decide)) (pa_cons (pv 0) (pa_cons (pv 2) pa_nil))))) pa_nil)))
      (pss_cons (ps_if (pt_cmpR op_eq (pv 3) pe_int (nomark _))
      (pss_one (ps_ret (pe_callTy (tupOf_ K) (by rfl) T.tuple b_tuple (pa_cons (pe_lc (own := [("lamp", 5)]) (g := gName 5) (tt := tYes) rfl sc__law_begin.nd (pi_range1 (by rfl) T.range (pa_cons (pv 1) pa_nil)) (blkOk_by (by kernel_rfl)) (fun _ _ _ _ _ => (pg_name (i := 5) sc__law_begin.nd rfl (by first | exact Or.inl rfl | exact Or.inr rfl))) (fun _ _ _ _ _ => pts_nil) (fun _ _ _ _ _ => pe_int)) pa_nil)))) pss_nil)
      (pss_cons (ps_if (pt_cmpR op_eq (pv 3) pe_int (nomark _))
      (pss_one (ps_ret (pe_callTy (tupOf_ K) (by rfl) T.tuple b_tuple (pa_cons (pe_lc (own := [("lamp", 5)]) (g := gName 5) (tt := tYes) rfl sc__law_begin.nd (pi_range1 (by rfl) T.range (pa_cons (pv 1) pa_nil)) (blkOk_by (by kernel_rfl)) (fun _ _ _ _ _ => (pg_name (i := 5) sc__law_begin.nd rfl (by first | exact Or.inl rfl | exact Or.inr rfl))) (fun _ _ _ _ _ => pts_nil) (fun _ _ _ _ _ => (pe_op op_sub (pv 2) pe_int))) pa_nil)))) pss_nil)
      (pss_one (ps_ret (pv 4))))))), ?_⟩
    refine ⟨_, rfl, p, pq, 8, rfl, by decide, by decide, hp, fun way H1 _ s1 p1 => ?_⟩
    refine ⟨_, rfl, _, rfl, by omega, by omega, fun D hD => ?_⟩
    rw [Int.toNat_natCast]
    have nDp := (p1.new hD).1
    refine lc_range (fun i H2 => ∃ S : List Int, H2 D = some (.lst (stV S)) ∧ StOk i h S ∧ SB p H H2 ∧ Pool H2 p pq) ⟨[], upd_same, ⟨rfl, fun z hz => absurd hz List.not_mem_nil⟩, s1.trans (SB.of (same_new hD)), p1.same (same_new hD)⟩ ?_ ?_
    · rintro i H2 hi ⟨S, hS, ok, sb, p2⟩
      refine ⟨rfl, yesT ⟨_, rfl, _, rfl, p, pq, h, rfl, by omega, by omega, p2, fun d H3 hd s3 p3 => ?_⟩⟩
      refine ⟨_, s3 _ _ nDp hS, by rw [List.length_map, ok.1, sizeLine_eq]; omega, S ++ [(d : Int)], ?_, ⟨by rw [List.length_append, ok.1]; rfl, fun z hz => ?_⟩, fun b o nb e => ?_, p3.upd nDp (p1.new hD).2⟩
      · rw [upd_same]; unfold stV; rw [List.map_append]; rfl
      · rcases List.mem_append.mp hz with hz | hz
        · exact ok.2 z hz
        · rw [List.mem_singleton.mp hz]; omega
      · have nbD : b ≠ D := fun z => by
          have := s1 _ _ nb e
          rw [z, hD] at this
          cases this
        rw [upd_ne nbD]
        exact (sb.trans s3) b o nb e
    rintro H2 ⟨S, hS, ok, sb, p2⟩
    refine ⟨D, _, rfl, .inl ⟨SqL.of hS, fun t nt => ?_⟩⟩
    have s3 : Same H2 (upd H2 t (.tup (stV S))) := same_new nt
    have ht : (upd H2 t (.tup (stV S))) t = some (.tup (stV S)) := upd_same
    have p3 := p2.same s3
    have sb3 := sb.trans (SB.of (x := p) s3)
    generalize upd H2 t (.tup (stV S)) = H3 at s3 ht p3 sb3 ⊢
    -- a tuple of one and the same hue
    refine ⟨_, rfl, rfl, _, rfl, ite2 (fun _ => ?_) (fun _ => ?_)⟩
    · refine ⟨_, rfl, _, rfl, by omega, by omega, fun D2 hD2 => ?_⟩
      rw [Int.toNat_natCast]
      refine lc_range (fun i H4 => H4 D2 = some (.lst (stV (List.replicate i 0))) ∧ Same H3 H4) ⟨upd_same, same_new hD2⟩ ?_ ?_
      · rintro i H4 hi ⟨h4, s4⟩
        refine ⟨rfl, yesT ⟨_, h4, by rw [List.length_map, List.length_replicate, sizeLine_eq]; omega, ?_, same_upd s4 hD2⟩⟩
        rw [upd_same, List.replicate_succ']; unfold stV; rw [List.map_append]; rfl
      · rintro H4 ⟨h4, s4⟩
        refine ⟨D2, _, rfl, .inl ⟨SqL.of h4, fun t2 nt2 => ?_⟩⟩
        refine q (List.replicate n 0) t2 _ ⟨List.length_replicate, fun z hz => ?_⟩ (sb3.trans (SB.of (s4.trans (same_new nt2)))) (p3.same (s4.trans (same_new nt2))) upd_same
        rw [(List.mem_replicate.mp hz).2]; omega
    · refine ⟨_, rfl, rfl, _, rfl, ite2 (fun _ => ?_) (fun _ => ?_)⟩
      · refine ⟨_, rfl, _, rfl, by omega, by omega, fun D2 hD2 => ?_⟩
        rw [Int.toNat_natCast]
        refine lc_range (fun i H4 => H4 D2 = some (.lst (stV (List.replicate i ((h : Int) - 1)))) ∧ Same H3 H4) ⟨upd_same, same_new hD2⟩ ?_ ?_
        · rintro i H4 hi ⟨h4, s4⟩
          refine ⟨rfl, yesT ⟨_, rfl, _, _, rfl, rfl, _, h4, by rw [List.length_map, List.length_replicate, sizeLine_eq]; omega, ?_, same_upd s4 hD2⟩⟩
          rw [upd_same, List.replicate_succ']; unfold stV; rw [List.map_append]; rfl
        · rintro H4 ⟨h4, s4⟩
          refine ⟨D2, _, rfl, .inl ⟨SqL.of h4, fun t2 nt2 => ?_⟩⟩
          refine q (List.replicate n ((h : Int) - 1)) t2 _ ⟨List.length_replicate, fun z hz => ?_⟩ (sb3.trans (SB.of (s4.trans (same_new nt2)))) (p3.same (s4.trans (same_new nt2))) upd_same
          rw [(List.mem_replicate.mp hz).2]; omega
      · exact ⟨_, rfl, q S t H3 ok sb3 p3 ht⟩
end
end Hue

end
section
set_option maxRecDepth 100000
namespace Hue
open PySem PySem.Spec PyProof.Rows L2
section
variable {P : Program} {w : World} {K : PySem.W.Frag} {mg : Str → Option Value} {base : Heap} {C : Addr}
abbrev s__law_may : Stmt := top 36
theorem sc__law_may : FnScope ["hues", "lowers", "state", "lamp", "careful", "up", "last", "lower"] ["hues", "lowers", "state", "lamp", "careful", "up"] (defScope s__law_may) := ⟨rfl, rfl, rfl, by decide +kernel, rfl, by decide +kernel, by decide +kernel⟩
-- slots of _law_may: 0 hues, 1 lowers, 2 state, 3 lamp, 4 careful, 5 up, 6 last, 7 lower
def spMay : Sp := fun vs H Q _ => ∃ (lz s : Addr) (n h k : Nat) (R : Rel) (S : List Int) (careful up : Bool), vs = [.int h, .ref lz, .ref s, .int k, .bl careful, .bl up] ∧ n ≤ 16 ∧ k < n ∧ Rows H lz (relRows n R) ∧ H s = some (.tup (stV S)) ∧ S.length = n ∧ Q (.bl (mayB n h R S k careful up)) H
theorem ok__law_may (T : Txt K mg C) {f : Addr} {fd : FuncData} (F : Fun K "_law_may" "_law_may" s__law_may f fd) : FnOk P w K mg base CX0 1 f fd ["hues", "lowers", "state", "lamp", "careful", "up"] spMay := by
  refine F.ok sc__law_may (fun vs H Q E h => ?_) (fun cdv A outer s H vs Q E hr h => ?_)
  · obtain ⟨lz, s, n, h, k, R, S, careful, up, rfl, _⟩ := h; rfl
  · obtain ⟨lz, t, n, h, k, R, S, careful, up, rfl, n16, hk, rows, ht, hS, q⟩ := h
    refine ⟨_, (C8.pss_cut (ps_set (i := 6) sc__law_may.nd rfl (by first | exact Or.inl rfl | exact Or.inr rfl) (pe_ifExp (pt_val (pv 5)) (pe_op op_sub (pv 0) pe_int) pe_int))
      (pss_cons (ps_if (pt_cmpR op_eq (pe_ix (ixT_ K) (pv 2) (pv 3) (fun _ _ => rfl)) (pv 6) (nomark _))
      (pss_one (ps_ret pe_bl)) pss_nil)
      (pss_cons (ps_if (pt_val (pv 4))
      (pss_one (ps_for PassesOwn.never rfl (pil_ K (pe_ix (ixL_ K) (pv 1) (pv 3) (fun _ _ => rfl))) (pg_name (i := 7) sc__law_may.nd rfl (by first | exact Or.inl rfl | exact Or.inr rfl))
      (pss_one (ps_if (pt_cmpR op_ne (pe_ix (ixT_ K) (pv 2) (pv 7) (fun _ _ => rfl)) (pv 6) (nomark _))
      (pss_one (ps_ret pe_bl)) pss_nil)))) pss_nil)
      (pss_one (ps_ret pe_bl))))), ?_⟩
    refine ⟨fun σ H2 => H2 = H ∧ σ = [some (.int h), some (.ref lz), some (.ref t), some (.int k), some (.bl careful), some (.bl up), some (.int (lastI h up)), Option.none], ⟨_, rfl, up, rfl, ?_⟩, ?_⟩
    · cases up with
      | true => exact iteT ⟨_, rfl, _, _, rfl, rfl, rfl, rfl⟩
      | false => exact iteF ⟨rfl, rfl⟩
    rintro σ H2 ⟨rfl, rfl⟩
    have kS := stV_get (S := S) (k := k) (by rw [hS]; exact hk)
    refine ⟨_, rfl, _, rfl, t, _, _, _, rfl, rfl, SqT.of ht, atI_nat kS, _, rfl, rfl, _, rfl, ?_⟩
    refine ite2 (fun he => ?_) (fun hne => ?_)
    · have e : at_ S k = lastI h up := by
        have z := of_decide_eq_true he
        injection z
      have m : mayB n h R S k careful up = false := by
        unfold mayB
        rw [decide_eq_true e] <;> rfl
      rw [m] at q
      exact q
    have d1 : at_ S k ≠ lastI h up := fun z => hne (decide_eq_true (by rw [z]))
    refine ⟨_, rfl, careful, rfl, ?_⟩
    cases careful with
    | false =>
      refine iteF ?_
      have m : mayB n h R S k false up = true := may_iff.mpr ⟨d1, fun z => by cases z⟩
      rw [m] at q
      exact q
    | true =>
      refine iteT ?_
      obtain ⟨xs, al, hb, _, hal, hL⟩ := rows.at (relRows_at (R := R) hk)
      refine ⟨_, rfl, _, rfl, lz, xs, _, _, rfl, rfl, SqL.of hb, atI_nat hal, al, rfl, ⟨_, SqL.of hL⟩, ?_⟩
      refine for_list (K := K) (a := al) (xs := nL (Bel n R k)) (fun i σ H3 => H3 = H2 ∧ (∃ v, σ = [some (.int h), some (.ref lz), some (.ref t), some (.int k), some (.bl true), some (.bl up), some (.int (lastI h up)), v]) ∧ ∀ j ∈ (Bel n R k).take i, at_ S j = lastI h up)
        ⟨rfl, ⟨_, rfl⟩, fun j hj => by simp at hj⟩ (fun i σ H3 _ ⟨e, _⟩ => by rw [e]; exact SqL.of hL) ?_ ?_
      · rintro i y σ H3 hy ⟨rfl, ⟨v, rfl⟩, all⟩
        obtain ⟨j, hj, rfl⟩ : ∃ k', (Bel n R k)[i]? = some k' ∧ y = V.int (k' : Int) := by
          unfold nL nI at hy
          rw [List.map_map, List.getElem?_map] at hy
          obtain ⟨j, hj, e⟩ := Option.map_eq_some_iff.mp hy
          exact ⟨j, hj, e.symm⟩
        obtain ⟨jn, rj⟩ := mem_Bel.mp (List.mem_of_getElem? hj)
        have jS := stV_get (S := S) (k := j) (by rw [hS]; exact jn)
        refine ⟨_, rfl, _, rfl, t, _, _, _, rfl, rfl, SqT.of ht, atI_nat jS, _, rfl, rfl, _, rfl, ?_⟩
        refine ite2 (fun hx => ?_) (fun hx => ?_)
        · have m : mayB n h R S k true up = false := by
            cases e : mayB n h R S k true up with
            | false => rfl
            | true =>
              exfalso
              have z := (may_iff.mp e).2 rfl j jn rj
              rw [z] at hx
              simp at hx
          rw [m] at q
          exact q
        · refine ⟨rfl, ⟨_, rfl⟩, fun j2 hj2 => ?_⟩
          rw [List.take_add_one, hj] at hj2
          rcases List.mem_append.mp hj2 with z | z
          · exact all j2 z
          · rw [List.mem_singleton.mp z]
            rcases Classical.em (at_ S j = lastI h up) with e | e
            · exact e
            · exfalso
              apply hx
              have e2 : decide (V.int (at_ S j) = V.int (lastI h up)) = false := decide_eq_false fun z => e (by injection z)
              rw [e2] <;> rfl
      · rintro σ H3 ⟨rfl, ⟨v, rfl⟩, all⟩
        rw [nL_len, List.take_length] at all
        have m : mayB n h R S k true up = true := may_iff.mpr ⟨d1, fun _ j hj r => all j (mem_Bel.mpr ⟨hj, r⟩)⟩
        rw [m] at q
        exact q
abbrev s__law_step : Stmt := top 37
theorem sc__law_step : FnScope ["hues", "lowers", "state", "lamp", "up", "shift", "fresh", "lower"] ["hues", "lowers", "state", "lamp", "up"] (defScope s__law_step) := ⟨rfl, rfl, rfl, by decide +kernel, rfl, by decide +kernel, by decide +kernel⟩
-- slots of _law_step: 0 hues, 1 lowers, 2 state, 3 lamp, 4 up, 5 shift, 6 fresh, 7 lower
def spStep : Sp := fun vs H Q _ => ∃ (lz s : Addr) (n h k : Nat) (R : Rel) (S : List Int) (up : Bool), vs = [.int h, .ref lz, .ref s, .int k, .bl up] ∧ n ≤ 16 ∧ 2 ≤ h ∧ k < n ∧ Irr R ∧ Rows H lz (relRows n R) ∧ H s = some (.tup (stV S)) ∧ S.length = n ∧
  ∀ (t : Addr) (H' : Hp), Same H H' → H' t = some (.tup (stV (stepL n h R S k up))) → Q (.ref t) H'
theorem at_set {L : List Int} {i j : Nat} {v : Int} (hi : i < L.length) : at_ (L.set i v) j = if i = j then v else at_ L j := by
  unfold at_
  rw [List.getD_eq_getElem?_getD, List.getD_eq_getElem?_getD, List.getElem?_set]
  by_cases e : i = j
  · rw [if_pos e, if_pos (by omega), if_pos e]; rfl
  · rw [if_neg e, if_neg e]
theorem stV_set (L : List Int) (i : Nat) (v : Int) : (stV L).set i (V.int v) = stV (L.set i v) := by unfold stV; rw [List.map_set]
theorem ok__law_step (T : Txt K mg C) {f : Addr} {fd : FuncData} (F : Fun K "_law_step" "_law_step" s__law_step f fd) : FnOk P w K mg base CX0 1 f fd ["hues", "lowers", "state", "lamp", "up"] spStep := by
  refine F.ok sc__law_step (fun vs H Q E h => ?_) (fun cdv A outer s H vs Q E hr h => ?_)
  · obtain ⟨lz, s, n, h, k, R, S, up, rfl, _⟩ := h; rfl
  · obtain ⟨lz, t, n, h, k, R, S, up, rfl, n16, h2, hk, irr, rows, ht, hS, q⟩ := h
    refine ⟨_, (C8.pss_cut (ps_set (i := 5) sc__law_step.nd rfl (by first | exact Or.inl rfl | exact Or.inr rfl) (pe_ifExp (pt_val (pv 4)) pe_int (pe_op op_sub pe_int pe_int)))
      (pss_cons (ps_set (i := 6) sc__law_step.nd rfl (by first | exact Or.inl rfl | exact Or.inr rfl) (pe_callTy (lstOf_ K) (by rfl) T.list b_list (pa_cons (pv 2) pa_nil)))
      (pss_cons (ps_asg (pe_op op_add (pe_ix (ixL_ K) (pv 6) (pv 3) (fun _ _ => rfl)) (pv 5)) (pg_sub (pv 6) (pv 3) set_list))
      (pss_cons (ps_for PassesOwn.never rfl (pil_ K (pe_ix (ixL_ K) (pv 1) (pv 3) (fun _ _ => rfl))) (pg_name (i := 7) sc__law_step.nd rfl (by first | exact Or.inl rfl | exact Or.inr rfl))
      (pss_one (ps_asg (pe_op op_mod (pe_callTy call_int1 (by rfl) T.int b_int (pa_cons (pe_op op_add (pe_ix (ixL_ K) (pv 6) (pv 7) (fun _ _ => rfl)) (pv 5)) pa_nil)) (pv 0)) (pg_sub (pv 6) (pv 7) set_list))))
      (pss_one (ps_ret (pe_callTy (tupOf_ K) (by rfl) T.tuple b_tuple (pa_cons (pv 6) pa_nil)))))))), ?_⟩
    refine ⟨fun σ H2 => H2 = H ∧ σ = [some (.int h), some (.ref lz), some (.ref t), some (.int k), some (.bl up), some (.int (shI up)), Option.none, Option.none], ⟨_, rfl, up, rfl, ?_⟩, ?_⟩
    · cases up with
      | true => exact iteT ⟨rfl, rfl⟩
      | false => exact iteF ⟨_, _, rfl, rfl, rfl, rfl⟩
    rintro σ H2 ⟨rfl, rfl⟩
    have kS := stV_get (S := S) (k := k) (by rw [hS]; exact hk)
    refine ⟨_, rfl, t, _, rfl, .inr (SqT.of ht), fun fr nf => ?_⟩
    have s1 : Same H2 (upd H2 fr (.lst (stV S))) := same_new nf
    have hf1 : (upd H2 fr (.lst (stV S))) fr = some (.lst (stV S)) := upd_same
    generalize upd H2 fr (.lst (stV S)) = H3 at s1 hf1 ⊢
    refine ⟨_, rfl, _, rfl, fr, _, _, _, rfl, rfl, SqL.of hf1, atI_nat kS, _, rfl, _, _, rfl, rfl, _, rfl, _, rfl, set_at hf1 (ixN_nat (by rw [List.length_map, hS]; exact hk)) fun H4 s4 h4 => ?_⟩
    rw [stV_set] at h4
    have s24 : Same H2 H4 := s4.to_same s1 nf
    obtain ⟨xs, al, hb, _, hal, hL⟩ := rows.at (relRows_at (R := R) hk)
    refine ⟨_, rfl, _, rfl, lz, xs, _, _, rfl, rfl, SqL.of (s24 _ _ hb), atI_nat hal, al, rfl, ⟨_, SqL.of (s24 _ _ hL)⟩, ?_⟩
    have bnd : (Bel n R k).Nodup := by
      unfold Bel
      exact List.Pairwise.filter _ List.nodup_range
    refine for_list (K := K) (a := al) (xs := nL (Bel n R k)) (fun i σ H5 => ∃ (v : Option V) (L : List Int), σ = [some (.int h), some (.ref lz), some (.ref t), some (.int k), some (.bl up), some (.int (shI up)), some (.ref fr), v] ∧ Same H2 H5 ∧ H5 fr = some (.lst (stV L)) ∧ L.length = n ∧
        ∀ j, j < n → at_ L j = if j = k then at_ S k + shI up else if j ∈ (Bel n R k).take i then (at_ S j + shI up) % (h : Int) else at_ S j)
      ⟨_, _, rfl, s24, h4, by rw [List.length_set]; exact hS, fun j hj => ?_⟩ (fun i σ H5 _ ⟨_, _, _, s, _⟩ => SqL.of (s _ _ hL)) ?_ ?_
    · rw [at_set (by omega)]
      by_cases e : k = j
      · rw [if_pos e, if_pos e.symm]
      · rw [if_neg e, if_neg (fun z => e z.symm), if_neg (by simp)]
    · rintro i y σ H5 hy ⟨v, L, rfl, s5, h5, lL, val⟩
      obtain ⟨j, hj, rfl⟩ : ∃ k', (Bel n R k)[i]? = some k' ∧ y = V.int (k' : Int) := by
        unfold nL nI at hy
        rw [List.map_map, List.getElem?_map] at hy
        obtain ⟨j, hj, e⟩ := Option.map_eq_some_iff.mp hy
        exact ⟨j, hj, e.symm⟩
      obtain ⟨jn, rj⟩ := mem_Bel.mp (List.mem_of_getElem? hj)
      have jL := stV_get (S := L) (k := j) (by rw [lL]; exact jn)
      refine ⟨_, rfl, _, rfl, fr, _, _, _, rfl, rfl, SqL.of h5, atI_nat jL, _, rfl, _, _, rfl, rfl, .inl ⟨_, rfl, _, rfl, _, _, rfl, rfl, (by show (0 : Int) < (h : Int); omega), _, rfl, _, rfl, set_at h5 (ixN_nat (by rw [List.length_map, lL]; exact jn)) fun H6 s6 h6 => ?_⟩⟩
      have h6' : H6 fr = some (.lst (stV (L.set j ((at_ L j + shI up) % (h : Int))))) := by rw [← stV_set]; exact h6
      have nj : j ≠ k := fun z => by rw [z, irr k] at rj; cases rj
      have njt : j ∉ (Bel n R k).take i := fun z => by
        obtain ⟨m, hm, em⟩ := List.getElem_of_mem z
        rw [List.length_take] at hm
        rw [List.getElem_take] at em
        have := nodup_at' bnd (show (Bel n R k)[m]? = some j by rw [List.getElem?_eq_getElem (by omega), em]) hj
        omega
      have vj := val j jn
      rw [if_neg nj, if_neg njt] at vj
      refine ⟨_, _, rfl, s6.to_same s5 nf, h6', by rw [List.length_set]; exact lL, fun m hm => ?_⟩
      rw [at_set (by omega), vj]
      have tk : (Bel n R k).take (i + 1) = (Bel n R k).take i ++ [j] := by rw [List.take_add_one, hj]; rfl
      by_cases e : j = m
      · rw [if_pos e, if_neg (fun z => nj (e.trans z)), if_pos (by rw [tk, ← e]; exact List.mem_append_right _ List.mem_cons_self), e]
      · rw [if_neg e, val m hm, tk]
        have e2 : (m ∈ (Bel n R k).take i ++ [j]) ↔ m ∈ (Bel n R k).take i := by
          rw [List.mem_append]
          exact ⟨fun z => z.elim id fun z => absurd (List.mem_singleton.mp z).symm e, .inl⟩
        simp only [e2]
    · rintro σ H5 ⟨v, L, rfl, s5, h5, lL, val⟩
      rw [nL_len, List.take_length] at val
      have eL : L = stepL n h R S k up := by
        unfold stepL
        refine st_ext lL fun j hj => ?_
        rw [val j hj]
        have e2 : j ∈ Bel n R k ↔ R k j = true := ⟨fun z => (mem_Bel.mp z).2, fun z => mem_Bel.mpr ⟨hj, z⟩⟩
        simp only [e2]
      rw [eL] at h5
      exact ⟨_, rfl, fr, _, rfl, .inl ⟨SqL.of h5, fun t2 nt2 => q t2 _ (s5.trans (same_new nt2)) upd_same⟩⟩
abbrev s__law_found : Stmt := top 38
theorem sc__law_found : FnScope ["hues", "lowers", "state", "careful", "up", "found", "met", "k", "lamp", "fresh"] ["hues", "lowers", "state", "careful", "up"] (defScope s__law_found) := ⟨rfl, rfl, rfl, by decide +kernel, rfl, by decide +kernel, by decide +kernel⟩
-- slots of _law_found: 0 hues, 1 lowers, 2 state, 3 careful, 4 up, 5 found, 6 met, 7 k, 8 lamp, 9 fresh
/-- what is found so far: in the dict at d, and in the list at m -/
structure FInv (H0 H : Hp) (d m : Addr) (n h : Nat) (R : Rel) (careful up : Bool) (S0 : List Int) (F : List (List Int)) : Prop where
  same : Same H0 H
  dict : H d = some (.dT (fdict F))
  met : TupL H m F
  nd : F.Nodup
  ok : ∀ S ∈ F, StOk n h S
  m0 : S0 ∈ F
  snd : ∀ T ∈ F, Rt n h R careful up S0 T
def Closed (n h : Nat) (R : Rel) (careful up : Bool) (F : List (List Int)) (k : Nat) : Prop := ∀ (i : Nat) T, i < k → F[i]? = some T → ∀ U, Next n h R careful up T U → U ∈ F
def spFound : Sp := fun vs H Q _ => ∃ (lz s : Addr) (n h : Nat) (R : Rel) (S0 : List Int) (careful up : Bool), vs = [.int h, .ref lz, .ref s, .bl careful, .bl up] ∧ SmallOk n h ∧ Irr R ∧ Rows H lz (relRows n R) ∧ H s = some (.tup (stV S0)) ∧ StOk n h S0 ∧
  ∀ (d : Addr) (F : List (List Int)) (H' : Hp), Same H H' → H' d = some (.dT (fdict F)) → (∀ T, T ∈ F ↔ Rt n h R careful up S0 T) → Q (.ref d) H'
theorem TupL.dict {H : Hp} {a d : Addr} {SS : List (List Int)} {kvs : List (List Key × V)} {o : HO} (h : TupL H a SS) (hd : H d = some (.dT kvs)) : TupL (upd H d o) a SS := by
  obtain ⟨as, a1, a2, a3⟩ := h
  refine ⟨as, by rw [upd_ne (ne_of a1 hd (by intro z; cases z))]; exact a1, a2, fun i x S h1 h2 => ?_⟩
  have z := a3 i x S h1 h2
  rw [upd_ne (ne_of z hd (by intro z; cases z))]
  exact z
theorem ok__law_found (T : Txt K mg C) {f : Addr} {fd : FuncData} (F : Fun K "_law_found" "_law_found" s__law_found f fd) (c__law_may : Cal P w K mg base "_law_may" 1 spMay) (c__law_step : Cal P w K mg base "_law_step" 1 spStep) : FnOk P w K mg base CX0 2 f fd ["hues", "lowers", "state", "careful", "up"] spFound := by
  refine F.ok sc__law_found (fun vs H Q E h => ?_) (fun cdv A outer s H vs Q E hr h => ?_)
  · obtain ⟨lz, s, n, h, R, S0, careful, up, rfl, _⟩ := h; rfl
  · obtain ⟨lz, t, n, h, R, S0, careful, up, rfl, ⟨⟨n1, n8⟩, ⟨h2, h10⟩, pw⟩, irr, rows, ht, ok0, q⟩ := h
    refine ⟨_, (pss_cons (ps_set (i := 5) sc__law_found.nd rfl (by first | exact Or.inl rfl | exact Or.inr rfl) (hu_pe_disp1 (hu_of hr) (pv 2) pe_bl))
      (pss_cons (ps_set (i := 6) sc__law_found.nd rfl (by first | exact Or.inl rfl | exact Or.inr rfl) (pe_lst (pa_cons (pv 2) pa_nil)))
      (pss_cons (ps_for PassesOwn.never rfl (pi_range1 (by rfl) T.range (pa_cons pe_int pa_nil)) (pg_name (i := 7) sc__law_found.nd rfl (by first | exact Or.inl rfl | exact Or.inr rfl))
      (pss_cons (ps_if (pt_cmpR op_eq (pv 7) (pe_callB (lenS_ K) (by rfl) T.len b_len (pa_cons (pv 6) pa_nil)) (nomark _))
      (pss_one ps_break) pss_nil)
      (pss_one (ps_for PassesOwn.never rfl (pi_range1 (by rfl) T.range (pa_cons (pe_callB (lenS_ K) (by rfl) T.len b_len (pa_cons (pv 2) pa_nil)) pa_nil)) (pg_name (i := 8) sc__law_found.nd rfl (by first | exact Or.inl rfl | exact Or.inr rfl))
      (pss_one (ps_if (pt_val (pe_cal c__law_may (hr.mono (by decide)) (pa_cons (pv 0) (pa_cons (pv 1) (pa_cons (pe_ix (ixL_ K) (pv 6) (pv 7) (fun _ _ => rfl)) (pa_cons (pv 8) (pa_cons (pv 3) (pa_cons (pv 4) pa_nil))))))))
      (pss_cons (ps_set (i := 9) sc__law_found.nd rfl (by first | exact Or.inl rfl | exact Or.inr rfl) (pe_cal c__law_step (hr.mono (by decide)) (pa_cons (pv 0) (pa_cons (pv 1) (pa_cons (pe_ix (ixL_ K) (pv 6) (pv 7) (fun _ _ => rfl)) (pa_cons (pv 8) (pa_cons (pv 4) pa_nil)))))))
      (pss_one (ps_if (pt_cmp (pc_dnotin (hu_of hr) (pv 9) (pv 5)) (by rfl))
      (pss_cons (ps_dput (hu_of hr) (pv 5) (pv 9) pe_bl rfl)
      (pss_one (ps_expr (pe_bm PySem.F.plainAttrs_list PySem.F.slot_list_append PySem.F.type_list_append mt_append (pv 6) (pa_cons (pv 9) pa_nil))))) pss_nil))) pss_nil))))))
      (pss_one (ps_ret (pv 5)))))), ?_⟩
    -- found = {state: True}; met = [state]
    intro d nd_
    have s1 : Same H (upd H d (.dT [])) := same_new nd_
    refine ⟨_, rfl, upd_same, t, dk S0, rfl, by rw [dk_V]; exact s1 _ _ ht, ?_⟩
    rw [upd_upd, show putK ([] : List (List Key × V)) (dk S0) (V.bl true) = fdict [S0] from put_f (F := []) List.not_mem_nil]
    have s2 : Same H (upd H d (.dT (fdict [S0]))) := same_new nd_
    have hd2 : (upd H d (.dT (fdict [S0]))) d = some (.dT (fdict [S0])) := upd_same
    generalize upd H d (.dT (fdict [S0])) = H2 at s2 hd2 ⊢
    refine ⟨_, rfl, by show 1 ≤ sizeLine; decide, fun m nm => ?_⟩
    have s3 : Same H2 (upd H2 m (.lst [.ref t])) := same_new nm
    have inv0 : FInv H (upd H2 m (.lst [.ref t])) d m n h R careful up S0 [S0] := ⟨s2.trans s3, s3 _ _ hd2, ⟨[t], upd_same, rfl, fun i x S h1 h2 => by
      cases i with
      | zero => cases h1; cases h2; exact s3 _ _ (s2 _ _ ht)
      | succ i => simp at h1⟩, by simp, fun S hS => by rw [List.mem_singleton.mp hS]; exact ok0, List.mem_cons_self, fun S hS => by rw [List.mem_singleton.mp hS]; exact .refl _⟩
    have hm0 : H m = Option.none := s2.free nm
    generalize upd H2 m (.lst [.ref t]) = H3 at inv0 ⊢
    -- behind the loop all is found
    have fin : ∀ (H4 : Hp) (F : List (List Int)), FInv H H4 d m n h R careful up S0 F → Closed n h R careful up F F.length → Q (.ref d) H4 := fun H4 F i cl =>
      q d F H4 i.same i.dict fun T => found_all i.m0 i.snd (fun T hT U nx => by
        obtain ⟨j, hj, e⟩ := List.getElem_of_mem hT
        exact cl j T hj (by rw [List.getElem?_eq_getElem hj, e]) U nx) T
    refine ⟨256, rfl, by decide, by decide, ?_⟩
    refine for_range (n := 256) (fun k σ H4 => ∃ (v7 v8 v9 : Option V) (F : List (List Int)), σ = [some (.int h), some (.ref lz), some (.ref t), some (.bl careful), some (.bl up), some (.ref d), some (.ref m), v7, v8, v9] ∧ FInv H H4 d m n h R careful up S0 F ∧ k ≤ F.length ∧ Closed n h R careful up F k)
      ⟨_, _, _, [S0], rfl, inv0, Nat.zero_le _, fun i T hi => by omega⟩ ?_ ?_
    · rintro k σ H4 hk ⟨v7, v8, v9, F, rfl, inv, kle, cl⟩
      have few := count_states inv.nd inv.ok
      have e0 : (0 : Int) + (k : Int) = (k : Int) := by omega
      rw [e0]
      obtain ⟨as, a1, a2, a3⟩ := inv.met
      refine ⟨_, rfl, _, rfl, m, _, rfl, .inl (SqL.of a1), rfl, _, rfl, ?_⟩
      rw [List.length_map, a2]
      refine ite2 (fun he => ?_) (fun hne => ?_)
      · have ek : k = F.length := by
          have z := of_decide_eq_true he
          injection z with z
          omega
        rw [ek] at cl
        exact ⟨_, rfl, fin H4 F inv cl⟩
      have nk : k ≠ F.length := fun z => hne (decide_eq_true (by rw [z]))
      refine ⟨_, rfl, t, _, rfl, .inr (SqT.of (inv.same _ _ ht)), _, rfl, by rw [List.length_map, ok0.1]; omega, by rw [List.length_map, ok0.1]; omega, ?_⟩
      rw [List.length_map, ok0.1, Int.toNat_natCast]
      rcases Nat.lt_or_ge k F.length with kl | kg
      · -- the k-th
        obtain ⟨S, hS⟩ : ∃ S, F[k]? = some S := ⟨_, List.getElem?_eq_getElem kl⟩
        refine for_range (fun l σ H5 => ∃ (v8 v9 : Option V) (F' : List (List Int)), σ = [some (.int h), some (.ref lz), some (.ref t), some (.bl careful), some (.bl up), some (.ref d), some (.ref m), some (.int (k : Int)), v8, v9] ∧ FInv H H5 d m n h R careful up S0 F' ∧ (∃ G, F' = F ++ G) ∧ ∀ l', l' < l → mayB n h R S l' careful up = true → stepL n h R S l' up ∈ F')
          ⟨_, _, F, rfl, inv, ⟨[], (List.append_nil F).symm⟩, fun l' hl => by omega⟩ ?_ ?_
        · rintro l σ H5 hl ⟨v8, v9, F', rfl, inv5, ⟨G, eG⟩, done⟩
          have el : (0 : Int) + (l : Int) = (l : Int) := by omega
          rw [el]
          have hS' : F'[k]? = some S := by rw [eG, List.getElem?_append_left kl]; exact hS
          have okS := inv5.ok S (List.mem_of_getElem? hS')
          obtain ⟨as', b1, b2, b3⟩ := inv5.met
          obtain ⟨x, hx⟩ : ∃ x, as'[k]? = some x := ⟨_, List.getElem?_eq_getElem (by rw [b2]; exact (List.getElem?_eq_some_iff.mp hS').1)⟩
          have hxS := b3 k x S hx hS'
          have hxV : (as'.map V.ref)[k]? = some (V.ref x) := by rw [List.getElem?_map, hx]; rfl
          have few' := count_states inv5.nd inv5.ok
          have rows5 := rows.same inv5.same
          refine ⟨_, rfl, _, rfl, _, rfl, _, rfl, m, _, _, _, rfl, rfl, SqL.of b1, atI_nat hxV, _, rfl, _, rfl, _, rfl, lz, x, n, h, l, R, S, careful, up, rfl, by omega, hl, rows5, hxS, okS.1, _, rfl, ?_⟩
          refine ite2 (fun hmay => ?_) (fun hmay => ?_)
          · refine ⟨_, rfl, _, rfl, _, rfl, _, rfl, m, _, _, _, rfl, rfl, SqL.of b1, atI_nat hxV, _, rfl, _, rfl, lz, x, n, h, l, R, S, up, rfl, by omega, h2, hl, irr, rows5, hxS, okS.1, fun t2 H6 s6 ht2 => ?_⟩
            have inv6 : FInv H H6 d m n h R careful up S0 F' := ⟨inv5.same.trans s6, s6 _ _ inv5.dict, inv5.met.same s6, inv5.nd, inv5.ok, inv5.m0, inv5.snd⟩
            have nx : Next n h R careful up S (stepL n h R S l up) := ⟨l, hl, hmay, rfl⟩
            have okN := step_ok h2 okS hl hmay
            generalize hN : stepL n h R S l up = N at ht2 nx okN
            have dg : DGet H6 d (.ref t2) (valV (fdict F') (dk N)) := DGet.t inv6.dict (by rw [dk_V]; exact ht2)
            refine ⟨_, rfl, _, rfl, d, _, rfl, dg, _, rfl, ?_⟩
            rw [val_f]
            refine ite2 (fun hnew => ?_) (fun hold => ?_)
            · have new : N ∉ F' := by simpa using hnew
              have lF : (fdict F').length < sizeLine := by unfold fdict; rw [List.length_map, sizeLine_eq]; omega
              have dp : DPut H6 d (.ref t2) (.bl true) (upd H6 d (.dT (fdict (F' ++ [N])))) := by
                rw [← put_f new]
                exact DPut.t inv6.dict (by rw [dk_V]; exact ht2) lF
              refine ⟨_, rfl, _, rfl, d, _, rfl, dp, ?_⟩
              have met7 : TupL (upd H6 d (.dT (fdict (F' ++ [N])))) m F' := inv6.met.dict inv6.dict
              have ht7 : (upd H6 d (.dT (fdict (F' ++ [N])))) t2 = some (.tup (stV N)) := by rw [upd_ne (ne_of ht2 inv6.dict (by intro z; cases z))]; exact ht2
              have hd7 : (upd H6 d (.dT (fdict (F' ++ [N])))) d = some (.dT (fdict (F' ++ [N]))) := upd_same
              have s7 : Same H (upd H6 d (.dT (fdict (F' ++ [N])))) := same_upd inv6.same nd_
              generalize upd H6 d (.dT (fdict (F' ++ [N]))) = H7 at met7 ht7 hd7 s7 ⊢
              obtain ⟨acc, c1, c2, c3⟩ := met7.more ht7
              have few7 := few'
              refine ⟨_, rfl, .inl ⟨rfl, _, SqL.of c1⟩, _, rfl, m, acc, _, rfl, rfl, c1, by rw [c2, sizeLine_eq]; omega, ?_⟩
              refine ⟨_, _, F' ++ [N], rfl, ⟨same_upd s7 hm0, by rw [upd_ne (ne_of hd7 c1 (by intro z; cases z))]; exact hd7, c3, ?_, fun S2 h2' => ?_, List.mem_append_left _ inv6.m0, fun S2 h2' => ?_⟩, ⟨G ++ [N], by rw [eG, List.append_assoc]⟩, fun l' hl' may' => ?_⟩
              · rw [List.nodup_append]
                exact ⟨inv6.nd, by simp, fun b hb b2 hb2 e => by rw [List.mem_singleton.mp hb2] at e; exact new (e ▸ hb)⟩
              · rcases List.mem_append.mp h2' with z | z
                · exact inv6.ok S2 z
                · rw [List.mem_singleton.mp z]; exact okN
              · rcases List.mem_append.mp h2' with z | z
                · exact inv6.snd S2 z
                · rw [List.mem_singleton.mp z]; exact .tail (inv6.snd S (List.mem_of_getElem? hS')) nx
              · rcases Nat.lt_or_ge l' l with z | z
                · exact List.mem_append_left _ (done l' z may')
                · have e : l' = l := by omega
                  rw [e, hN]; exact List.mem_append_right _ List.mem_cons_self
            · have old : N ∈ F' := by simpa using hold
              refine ⟨_, _, F', rfl, inv6, ⟨G, eG⟩, fun l' hl' may' => ?_⟩
              rcases Nat.lt_or_ge l' l with z | z
              · exact done l' z may'
              · have e : l' = l := by omega
                rw [e, hN]; exact old
          · refine ⟨_, _, F', rfl, inv5, ⟨G, eG⟩, fun l' hl' may' => ?_⟩
            rcases Nat.lt_or_ge l' l with z | z
            · exact done l' z may'
            · have e : l' = l := by omega
              rw [e] at may'
              exact absurd may' hmay
        · rintro σ H5 ⟨v8, v9, F', rfl, inv5, ⟨G, eG⟩, done⟩
          refine ⟨_, _, _, F', rfl, inv5, by rw [eG, List.length_append]; omega, fun i S2 hi hS2 U nx => ?_⟩
          rcases Nat.lt_or_ge i k with z | z
          · rw [eG, List.getElem?_append_left (by omega)] at hS2
            rw [eG]
            exact List.mem_append_left _ (cl i S2 z hS2 U nx)
          · have e : i = k := by omega
            rw [e, eG, List.getElem?_append_left kl, hS] at hS2
            cases hS2
            obtain ⟨l', hl', may', rfl⟩ := nx
            exact done l' hl' may'
      · exfalso
        omega
    · rintro σ H4 ⟨v7, v8, v9, F, rfl, inv, _, cl⟩
      have few := count_states inv.nd inv.ok
      exact ⟨_, rfl, fin H4 F inv fun i T hi => cl i T (by omega)⟩
end
end Hue

end
section
set_option maxRecDepth 100000
set_option maxHeartbeats 4000000
namespace Hue
open PySem PySem.Spec PyProof.Rows L2
section
variable {P : Program} {w : World} {K : PySem.W.Frag} {mg : Str → Option Value} {base : Heap} {C : Addr}
theorem refs_ne {as : List Addr} {l : Addr} {r : Int} {t : List V} : as.map V.ref ≠ V.ref l :: V.int r :: t := by
  intro z
  match as, z with
  | [], z => cases z
  | [_], z => cases z
  | _ :: _ :: _, z => injection z with _ z; injection z with z _; cases z
theorem Rows.pool {H H' : Hp} {p q b : Addr} {rows : List (List Nat)} (h : Rows H b rows) (hp : Pool H p q) (s : SB p H H') : Rows H' b rows := by
  obtain ⟨as, h1, h2, h3⟩ := h
  exact ⟨as, s _ _ (hp.ne h1 fun l r => refs_ne) h1, h2, fun i a r ha hr => s _ _ (hp.neN (h3 i a r ha hr)) (h3 i a r ha hr)⟩
theorem HouseAt.pool {H H' : Hp} {p q x : Addr} {n h : Nat} {R : Rel} (a : HouseAt C H x n h R) (hp : Pool H p q) (s : SB p H H') : HouseAt C H' x n h R := by
  obtain ⟨dx, fs, be, o, h1, h2, h3, h4, h5, h6, h7, h8, h9⟩ := a
  obtain ⟨xs, hpx⟩ := hp.at
  exact ⟨dx, fs, be, o, s _ _ (ne_of h1 hpx (by intro z; cases z)) h1, h2, h3, h4, h5.pool hp s, h6, s _ _ (hp.neN h7) h7, h8, h9⟩
theorem rank_of {line : List Nat} (nd : line.Nodup) : ∃ ρ : Nat → Nat, ∀ (i : Nat) k, line[i]? = some k → ρ k = i := by
  classical
  refine ⟨fun k => if h : ∃ i : Nat, line[i]? = some k then Classical.choose h else 0, fun i k hi => ?_⟩
  have h : ∃ i : Nat, line[i]? = some k := ⟨i, hi⟩
  show (if h : ∃ i : Nat, line[i]? = some k then Classical.choose h else 0) = i
  rw [dif_pos h]
  exact nodup_at nd (Classical.choose_spec h) hi
abbrev s_law : Stmt := top 39
theorem sc_law : FnScope ["script", "pool", "sizes", "line", "wires", "lowers", "house", "state", "down", "careful_down", "up", "careful_up", "other", "falls", "rises"] ["script"] (defScope s_law) := ⟨rfl, rfl, rfl, by decide +kernel, rfl, by decide +kernel, by decide +kernel⟩
-- slots of law: 0 script, 1 pool, 2 sizes, 3 line, 4 wires, 5 lowers, 6 house, 7 state, 8 down, 9 careful_down, 10 up, 11 careful_up, 12 other, 13 falls, 14 rises
def spLaw (K : PySem.W.Frag) : Sp := fun vs H Q _ => ∃ (a : Addr) (ns : List Int), vs = [.ref a] ∧ SqL K H a (ns.map V.int) ∧ ns.length ≤ 63 ∧ ∀ H', Q (.bl true) H'
theorem ok_law (T : Txt K mg C) {f : Addr} {fd : FuncData} (F : Fun K "law" "law" s_law f fd) (c__law_pool : Cal P w K mg base "_law_pool" 1 (spPool K)) (c__law_small : Cal P w K mg base "_law_small" 2 spSmall) (c__law_line : Cal P w K mg base "_law_line" 2 spLine)
    (c__law_wires : Cal P w K mg base "_law_wires" 2 spWires) (c__law_uppers : Cal P w K mg base "_law_uppers" 1 spUppers) (c__law_lowers : Cal P w K mg base "_law_lowers" 1 spLowers) (c_House : NCal P w K mg base C "House" 5 (spInit K C))
    (c__law_begin : Cal P w K mg base "_law_begin" 2 spBegin) (c__law_found : Cal P w K mg base "_law_found" 2 spFound) (c__law_all : Cal P w K mg base "_law_all" 1 spAll) (c_is_reachable : Cal P w K mg base "is_reachable" 7 (spReaches C)) :
    FnOk P w K mg base CX0 8 f fd ["script"] (spLaw K) := by
  refine F.ok sc_law (fun vs H Q E h => ?_) (fun cdv A outer s H vs Q E hr h => ?_)
  · obtain ⟨a, ns, rfl, _⟩ := h; rfl
  · obtain ⟨a, ns, rfl, ha, _, q⟩ := h
    refine ⟨_, (pss_cons (ps_set (i := 1) sc_law.nd rfl (by first | exact Or.inl rfl | exact Or.inr rfl) (pe_cal c__law_pool (hr.mono (by decide)) (pa_cons (pv 0) pa_nil)))
      (pss_cons (ps_set (i := 2) sc_law.nd rfl (by first | exact Or.inl rfl | exact Or.inr rfl) (pe_cal c__law_small (hr.mono (by decide)) (pa_cons (pv 1) pa_nil)))
      (pss_cons (ps_set (i := 3) sc_law.nd rfl (by first | exact Or.inl rfl | exact Or.inr rfl) (pe_cal c__law_line (hr.mono (by decide)) (pa_cons (pv 1) (pa_cons (pe_ix (ixT_ K) (pv 2) pe_int (fun _ _ => rfl)) pa_nil))))
      (pss_cons (ps_set (i := 4) sc_law.nd rfl (by first | exact Or.inl rfl | exact Or.inr rfl) (pe_cal c__law_wires (hr.mono (by decide)) (pa_cons (pv 1) (pa_cons (pv 3) pa_nil))))
      (pss_cons (ps_set (i := 5) sc_law.nd rfl (by first | exact Or.inl rfl | exact Or.inr rfl) (pe_cal c__law_lowers (hr.mono (by decide)) (pa_cons (pe_cal c__law_uppers (hr.mono (by decide)) (pa_cons (pv 3) (pa_cons (pv 4) pa_nil))) pa_nil)))
      (pss_cons (ps_set (i := 6) sc_law.nd rfl (by first | exact Or.inl rfl | exact Or.inr rfl) (pe_ncal c_House (hr.mono (by decide)) (pa_cons (pe_ix (ixT_ K) (pv 2) pe_int (fun _ _ => rfl)) (pa_cons (pe_ix (ixT_ K) (pv 2) pe_int (fun _ _ => rfl)) (pa_cons (pe_callTy (lstOf_ K) (by rfl) T.list b_list (pa_cons (pv 4) pa_nil)) pa_nil)))))
      (pss_cons (ps_set (i := 7) sc_law.nd rfl (by first | exact Or.inl rfl | exact Or.inr rfl) (pe_cal c__law_begin (hr.mono (by decide)) (pa_cons (pv 1) (pa_cons (pe_ix (ixT_ K) (pv 2) pe_int (fun _ _ => rfl)) (pa_cons (pe_ix (ixT_ K) (pv 2) pe_int (fun _ _ => rfl)) pa_nil)))))
      (pss_cons (ps_set (i := 8) sc_law.nd rfl (by first | exact Or.inl rfl | exact Or.inr rfl) (pe_cal c__law_found (hr.mono (by decide)) (pa_cons (pe_ix (ixT_ K) (pv 2) pe_int (fun _ _ => rfl)) (pa_cons (pv 5) (pa_cons (pv 7) (pa_cons pe_bl (pa_cons pe_bl pa_nil)))))))
      (pss_cons (ps_set (i := 9) sc_law.nd rfl (by first | exact Or.inl rfl | exact Or.inr rfl) (pe_cal c__law_found (hr.mono (by decide)) (pa_cons (pe_ix (ixT_ K) (pv 2) pe_int (fun _ _ => rfl)) (pa_cons (pv 5) (pa_cons (pv 7) (pa_cons pe_bl (pa_cons pe_bl pa_nil)))))))
      (pss_cons (ps_set (i := 10) sc_law.nd rfl (by first | exact Or.inl rfl | exact Or.inr rfl) (pe_cal c__law_found (hr.mono (by decide)) (pa_cons (pe_ix (ixT_ K) (pv 2) pe_int (fun _ _ => rfl)) (pa_cons (pv 5) (pa_cons (pv 7) (pa_cons pe_bl (pa_cons pe_bl pa_nil)))))))
      (pss_cons (ps_set (i := 11) sc_law.nd rfl (by first | exact Or.inl rfl | exact Or.inr rfl) (pe_cal c__law_found (hr.mono (by decide)) (pa_cons (pe_ix (ixT_ K) (pv 2) pe_int (fun _ _ => rfl)) (pa_cons (pv 5) (pa_cons (pv 7) (pa_cons pe_bl (pa_cons pe_bl pa_nil)))))))
      (pss_cons (ps_for PassesOwn.never rfl (pil_ K (pe_cal c__law_all (hr.mono (by decide)) (pa_cons (pe_ix (ixT_ K) (pv 2) pe_int (fun _ _ => rfl)) (pa_cons (pe_ix (ixT_ K) (pv 2) pe_int (fun _ _ => rfl)) pa_nil)))) (pg_name (i := 12) sc_law.nd rfl (by first | exact Or.inl rfl | exact Or.inr rfl))
      (pss_cons (ps_set (i := 13) sc_law.nd rfl (by first | exact Or.inl rfl | exact Or.inr rfl) (pe_cal c_is_reachable (hr.mono (by decide)) (pa_cons (pv 6) (pa_cons (pv 7) (pa_cons (pv 12) pa_nil)))))
      (pss_cons (ps_set (i := 14) sc_law.nd rfl (by first | exact Or.inl rfl | exact Or.inr rfl) (pe_cal c_is_reachable (hr.mono (by decide)) (pa_cons (pv 6) (pa_cons (pv 12) (pa_cons (pv 7) pa_nil)))))
      (pss_cons (ps_if (PW.pt (pw_or (pt_not (pt_val (pe_callB (isi_ K) (by rfl) T.isinstance b_isinstance (pa_cons (pv 13) (pa_cons (pe_bltn (v := .ty "bool") (by rfl) T.bool b_bool rfl) pa_nil))))) (pw_or1 (pt_not (pt_val (pe_callB (isi_ K) (by rfl) T.isinstance b_isinstance (pa_cons (pv 14) (pa_cons (pe_bltn (v := .ty "bool") (by rfl) T.bool b_bool rfl) pa_nil))))))))
      (pss_one (ps_ret pe_bl)) pss_nil)
      (pss_cons (ps_if (PW.pt (pw_or (pt_cmpR op_ne (pv 13) (pe_cmp (pc_din (hu_of hr) (pv 12) (pv 8)) (by rfl)) (nomark _)) (pw_or1 (pt_cmpR op_ne (pv 13) (pe_cmp (pc_din (hu_of hr) (pv 12) (pv 9)) (by rfl)) (nomark _)))))
      (pss_one (ps_ret pe_bl)) pss_nil)
      (pss_one (ps_if (PW.pt (pw_or (pt_cmpR op_ne (pv 14) (pe_cmp (pc_din (hu_of hr) (pv 12) (pv 10)) (by rfl)) (nomark _)) (pw_or1 (pt_cmpR op_ne (pv 14) (pe_cmp (pc_din (hu_of hr) (pv 12) (pv 11)) (by rfl)) (nomark _)))))
      (pss_one (ps_ret pe_bl)) pss_nil)))))))
      (pss_one (ps_ret pe_bl)))))))))))))), ?_⟩
    refine ⟨_, rfl, a, ns, rfl, ha, fun H1 p pq s1 np p1 => ?_⟩
    refine ⟨_, rfl, p, pq, rfl, p1, fun n h t H2 ok sb2 p2 ht2 => ?_⟩
    obtain ⟨⟨n1, n8⟩, ⟨h2, h10⟩, _⟩ := id ok
    obtain ⟨xp, hxp⟩ := p2.at
    have ntp : t ≠ p := ne_of ht2 hxp (by intro z; cases z)
    refine ⟨_, rfl, _, rfl, t, _, _, _, rfl, rfl, SqT.of ht2, rfl, p, pq, n, rfl, by omega, p2, fun line la H3 lok sb3 p3 hl3 => ?_⟩
    have ht3 := sb3 _ _ ntp ht2
    refine ⟨_, rfl, _, rfl, p, pq, la, n, line, rfl, n1, n8, lok, p3, hl3, fun ts ps wz H4 dn nd few sb4 p4 hw4 hps4 => ?_⟩
    have ht4 := sb4 _ _ ntp ht3
    have hl4 := sb4 _ _ (p3.neN hl3) hl3
    -- lowers
    refine ⟨_, rfl, _, rfl, la, wz, n, line, ts, ps, rfl, n8, lok, hl4, hw4, hps4, dn, fun ua H5 s5 up5 => ?_⟩
    refine ⟨ua, n, relOf ps, line, rfl, n8, up5, fun k hk => lok.all hk, fun lz H6 s6 rows6 => ?_⟩
    have s46 := s5.trans s6
    have ht6 := s46 _ _ ht4
    have p6 := p4.same s46
    -- the house
    obtain ⟨ρ, hρ⟩ := rank_of lok.2.1
    have rank : ∀ r ∈ ps, ρ r.1 < ρ r.2 := fun r hr => by
      obtain ⟨x, y, h1, h2, h3⟩ := dn r hr
      rw [hρ x _ h2, hρ y _ h3]; exact h1
    have hR : Ranked (relOf ps) := relOf_ranked rank
    have hT : Trans (relOf ps) := relOf_trans ps
    have lt : ∀ r ∈ ps, r.1 < n ∧ r.2 < n := fun r hr => by
      obtain ⟨x, y, h1, h2, h3⟩ := dn r hr
      exact ⟨lok.2.2 _ (List.mem_of_getElem? h2), lok.2.2 _ (List.mem_of_getElem? h3)⟩
    refine ⟨_, rfl, t, _, _, _, rfl, rfl, SqT.of ht6, rfl, _, rfl, t, _, _, _, rfl, rfl, SqT.of ht6, rfl, _, rfl, wz, _, rfl, .inl (SqL.of (s46 _ _ hw4)), fun lw nlw => ?_⟩
    have s7 : Same H6 (upd H6 lw (.lst (ts.map V.ref))) := same_new nlw
    have hlw : (upd H6 lw (.lst (ts.map V.ref))) lw = some (.lst (ts.map V.ref)) := upd_same
    generalize upd H6 lw (.lst (ts.map V.ref)) = H7 at s7 hlw ⊢
    intro x dx nx ndx nex
    have s8 : Same H7 (upd (upd H7 dx (.own x)) x (.ins C dx [])) := fun b o e => by
      rw [upd_ne (ne_of_none e nx), upd_ne (ne_of_none e ndx)]; exact e
    have hx8 : (upd (upd H7 dx (.own x)) x (.ins C dx [])) x = some (.ins C dx []) := upd_same
    refine ⟨x, dx, lw, n, h, ps, rfl, hx8, n1, by omega, h2, h10, ⟨⟨ts, s8 _ _ hlw, ((hps4.same s46).same s7).same s8⟩, nd, few, lt, ρ, rank⟩, fun H9 sb9 house9 => ⟨rfl, ?_⟩⟩
    have s9 : Same H6 H9 := fun b o e => sb9 b o (fun z => by rw [z] at e; rw [s7 _ _ e] at nx; cases nx) (s8 _ _ (s7 _ _ e))
    have ht9 := s9 _ _ ht6
    have p9 := p6.same s9
    have rows9 := rows6.same s9
    -- the state
    refine ⟨_, rfl, _, rfl, t, _, _, _, rfl, rfl, SqT.of ht9, rfl, _, rfl, t, _, _, _, rfl, rfl, SqT.of ht9, rfl, p, pq, n, h, rfl, n1, by omega, h2, h10, p9, fun S st H10 okS sb10 p10 hs10 => ?_⟩
    have ht10 := sb10 _ _ ntp ht9
    have house10 := house9.pool p9 sb10
    have rows10 := rows9.pool p9 sb10
    -- what is found
    refine ⟨_, rfl, t, _, _, _, rfl, rfl, SqT.of ht10, rfl, _, rfl, _, rfl, lz, st, n, h, relOf ps, S, false, false, rfl, ok, hR.irr, rows10, hs10, okS, fun d1 F1 H11 s11 hd1 f1 => ?_⟩
    refine ⟨_, rfl, t, _, _, _, rfl, rfl, SqT.of (s11 _ _ ht10), rfl, _, rfl, _, rfl, lz, st, n, h, relOf ps, S, true, false, rfl, ok, hR.irr, rows10.same s11, s11 _ _ hs10, okS, fun d2 F2 H12 s12 hd2 f2 => ?_⟩
    have s1012 := s11.trans s12
    refine ⟨_, rfl, t, _, _, _, rfl, rfl, SqT.of (s1012 _ _ ht10), rfl, _, rfl, _, rfl, lz, st, n, h, relOf ps, S, false, true, rfl, ok, hR.irr, rows10.same s1012, s1012 _ _ hs10, okS, fun d3 F3 H13 s13 hd3 f3 => ?_⟩
    have s1013 := s1012.trans s13
    refine ⟨_, rfl, t, _, _, _, rfl, rfl, SqT.of (s1013 _ _ ht10), rfl, _, rfl, _, rfl, lz, st, n, h, relOf ps, S, true, true, rfl, ok, hR.irr, rows10.same s1013, s1013 _ _ hs10, okS, fun d4 F4 H14 s14 hd4 f4 => ?_⟩
    have s1014 := s1013.trans s14
    have hd1' := s14 _ _ (s13 _ _ (s12 _ _ hd1))
    have hd2' := s14 _ _ (s13 _ _ hd2)
    have hd3' := s14 _ _ hd3
    have house14 := house10.same s1014
    have hs14 := s1014 _ _ hs10
    refine ⟨_, rfl, t, _, _, _, rfl, rfl, SqT.of (s1014 _ _ ht10), rfl, _, rfl, t, _, _, _, rfl, rfl, SqT.of (s1014 _ _ ht10), rfl, n, h, rfl, ok, fun al SS H15 s15 tl okA => ?_⟩
    obtain ⟨as, a1, a2, a3⟩ := tl
    refine ⟨al, rfl, ⟨_, SqL.of a1⟩, ?_⟩
    refine for_list (K := K) (a := al) (xs := as.map V.ref) (fun i σ H16 => ∃ v12 v13 v14 : Option V, σ = [some (.ref a), some (.ref p), some (.ref t), some (.ref la), some (.ref wz), some (.ref lz), some (.ref x), some (.ref st), some (.ref d1), some (.ref d2), some (.ref d3), some (.ref d4), v12, v13, v14] ∧ Same H15 H16)
      ⟨_, _, _, rfl, Same.refl _⟩ (fun i σ H16 _ ⟨_, _, _, _, s⟩ => SqL.of (s _ _ a1)) ?_ ?_
    · rintro i y σ H16 hy ⟨v12, v13, v14, rfl, s16⟩
      rw [List.getElem?_map] at hy
      obtain ⟨ob, hob, rfl⟩ := Option.map_eq_some_iff.mp hy
      obtain ⟨O, hO⟩ : ∃ O, SS[i]? = some O := ⟨_, List.getElem?_eq_getElem (by rw [← a2]; exact (List.getElem?_eq_some_iff.mp hob).1)⟩
      have okO := okA O (List.mem_of_getElem? hO)
      have hO16 := s16 _ _ (a3 i ob O hob hO)
      have s1416 := s15.trans s16
      refine ⟨_, rfl, _, rfl, _, rfl, x, st, ob, n, h, relOf ps, S, O, rfl, house14.same s1416, by omega, hR, hT, s1416 _ _ hs14, hO16, okS, okO, fun r1 H17 e1 s17 => ?_⟩
      have s1417 := s1416.trans s17
      refine ⟨_, rfl, _, rfl, _, rfl, x, ob, st, n, h, relOf ps, O, S, rfl, house14.same s1417, by omega, hR, hT, s17 _ _ hO16, s1417 _ _ hs14, okO, okS, fun r2 H18 e2 s18 => ?_⟩
      have s1418 := s1417.trans s18
      have hO18 := s18 _ _ (s17 _ _ hO16)
      have key : ∀ {r : Bool} {Fx : List (List Int)}, (r = true ↔ O ∈ Fx) → (!decide (V.bl r = V.bl (valV (fdict Fx) (dk O)).isSome)) = false := by
        intro r Fx hrf
        rw [val_f]
        have e : r = decide (O ∈ Fx) := by
          rw [Bool.eq_iff_iff, hrf, decide_eq_true_eq]
        rw [e, decide_eq_true rfl] <;> rfl
      have kO : H18 ob = some (.tup ((dk O).map kV)) := by rw [dk_V]; exact hO18
      refine ⟨_, rfl, _, _, _, _, true, rfl, .ty _, .base (.bl r1), kit_ty (by decide +kernel), true, rfl, iteF ?_⟩
      refine ⟨_, rfl, _, _, _, _, true, rfl, .ty _, .base (.bl r2), kit_ty (by decide +kernel), true, rfl, iteF ?_⟩
      refine ⟨_, rfl, _, rfl, _, rfl, d1, _, rfl, DGet.t (s1418 _ _ hd1') kO, rfl, _, rfl, ifF (key (by rw [e1, f1, rt_down h2 hR hT okS okO])) ?_⟩
      refine ⟨_, rfl, _, rfl, _, rfl, d2, _, rfl, DGet.t (s1418 _ _ hd2') kO, rfl, _, rfl, ifF (key (by rw [e1, f2, rt_down h2 hR hT okS okO])) ?_⟩
      refine ⟨_, rfl, _, rfl, _, rfl, d3, _, rfl, DGet.t (s1418 _ _ hd3') kO, rfl, _, rfl, ifF (key (by rw [e2, f3, rt_up h2 hR hT okS okO])) ?_⟩
      refine ⟨_, rfl, _, rfl, _, rfl, d4, _, rfl, DGet.t (s1418 _ _ hd4) kO, rfl, _, rfl, ifF (key (by rw [e2, f4, rt_up h2 hR hT okS okO])) ?_⟩
      exact ⟨_, _, _, rfl, (s16.trans s17).trans s18⟩
    · rintro σ H16 ⟨v12, v13, v14, rfl, s16⟩
      exact q H16
end
end Hue

end
section
set_option maxRecDepth 100000
set_option maxHeartbeats 4000000
namespace Hue
open PySem PySem.Spec PyProof.Rows L2
/-! ### the end: what the top has written, and the head -/
theorem binds_init {K : PySem.W.Frag} {T E : Addr} {ocT : Value} {odT : Option Addr} {itT : Value} {nT : Nat} {slT : Array (Option Value)} (lT : K.lookup T = some ⟨ocT, odT, .seq #[itT] nT, slT⟩) {kV dc pm cd ct : Value} {an : Option Addr} :
    Binds K (PySem.W.fnOf "__init__" "House.__init__" (defArgs s_House___init__) (defBody s_House___init__) (defScope s_House___init__) (.ref T) kV dc pm an cd ct) ["self", "count", "hues", "wires"] [] := fun s us X hl => by
  rw [List.append_nil] at hl ⊢
  match us, hl with
  | [a, b, c, d], _ =>
    refine BindsTo.of_looks fun M => ?_
    have e : ∃ k, bindArgs (PySem.W.fnOf "__init__" "House.__init__" (defArgs s_House___init__) (defBody s_House___init__) (defScope s_House___init__) (.ref T) kV dc pm an cd ct) ⟨[a, b, c, d], []⟩ = seqItems? (.ref T) >>= k ∧ k (some #[itT]) = pure ((["self", "count", "hues", "wires"] : List Str).zip [a, b, c, d]) := ⟨_, rfl, rfl⟩
    obtain ⟨k, e1, e2⟩ := e
    rw [e1]
    exact looks_items X lT rfl (.of_pure e2)
theorem all_mk {l : PySem.W.OpenLaw} {w : World} {K : PySem.W.Frag} {h : Heap} {mg : Str → Option Value} {fa : Addr} (X : K.In h) (G : h.Ns mainGlobals mg) (hfa : mg "law" = some (.ref fa))
    {f0 : Addr} {od0 an0 : Option Addr} {sl0 : Array (Option Value)} {oc0 kV0 dc0 pm0 cd0 ct0 : Value}
    {f1 : Addr} {od1 an1 : Option Addr} {sl1 : Array (Option Value)} {oc1 kV1 dc1 pm1 cd1 ct1 : Value}
    {f2 : Addr} {od2 an2 : Option Addr} {sl2 : Array (Option Value)} {oc2 kV2 dc2 pm2 cd2 ct2 : Value}
    {f3 : Addr} {od3 an3 : Option Addr} {sl3 : Array (Option Value)} {oc3 kV3 dc3 pm3 cd3 ct3 : Value}
    {f4 : Addr} {od4 an4 : Option Addr} {sl4 : Array (Option Value)} {oc4 kV4 dc4 pm4 cd4 ct4 : Value}
    {f5 : Addr} {od5 an5 : Option Addr} {sl5 : Array (Option Value)} {oc5 kV5 dc5 pm5 cd5 ct5 : Value}
    {f6 : Addr} {od6 an6 : Option Addr} {sl6 : Array (Option Value)} {oc6 kV6 dc6 pm6 cd6 ct6 : Value}
    {f7 : Addr} {od7 an7 : Option Addr} {sl7 : Array (Option Value)} {oc7 kV7 dc7 pm7 cd7 ct7 : Value}
    {f8 : Addr} {od8 an8 : Option Addr} {sl8 : Array (Option Value)} {oc8 kV8 dc8 pm8 cd8 ct8 : Value}
    {f9 : Addr} {od9 an9 : Option Addr} {sl9 : Array (Option Value)} {oc9 kV9 dc9 pm9 cd9 ct9 : Value}
    {f10 : Addr} {od10 an10 : Option Addr} {sl10 : Array (Option Value)} {oc10 kV10 dc10 pm10 cd10 ct10 : Value}
    {f11 : Addr} {od11 an11 : Option Addr} {sl11 : Array (Option Value)} {oc11 kV11 dc11 pm11 cd11 ct11 : Value}
    {f12 : Addr} {od12 an12 : Option Addr} {sl12 : Array (Option Value)} {oc12 kV12 dc12 pm12 cd12 ct12 : Value}
    {f13 : Addr} {od13 an13 : Option Addr} {sl13 : Array (Option Value)} {oc13 kV13 dc13 pm13 cd13 ct13 : Value}
    {f14 : Addr} {od14 an14 : Option Addr} {sl14 : Array (Option Value)} {oc14 kV14 dc14 pm14 cd14 ct14 : Value}
    {f15 : Addr} {od15 an15 : Option Addr} {sl15 : Array (Option Value)} {oc15 kV15 dc15 pm15 cd15 ct15 : Value}
    {f16 : Addr} {od16 an16 : Option Addr} {sl16 : Array (Option Value)} {oc16 kV16 dc16 pm16 cd16 ct16 : Value}
    {f17 : Addr} {od17 an17 : Option Addr} {sl17 : Array (Option Value)} {oc17 kV17 dc17 pm17 cd17 ct17 : Value}
    {f18 : Addr} {od18 an18 : Option Addr} {sl18 : Array (Option Value)} {oc18 kV18 dc18 pm18 cd18 ct18 : Value}
    {f19 : Addr} {od19 an19 : Option Addr} {sl19 : Array (Option Value)} {oc19 kV19 dc19 pm19 cd19 ct19 : Value}
    {f20 : Addr} {od20 an20 : Option Addr} {sl20 : Array (Option Value)} {oc20 kV20 dc20 pm20 cd20 ct20 : Value}
    {f21 : Addr} {od21 an21 : Option Addr} {sl21 : Array (Option Value)} {oc21 kV21 dc21 pm21 cd21 ct21 : Value}
    {f22 : Addr} {od22 an22 : Option Addr} {sl22 : Array (Option Value)} {oc22 kV22 dc22 pm22 cd22 ct22 : Value}
    {f23 : Addr} {od23 an23 : Option Addr} {sl23 : Array (Option Value)} {oc23 kV23 dc23 pm23 cd23 ct23 : Value}
    {f24 : Addr} {od24 an24 : Option Addr} {sl24 : Array (Option Value)} {oc24 kV24 dc24 pm24 cd24 ct24 : Value}
    {f25 : Addr} {od25 an25 : Option Addr} {sl25 : Array (Option Value)} {oc25 kV25 dc25 pm25 cd25 ct25 : Value}
    {f26 : Addr} {od26 an26 : Option Addr} {sl26 : Array (Option Value)} {oc26 kV26 dc26 pm26 cd26 ct26 : Value}
    {f27 : Addr} {od27 an27 : Option Addr} {sl27 : Array (Option Value)} {oc27 kV27 dc27 pm27 cd27 ct27 : Value}
    {fM0 : Addr} {odM0 anM0 : Option Addr} {slM0 : Array (Option Value)} {ocM0 kVM0 dcM0 pmM0 cdM0 ctM0 : Value}
    {fM1 : Addr} {odM1 anM1 : Option Addr} {slM1 : Array (Option Value)} {ocM1 kVM1 dcM1 pmM1 cdM1 ctM1 : Value}
    {C T0 : Addr} {ocT itT : Value} {odT : Option Addr} {nT : Nat} {slT : Array (Option Value)} {u1 u2 : Value}
    {fI : Addr} {odI anI : Option Addr} {slI : Array (Option Value)} {ocI kVI dcI pmI cdI ctI : Value}
    (aC : PySem.W.nsIn K mainGlobals "House" = some (some (.ref C)))
    (a0 : PySem.W.nsIn K mainGlobals "is_whole" = some (some (.ref f0))) (l0 : K.lookup f0 = some ⟨oc0, od0, .func (PySem.W.fnOf "is_whole" "is_whole" (defArgs s_is_whole) (defBody s_is_whole) (defScope s_is_whole) .none kV0 dc0 pm0 an0 cd0 ct0), sl0⟩) (c0 : PySem.W.codeIn K cd0 "is_whole" = true) (k0 : PySem.W.keepIn K (.ref f0) = true)
    (a1 : PySem.W.nsIn K mainGlobals "is_whole_in" = some (some (.ref f1))) (l1 : K.lookup f1 = some ⟨oc1, od1, .func (PySem.W.fnOf "is_whole_in" "is_whole_in" (defArgs s_is_whole_in) (defBody s_is_whole_in) (defScope s_is_whole_in) .none kV1 dc1 pm1 an1 cd1 ct1), sl1⟩) (c1 : PySem.W.codeIn K cd1 "is_whole_in" = true) (k1 : PySem.W.keepIn K (.ref f1) = true)
    (a2 : PySem.W.nsIn K mainGlobals "check_count" = some (some (.ref f2))) (l2 : K.lookup f2 = some ⟨oc2, od2, .func (PySem.W.fnOf "check_count" "check_count" (defArgs s_check_count) (defBody s_check_count) (defScope s_check_count) .none kV2 dc2 pm2 an2 cd2 ct2), sl2⟩) (c2 : PySem.W.codeIn K cd2 "check_count" = true) (k2 : PySem.W.keepIn K (.ref f2) = true)
    (a3 : PySem.W.nsIn K mainGlobals "check_hues" = some (some (.ref f3))) (l3 : K.lookup f3 = some ⟨oc3, od3, .func (PySem.W.fnOf "check_hues" "check_hues" (defArgs s_check_hues) (defBody s_check_hues) (defScope s_check_hues) .none kV3 dc3 pm3 an3 cd3 ct3), sl3⟩) (c3 : PySem.W.codeIn K cd3 "check_hues" = true) (k3 : PySem.W.keepIn K (.ref f3) = true)
    (a4 : PySem.W.nsIn K mainGlobals "is_wire" = some (some (.ref f4))) (l4 : K.lookup f4 = some ⟨oc4, od4, .func (PySem.W.fnOf "is_wire" "is_wire" (defArgs s_is_wire) (defBody s_is_wire) (defScope s_is_wire) .none kV4 dc4 pm4 an4 cd4 ct4), sl4⟩) (c4 : PySem.W.codeIn K cd4 "is_wire" = true) (k4 : PySem.W.keepIn K (.ref f4) = true)
    (a5 : PySem.W.nsIn K mainGlobals "with_wire" = some (some (.ref f5))) (l5 : K.lookup f5 = some ⟨oc5, od5, .func (PySem.W.fnOf "with_wire" "with_wire" (defArgs s_with_wire) (defBody s_with_wire) (defScope s_with_wire) .none kV5 dc5 pm5 an5 cd5 ct5), sl5⟩) (c5 : PySem.W.codeIn K cd5 "with_wire" = true) (k5 : PySem.W.keepIn K (.ref f5) = true)
    (a6 : PySem.W.nsIn K mainGlobals "lamps_beneath" = some (some (.ref f6))) (l6 : K.lookup f6 = some ⟨oc6, od6, .func (PySem.W.fnOf "lamps_beneath" "lamps_beneath" (defArgs s_lamps_beneath) (defBody s_lamps_beneath) (defScope s_lamps_beneath) .none kV6 dc6 pm6 an6 cd6 ct6), sl6⟩) (c6 : PySem.W.codeIn K cd6 "lamps_beneath" = true) (k6 : PySem.W.keepIn K (.ref f6) = true)
    (a7 : PySem.W.nsIn K mainGlobals "is_next" = some (some (.ref f7))) (l7 : K.lookup f7 = some ⟨oc7, od7, .func (PySem.W.fnOf "is_next" "is_next" (defArgs s_is_next) (defBody s_is_next) (defScope s_is_next) .none kV7 dc7 pm7 an7 cd7 ct7), sl7⟩) (c7 : PySem.W.codeIn K cd7 "is_next" = true) (k7 : PySem.W.keepIn K (.ref f7) = true)
    (a8 : PySem.W.nsIn K mainGlobals "order_list" = some (some (.ref f8))) (l8 : K.lookup f8 = some ⟨oc8, od8, .func (PySem.W.fnOf "order_list" "order_list" (defArgs s_order_list) (defBody s_order_list) (defScope s_order_list) .none kV8 dc8 pm8 an8 cd8 ct8), sl8⟩) (c8 : PySem.W.codeIn K cd8 "order_list" = true) (k8 : PySem.W.keepIn K (.ref f8) = true)
    (a9 : PySem.W.nsIn K mainGlobals "is_lamp" = some (some (.ref f9))) (l9 : K.lookup f9 = some ⟨oc9, od9, .func (PySem.W.fnOf "is_lamp" "is_lamp" (defArgs s_is_lamp) (defBody s_is_lamp) (defScope s_is_lamp) .none kV9 dc9 pm9 an9 cd9 ct9), sl9⟩) (c9 : PySem.W.codeIn K cd9 "is_lamp" = true) (k9 : PySem.W.keepIn K (.ref f9) = true)
    (a10 : PySem.W.nsIn K mainGlobals "check_lamp" = some (some (.ref f10))) (l10 : K.lookup f10 = some ⟨oc10, od10, .func (PySem.W.fnOf "check_lamp" "check_lamp" (defArgs s_check_lamp) (defBody s_check_lamp) (defScope s_check_lamp) .none kV10 dc10 pm10 an10 cd10 ct10), sl10⟩) (c10 : PySem.W.codeIn K cd10 "check_lamp" = true) (k10 : PySem.W.keepIn K (.ref f10) = true)
    (a11 : PySem.W.nsIn K mainGlobals "is_state" = some (some (.ref f11))) (l11 : K.lookup f11 = some ⟨oc11, od11, .func (PySem.W.fnOf "is_state" "is_state" (defArgs s_is_state) (defBody s_is_state) (defScope s_is_state) .none kV11 dc11 pm11 an11 cd11 ct11), sl11⟩) (c11 : PySem.W.codeIn K cd11 "is_state" = true) (k11 : PySem.W.keepIn K (.ref f11) = true)
    (a12 : PySem.W.nsIn K mainGlobals "check_state" = some (some (.ref f12))) (l12 : K.lookup f12 = some ⟨oc12, od12, .func (PySem.W.fnOf "check_state" "check_state" (defArgs s_check_state) (defBody s_check_state) (defScope s_check_state) .none kV12 dc12 pm12 an12 cd12 ct12), sl12⟩) (c12 : PySem.W.codeIn K cd12 "check_state" = true) (k12 : PySem.W.keepIn K (.ref f12) = true)
    (a13 : PySem.W.nsIn K mainGlobals "reaches" = some (some (.ref f13))) (l13 : K.lookup f13 = some ⟨oc13, od13, .func (PySem.W.fnOf "reaches" "reaches" (defArgs s_reaches) (defBody s_reaches) (defScope s_reaches) .none kV13 dc13 pm13 an13 cd13 ct13), sl13⟩) (c13 : PySem.W.codeIn K cd13 "reaches" = true) (k13 : PySem.W.keepIn K (.ref f13) = true)
    (a14 : PySem.W.nsIn K mainGlobals "is_reachable" = some (some (.ref f14))) (l14 : K.lookup f14 = some ⟨oc14, od14, .func (PySem.W.fnOf "is_reachable" "is_reachable" (defArgs s_is_reachable) (defBody s_is_reachable) (defScope s_is_reachable) .none kV14 dc14 pm14 an14 cd14 ct14), sl14⟩) (c14 : PySem.W.codeIn K cd14 "is_reachable" = true) (k14 : PySem.W.keepIn K (.ref f14) = true)
    (a15 : PySem.W.nsIn K mainGlobals "_law_pool" = some (some (.ref f15))) (l15 : K.lookup f15 = some ⟨oc15, od15, .func (PySem.W.fnOf "_law_pool" "_law_pool" (defArgs s__law_pool) (defBody s__law_pool) (defScope s__law_pool) .none kV15 dc15 pm15 an15 cd15 ct15), sl15⟩) (c15 : PySem.W.codeIn K cd15 "_law_pool" = true) (k15 : PySem.W.keepIn K (.ref f15) = true)
    (a16 : PySem.W.nsIn K mainGlobals "_law_draw" = some (some (.ref f16))) (l16 : K.lookup f16 = some ⟨oc16, od16, .func (PySem.W.fnOf "_law_draw" "_law_draw" (defArgs s__law_draw) (defBody s__law_draw) (defScope s__law_draw) .none kV16 dc16 pm16 an16 cd16 ct16), sl16⟩) (c16 : PySem.W.codeIn K cd16 "_law_draw" = true) (k16 : PySem.W.keepIn K (.ref f16) = true)
    (a17 : PySem.W.nsIn K mainGlobals "_law_small" = some (some (.ref f17))) (l17 : K.lookup f17 = some ⟨oc17, od17, .func (PySem.W.fnOf "_law_small" "_law_small" (defArgs s__law_small) (defBody s__law_small) (defScope s__law_small) .none kV17 dc17 pm17 an17 cd17 ct17), sl17⟩) (c17 : PySem.W.codeIn K cd17 "_law_small" = true) (k17 : PySem.W.keepIn K (.ref f17) = true)
    (a18 : PySem.W.nsIn K mainGlobals "_law_line" = some (some (.ref f18))) (l18 : K.lookup f18 = some ⟨oc18, od18, .func (PySem.W.fnOf "_law_line" "_law_line" (defArgs s__law_line) (defBody s__law_line) (defScope s__law_line) .none kV18 dc18 pm18 an18 cd18 ct18), sl18⟩) (c18 : PySem.W.codeIn K cd18 "_law_line" = true) (k18 : PySem.W.keepIn K (.ref f18) = true)
    (a19 : PySem.W.nsIn K mainGlobals "_law_wires" = some (some (.ref f19))) (l19 : K.lookup f19 = some ⟨oc19, od19, .func (PySem.W.fnOf "_law_wires" "_law_wires" (defArgs s__law_wires) (defBody s__law_wires) (defScope s__law_wires) .none kV19 dc19 pm19 an19 cd19 ct19), sl19⟩) (c19 : PySem.W.codeIn K cd19 "_law_wires" = true) (k19 : PySem.W.keepIn K (.ref f19) = true)
    (a20 : PySem.W.nsIn K mainGlobals "_law_uppers" = some (some (.ref f20))) (l20 : K.lookup f20 = some ⟨oc20, od20, .func (PySem.W.fnOf "_law_uppers" "_law_uppers" (defArgs s__law_uppers) (defBody s__law_uppers) (defScope s__law_uppers) .none kV20 dc20 pm20 an20 cd20 ct20), sl20⟩) (c20 : PySem.W.codeIn K cd20 "_law_uppers" = true) (k20 : PySem.W.keepIn K (.ref f20) = true)
    (a21 : PySem.W.nsIn K mainGlobals "_law_lowers" = some (some (.ref f21))) (l21 : K.lookup f21 = some ⟨oc21, od21, .func (PySem.W.fnOf "_law_lowers" "_law_lowers" (defArgs s__law_lowers) (defBody s__law_lowers) (defScope s__law_lowers) .none kV21 dc21 pm21 an21 cd21 ct21), sl21⟩) (c21 : PySem.W.codeIn K cd21 "_law_lowers" = true) (k21 : PySem.W.keepIn K (.ref f21) = true)
    (a22 : PySem.W.nsIn K mainGlobals "_law_all" = some (some (.ref f22))) (l22 : K.lookup f22 = some ⟨oc22, od22, .func (PySem.W.fnOf "_law_all" "_law_all" (defArgs s__law_all) (defBody s__law_all) (defScope s__law_all) .none kV22 dc22 pm22 an22 cd22 ct22), sl22⟩) (c22 : PySem.W.codeIn K cd22 "_law_all" = true) (k22 : PySem.W.keepIn K (.ref f22) = true)
    (a23 : PySem.W.nsIn K mainGlobals "_law_begin" = some (some (.ref f23))) (l23 : K.lookup f23 = some ⟨oc23, od23, .func (PySem.W.fnOf "_law_begin" "_law_begin" (defArgs s__law_begin) (defBody s__law_begin) (defScope s__law_begin) .none kV23 dc23 pm23 an23 cd23 ct23), sl23⟩) (c23 : PySem.W.codeIn K cd23 "_law_begin" = true) (k23 : PySem.W.keepIn K (.ref f23) = true)
    (a24 : PySem.W.nsIn K mainGlobals "_law_may" = some (some (.ref f24))) (l24 : K.lookup f24 = some ⟨oc24, od24, .func (PySem.W.fnOf "_law_may" "_law_may" (defArgs s__law_may) (defBody s__law_may) (defScope s__law_may) .none kV24 dc24 pm24 an24 cd24 ct24), sl24⟩) (c24 : PySem.W.codeIn K cd24 "_law_may" = true) (k24 : PySem.W.keepIn K (.ref f24) = true)
    (a25 : PySem.W.nsIn K mainGlobals "_law_step" = some (some (.ref f25))) (l25 : K.lookup f25 = some ⟨oc25, od25, .func (PySem.W.fnOf "_law_step" "_law_step" (defArgs s__law_step) (defBody s__law_step) (defScope s__law_step) .none kV25 dc25 pm25 an25 cd25 ct25), sl25⟩) (c25 : PySem.W.codeIn K cd25 "_law_step" = true) (k25 : PySem.W.keepIn K (.ref f25) = true)
    (a26 : PySem.W.nsIn K mainGlobals "_law_found" = some (some (.ref f26))) (l26 : K.lookup f26 = some ⟨oc26, od26, .func (PySem.W.fnOf "_law_found" "_law_found" (defArgs s__law_found) (defBody s__law_found) (defScope s__law_found) .none kV26 dc26 pm26 an26 cd26 ct26), sl26⟩) (c26 : PySem.W.codeIn K cd26 "_law_found" = true) (k26 : PySem.W.keepIn K (.ref f26) = true)
    (a27 : PySem.W.nsIn K mainGlobals "law" = some (some (.ref f27))) (l27 : K.lookup f27 = some ⟨oc27, od27, .func (PySem.W.fnOf "law" "law" (defArgs s_law) (defBody s_law) (defScope s_law) .none kV27 dc27 pm27 an27 cd27 ct27), sl27⟩) (c27 : PySem.W.codeIn K cd27 "law" = true) (k27 : PySem.W.keepIn K (.ref f27) = true)
    (aM0 : PySem.W.findIn K (.ref C) "order" = some (some (.ref fM0))) (iM0 : PySem.W.isFn K (.ref fM0) = true) (lM0 : K.lookup fM0 = some ⟨ocM0, odM0, .func (PySem.W.fnOf "order" "House.order" (defArgs s_House_order) (defBody s_House_order) (defScope s_House_order) .none kVM0 dcM0 pmM0 anM0 cdM0 ctM0), slM0⟩) (cM0 : PySem.W.codeIn K cdM0 "House.order" = true) (kM0 : PySem.W.keepIn K (.ref fM0) = true)
    (aM1 : PySem.W.findIn K (.ref C) "beneath" = some (some (.ref fM1))) (iM1 : PySem.W.isFn K (.ref fM1) = true) (lM1 : K.lookup fM1 = some ⟨ocM1, odM1, .func (PySem.W.fnOf "beneath" "House.beneath" (defArgs s_House_beneath) (defBody s_House_beneath) (defScope s_House_beneath) .none kVM1 dcM1 pmM1 anM1 cdM1 ctM1), slM1⟩) (cM1 : PySem.W.codeIn K cdM1 "House.beneath" = true) (kM1 : PySem.W.keepIn K (.ref fM1) = true)
    (aI : PySem.W.findIn K (.ref C) "__init__" = some (some (.ref fI))) (iI : PySem.W.isFn K (.ref fI) = true) (lI : K.lookup fI = some ⟨ocI, odI, .func (PySem.W.fnOf "__init__" "House.__init__" (defArgs s_House___init__) (defBody s_House___init__) (defScope s_House___init__) (.ref T0) kVI dcI pmI anI cdI ctI), slI⟩) (cI : PySem.W.codeIn K cdI "House.__init__" = true) (kI : PySem.W.keepIn K (.ref fI) = true)
    (lT : K.lookup T0 = some ⟨ocT, odT, .seq #[itT] nT, slT⟩)
    (pg : PySem.W.plainGet K C Str.empty = true) (hd : PySem.W.hasDictIn K C = true) (po : PySem.W.plainOver K C = true) (sa : PySem.W.findIn K (.ref C) "__setattr__" = some (some (.builtin "object.__setattr__"))) (mk : PySem.W.makesIn K C = true) (kc : PySem.W.keepIn K (.ref C) = true)
    (nCount : PySem.W.findIn K (.ref C) "count" = some none)
    (nHues : PySem.W.findIn K (.ref C) "hues" = some none)
    (nBen : PySem.W.findIn K (.ref C) "_beneath" = some none)
    (nWires : PySem.W.findIn K (.ref C) "wires" = some none)
    (nAbove : PySem.W.findIn K (.ref C) "_above" = some none)
    (nDirect : PySem.W.findIn K (.ref C) "_direct" = some none)
    (nOrder : PySem.W.findIn K (.ref C) "_order" = some none)
    (rd : PySem.W.readsIn K C (.type "type") = true) (ga : PySem.W.specialIn K (.ref C) "__getattribute__" = some (some (.builtin "type.__getattribute__"))) (v1 : PySem.W.findCls K (.ref C) (.type "type") "MOST_LAMPS" = some (.val u1)) (r1 : ∃ t, u1 = .int 16 t) (v2 : PySem.W.findCls K (.ref C) (.type "type") "MOST_HUES" = some (.val u2)) (r2 : ∃ t, u2 = .int 10 t)
    (b_len : PySem.W.nsIn K mainGlobals "len" = some none)
    (b_range : PySem.W.nsIn K mainGlobals "range" = some none)
    (b_isinstance : PySem.W.nsIn K mainGlobals "isinstance" = some none)
    (b_int : PySem.W.nsIn K mainGlobals "int" = some none)
    (b_bool : PySem.W.nsIn K mainGlobals "bool" = some none)
    (b_tuple : PySem.W.nsIn K mainGlobals "tuple" = some none)
    (b_list : PySem.W.nsIn K mainGlobals "list" = some none)
    (b_set : PySem.W.nsIn K mainGlobals "set" = some none)
    (b_enumerate : PySem.W.nsIn K mainGlobals "enumerate" = some none)
    (b_sorted : PySem.W.nsIn K mainGlobals "sorted" = some none)
    (b_min : PySem.W.nsIn K mainGlobals "min" = some none)
    (b_all : PySem.W.nsIn K mainGlobals "all" = some none)
    (b_abs : PySem.W.nsIn K mainGlobals "abs" = some none)
    : ∃ fd : FuncData, (∀ (s : Shared) (v : Value), BindsTo s fd ⟨[v], []⟩ [("script", v)]) ∧ ∀ base : Heap, K.In base → base.Ns mainGlobals mg → FnOk l.prog w K mg base CX0 8 fa fd ["script"] (spLaw K) := by
  have e := hfa.symm.trans (PySem.W.mg_of X G a27)
  cases e
  have T : Txt K mg C := { cl := ⟨pg, hd, po, sa⟩, nCount := nCount, nHues := nHues, nBen := nBen, nWires := nWires, nAbove := nAbove, nDirect := nDirect, nOrder := nOrder, mgC := PySem.W.mg_of X G aC, con := ⟨.type "type", ⟨rd, ga⟩, ⟨u1, v1, r1⟩, ⟨u2, v2, r2⟩⟩, len := PySem.W.mg_none_of X G b_len, range := PySem.W.mg_none_of X G b_range, isinstance := PySem.W.mg_none_of X G b_isinstance, int := PySem.W.mg_none_of X G b_int, bool := PySem.W.mg_none_of X G b_bool, tuple := PySem.W.mg_none_of X G b_tuple, list := PySem.W.mg_none_of X G b_list, set := PySem.W.mg_none_of X G b_set, enumerate := PySem.W.mg_none_of X G b_enumerate, sorted := PySem.W.mg_none_of X G b_sorted, min := PySem.W.mg_none_of X G b_min, all := PySem.W.mg_none_of X G b_all, abs := PySem.W.mg_none_of X G b_abs }
  refine ⟨PySem.W.fnOf "law" "law" (defArgs s_law) (defBody s_law) (defScope s_law) .none kV27 dc27 pm27 an27 cd27 ct27, fun s v => .of_eq rfl, fun base _ _ => ?_⟩
  have F_is_whole := fun_mk (st := s_is_whole) l0 c0 k0
  have c_is_whole : Cal l.prog w K mg base "is_whole" 1 spWhole := ⟨⟨_, _, _, ok_is_whole T F_is_whole, PySem.W.mg_of X G a0, k0, F_is_whole.binds fun _ _ _ _ _ _ us hl => match us, hl with | [_], _ => rfl⟩⟩
  have F_is_whole_in := fun_mk (st := s_is_whole_in) l1 c1 k1
  have c_is_whole_in : Cal l.prog w K mg base "is_whole_in" 2 spWholeIn := ⟨⟨_, _, _, ok_is_whole_in T F_is_whole_in c_is_whole, PySem.W.mg_of X G a1, k1, F_is_whole_in.binds fun _ _ _ _ _ _ us hl => match us, hl with | [_, _, _], _ => rfl⟩⟩
  have F_check_count := fun_mk (st := s_check_count) l2 c2 k2
  have c_check_count : Cal l.prog w K mg base "check_count" 3 spCheckCount := ⟨⟨_, _, _, ok_check_count T F_check_count c_is_whole_in, PySem.W.mg_of X G a2, k2, F_check_count.binds fun _ _ _ _ _ _ us hl => match us, hl with | [_], _ => rfl⟩⟩
  have F_check_hues := fun_mk (st := s_check_hues) l3 c3 k3
  have c_check_hues : Cal l.prog w K mg base "check_hues" 3 spCheckHues := ⟨⟨_, _, _, ok_check_hues T F_check_hues c_is_whole_in, PySem.W.mg_of X G a3, k3, F_check_hues.binds fun _ _ _ _ _ _ us hl => match us, hl with | [_], _ => rfl⟩⟩
  have F_is_wire := fun_mk (st := s_is_wire) l4 c4 k4
  have c_is_wire : Cal l.prog w K mg base "is_wire" 3 spIsWire := ⟨⟨_, _, _, ok_is_wire T F_is_wire c_is_whole_in, PySem.W.mg_of X G a4, k4, F_is_wire.binds fun _ _ _ _ _ _ us hl => match us, hl with | [_, _], _ => rfl⟩⟩
  have F_with_wire := fun_mk (st := s_with_wire) l5 c5 k5
  have c_with_wire : Cal l.prog w K mg base "with_wire" 1 spWithWire := ⟨⟨_, _, _, ok_with_wire T F_with_wire, PySem.W.mg_of X G a5, k5, F_with_wire.binds fun _ _ _ _ _ _ us hl => match us, hl with | [_, _, _], _ => rfl⟩⟩
  have F_lamps_beneath := fun_mk (st := s_lamps_beneath) l6 c6 k6
  have c_lamps_beneath : Cal l.prog w K mg base "lamps_beneath" 4 (spLampsBeneath K) := ⟨⟨_, _, _, ok_lamps_beneath T F_lamps_beneath c_is_wire c_with_wire, PySem.W.mg_of X G a6, k6, F_lamps_beneath.binds fun _ _ _ _ _ _ us hl => match us, hl with | [_, _], _ => rfl⟩⟩
  have F_is_next := fun_mk (st := s_is_next) l7 c7 k7
  have c_is_next : Cal l.prog w K mg base "is_next" 1 spIsNext := ⟨⟨_, _, _, ok_is_next T F_is_next, PySem.W.mg_of X G a7, k7, F_is_next.binds fun _ _ _ _ _ _ us hl => match us, hl with | [_, _, _], _ => rfl⟩⟩
  have F_order_list := fun_mk (st := s_order_list) l8 c8 k8
  have c_order_list : Cal l.prog w K mg base "order_list" 2 spOrderList := ⟨⟨_, _, _, ok_order_list T F_order_list c_is_next, PySem.W.mg_of X G a8, k8, F_order_list.binds fun _ _ _ _ _ _ us hl => match us, hl with | [_], _ => rfl⟩⟩
  have F_is_lamp := fun_mk (st := s_is_lamp) l9 c9 k9
  have c_is_lamp : Cal l.prog w K mg base "is_lamp" 3 (spIsLamp C) := ⟨⟨_, _, _, ok_is_lamp T F_is_lamp c_is_whole_in, PySem.W.mg_of X G a9, k9, F_is_lamp.binds fun _ _ _ _ _ _ us hl => match us, hl with | [_, _], _ => rfl⟩⟩
  have F_check_lamp := fun_mk (st := s_check_lamp) l10 c10 k10
  have c_check_lamp : Cal l.prog w K mg base "check_lamp" 4 (spCheckLamp C) := ⟨⟨_, _, _, ok_check_lamp T F_check_lamp c_is_lamp, PySem.W.mg_of X G a10, k10, F_check_lamp.binds fun _ _ _ _ _ _ us hl => match us, hl with | [_, _], _ => rfl⟩⟩
  have F_is_state := fun_mk (st := s_is_state) l11 c11 k11
  have c_is_state : Cal l.prog w K mg base "is_state" 3 (spIsState C) := ⟨⟨_, _, _, ok_is_state T F_is_state c_is_whole_in, PySem.W.mg_of X G a11, k11, F_is_state.binds fun _ _ _ _ _ _ us hl => match us, hl with | [_, _], _ => rfl⟩⟩
  have F_check_state := fun_mk (st := s_check_state) l12 c12 k12
  have c_check_state : Cal l.prog w K mg base "check_state" 4 (spCheckState C) := ⟨⟨_, _, _, ok_check_state T F_check_state c_is_state, PySem.W.mg_of X G a12, k12, F_check_state.binds fun _ _ _ _ _ _ us hl => match us, hl with | [_, _], _ => rfl⟩⟩
  have F_order := fun_mk (st := s_House_order) lM0 cM0 kM0
  have M_order : MCal l.prog w K mg base C "order" 1 (spOrder C) := ⟨⟨_, _, _, ok_order T F_order, ⟨aM0, iM0, kM0⟩, F_order.binds fun _ _ _ _ _ _ us hl => match us, hl with | [_], _ => rfl⟩⟩
  have F_beneath := fun_mk (st := s_House_beneath) lM1 cM1 kM1
  have M_beneath : MCal l.prog w K mg base C "beneath" 5 (spBeneath C) := ⟨⟨_, _, _, ok_beneath T F_beneath c_check_lamp, ⟨aM1, iM1, kM1⟩, F_beneath.binds fun _ _ _ _ _ _ us hl => match us, hl with | [_, _], _ => rfl⟩⟩
  have F_reaches := fun_mk (st := s_reaches) l13 c13 k13
  have c_reaches : Cal l.prog w K mg base "reaches" 6 (spReaches C) := ⟨⟨_, _, _, ok_reaches T F_reaches M_order M_beneath, PySem.W.mg_of X G a13, k13, F_reaches.binds fun _ _ _ _ _ _ us hl => match us, hl with | [_, _, _], _ => rfl⟩⟩
  have F_is_reachable := fun_mk (st := s_is_reachable) l14 c14 k14
  have c_is_reachable : Cal l.prog w K mg base "is_reachable" 7 (spReaches C) := ⟨⟨_, _, _, ok_is_reachable T F_is_reachable c_check_state c_reaches, PySem.W.mg_of X G a14, k14, F_is_reachable.binds fun _ _ _ _ _ _ us hl => match us, hl with | [_, _, _], _ => rfl⟩⟩
  have F__law_pool := fun_mk (st := s__law_pool) l15 c15 k15
  have c__law_pool : Cal l.prog w K mg base "_law_pool" 1 (spPool K) := ⟨⟨_, _, _, ok__law_pool T F__law_pool, PySem.W.mg_of X G a15, k15, F__law_pool.binds fun _ _ _ _ _ _ us hl => match us, hl with | [_], _ => rfl⟩⟩
  have F__law_draw := fun_mk (st := s__law_draw) l16 c16 k16
  have c__law_draw : Cal l.prog w K mg base "_law_draw" 1 spDraw := ⟨⟨_, _, _, ok__law_draw T F__law_draw, PySem.W.mg_of X G a16, k16, F__law_draw.binds fun _ _ _ _ _ _ us hl => match us, hl with | [_, _], _ => rfl⟩⟩
  have F__law_small := fun_mk (st := s__law_small) l17 c17 k17
  have c__law_small : Cal l.prog w K mg base "_law_small" 2 spSmall := ⟨⟨_, _, _, ok__law_small T F__law_small c__law_draw, PySem.W.mg_of X G a17, k17, F__law_small.binds fun _ _ _ _ _ _ us hl => match us, hl with | [_], _ => rfl⟩⟩
  have F__law_line := fun_mk (st := s__law_line) l18 c18 k18
  have c__law_line : Cal l.prog w K mg base "_law_line" 2 spLine := ⟨⟨_, _, _, ok__law_line T F__law_line c__law_draw, PySem.W.mg_of X G a18, k18, F__law_line.binds fun _ _ _ _ _ _ us hl => match us, hl with | [_, _], _ => rfl⟩⟩
  have F__law_wires := fun_mk (st := s__law_wires) l19 c19 k19
  have c__law_wires : Cal l.prog w K mg base "_law_wires" 2 spWires := ⟨⟨_, _, _, ok__law_wires T F__law_wires c__law_draw, PySem.W.mg_of X G a19, k19, F__law_wires.binds fun _ _ _ _ _ _ us hl => match us, hl with | [_, _], _ => rfl⟩⟩
  have F__law_uppers := fun_mk (st := s__law_uppers) l20 c20 k20
  have c__law_uppers : Cal l.prog w K mg base "_law_uppers" 1 spUppers := ⟨⟨_, _, _, ok__law_uppers T F__law_uppers, PySem.W.mg_of X G a20, k20, F__law_uppers.binds fun _ _ _ _ _ _ us hl => match us, hl with | [_, _], _ => rfl⟩⟩
  have F__law_lowers := fun_mk (st := s__law_lowers) l21 c21 k21
  have c__law_lowers : Cal l.prog w K mg base "_law_lowers" 1 spLowers := ⟨⟨_, _, _, ok__law_lowers T F__law_lowers, PySem.W.mg_of X G a21, k21, F__law_lowers.binds fun _ _ _ _ _ _ us hl => match us, hl with | [_], _ => rfl⟩⟩
  have F__law_all := fun_mk (st := s__law_all) l22 c22 k22
  have c__law_all : Cal l.prog w K mg base "_law_all" 1 spAll := ⟨⟨_, _, _, ok__law_all T F__law_all, PySem.W.mg_of X G a22, k22, F__law_all.binds fun _ _ _ _ _ _ us hl => match us, hl with | [_, _], _ => rfl⟩⟩
  have F__law_begin := fun_mk (st := s__law_begin) l23 c23 k23
  have c__law_begin : Cal l.prog w K mg base "_law_begin" 2 spBegin := ⟨⟨_, _, _, ok__law_begin T F__law_begin c__law_draw, PySem.W.mg_of X G a23, k23, F__law_begin.binds fun _ _ _ _ _ _ us hl => match us, hl with | [_, _, _], _ => rfl⟩⟩
  have F__law_may := fun_mk (st := s__law_may) l24 c24 k24
  have c__law_may : Cal l.prog w K mg base "_law_may" 1 spMay := ⟨⟨_, _, _, ok__law_may T F__law_may, PySem.W.mg_of X G a24, k24, F__law_may.binds fun _ _ _ _ _ _ us hl => match us, hl with | [_, _, _, _, _, _], _ => rfl⟩⟩
  have F__law_step := fun_mk (st := s__law_step) l25 c25 k25
  have c__law_step : Cal l.prog w K mg base "_law_step" 1 spStep := ⟨⟨_, _, _, ok__law_step T F__law_step, PySem.W.mg_of X G a25, k25, F__law_step.binds fun _ _ _ _ _ _ us hl => match us, hl with | [_, _, _, _, _], _ => rfl⟩⟩
  have F__law_found := fun_mk (st := s__law_found) l26 c26 k26
  have c__law_found : Cal l.prog w K mg base "_law_found" 2 spFound := ⟨⟨_, _, _, ok__law_found T F__law_found c__law_may c__law_step, PySem.W.mg_of X G a26, k26, F__law_found.binds fun _ _ _ _ _ _ us hl => match us, hl with | [_, _, _, _, _], _ => rfl⟩⟩
  have F_init : FunV K "__init__" "House.__init__" s_House___init__ fI _ := ⟨⟨_, _, _, _, _, _, _, _, _, _, rfl, lI, cI⟩, kI⟩
  have c_House : NCal l.prog w K mg base C "House" 5 (spInit K C) := ⟨⟨_, _, _, ok_init T F_init c_check_count c_check_hues c_lamps_beneath c_order_list, ⟨mk, aI, iI, kc⟩, binds_init (E := 0) lT⟩, PySem.W.mg_of X G aC⟩
  exact ok_law T (fun_mk (st := s_law) l27 c27 k27) c__law_pool c__law_small c__law_line c__law_wires c__law_uppers c__law_lowers c_House c__law_begin c__law_found c__law_all c_is_reachable
theorem walk {l : PySem.W.OpenLaw} {q : Program} {loose : List Str} {XP : (Str → Option Value) → Heap → Prop} {YP : World → Heap → Prop} {d : DefRec} {K : Params → PySem.W.Frag} (hn : l.most = some 63) (hdf : d.params.defaults = [])
    (hY : ∀ (w : World) (h : Heap), YP w h → (K w.params).In h)
    (F : ∀ (w : World) (mg : Str → Option Value) (fa : Addr) (h : Heap), (K w.params).In h → h.Ns mainGlobals mg → mg d.name = some (.ref fa) →
      ∃ fd : FuncData, (∀ (s : Shared) (u : Value), BindsTo s fd ⟨[u], []⟩ [("script", u)]) ∧ ∀ base : Heap, (K w.params).In base → base.Ns mainGlobals mg → FnOk l.prog w (K w.params) mg base CX0 8 fa fd ["script"] (spLaw (K w.params))) :
    PySem.W.WalkO q loose XP YP l.row.toRowW d [] (fun f vs => PySem.call f vs) :=
  L2.walk_of (n := 63) (k := 8) (x := "script") (CX := fun _ => CX0) (sp := fun w => spLaw (K w.params)) hn (by decide) hdf ⟨rfl, by decide, by decide⟩ hY F (fun _ _ a ns hl _ hS => ⟨a, ns, rfl, hS, hl, fun _ => rfl⟩) fun _ _ _ _ _ z => z
end Hue

end
section


open PySem PySem.W PyProof.Rows in
set_option maxRecDepth 100000 in
set_option maxHeartbeats 0 in
theorem PySem.Challenge.cw_huefall_k16_whole_reach_is_search_holds : PySem.Challenge.rw_huefall_k16_whole_reach_is_search.Holds := by
  w_on; o_law; k_head; (case hw => w_witness2)
  k_fill
  refine Hue.walk (l := PySem.Challenge.rw_huefall_k16_whole_reach_is_search) rfl rfl (fun w h Y => PySem.W.kIn_of Y) ?F
  case F =>
    intro w mg fa h KX G hmg
    refine' Hue.all_mk KX G hmg ?aC ?a0 ?l0 ?c0 ?k0 ?a1 ?l1 ?c1 ?k1 ?a2 ?l2 ?c2 ?k2 ?a3 ?l3 ?c3 ?k3 ?a4 ?l4 ?c4 ?k4 ?a5 ?l5 ?c5 ?k5 ?a6 ?l6 ?c6 ?k6 ?a7 ?l7 ?c7 ?k7 ?a8 ?l8 ?c8 ?k8 ?a9 ?l9 ?c9 ?k9 ?a10 ?l10 ?c10 ?k10 ?a11 ?l11 ?c11 ?k11 ?a12 ?l12 ?c12 ?k12 ?a13 ?l13 ?c13 ?k13 ?a14 ?l14 ?c14 ?k14 ?a15 ?l15 ?c15 ?k15 ?a16 ?l16 ?c16 ?k16 ?a17 ?l17 ?c17 ?k17 ?a18 ?l18 ?c18 ?k18 ?a19 ?l19 ?c19 ?k19 ?a20 ?l20 ?c20 ?k20 ?a21 ?l21 ?c21 ?k21 ?a22 ?l22 ?c22 ?k22 ?a23 ?l23 ?c23 ?k23 ?a24 ?l24 ?c24 ?k24 ?a25 ?l25 ?c25 ?k25 ?a26 ?l26 ?c26 ?k26 ?a27 ?l27 ?c27 ?k27 ?aM0 ?iM0 ?lM0 ?cM0 ?kM0 ?aM1 ?iM1 ?lM1 ?cM1 ?kM1 ?aI ?iI ?lI ?cI ?kI ?lT ?pg ?hd ?po ?sa ?mk ?kc ?nCount ?nHues ?nBen ?nWires ?nAbove ?nDirect ?nOrder ?rd ?ga ?v1 ?r1 ?v2 ?r2 ?b_len ?b_range ?b_isinstance ?b_int ?b_bool ?b_tuple ?b_list ?b_set ?b_enumerate ?b_sorted ?b_min ?b_all ?b_abs
    (case aC => k_is)
    (case a0 => k_is)
    (case l0 => k_is)
    (case c0 => k_is)
    (case k0 => k_is)
    (case a1 => k_is)
    (case l1 => k_is)
    (case c1 => k_is)
    (case k1 => k_is)
    (case a2 => k_is)
    (case l2 => k_is)
    (case c2 => k_is)
    (case k2 => k_is)
    (case a3 => k_is)
    (case l3 => k_is)
    (case c3 => k_is)
    (case k3 => k_is)
    (case a4 => k_is)
    (case l4 => k_is)
    (case c4 => k_is)
    (case k4 => k_is)
    (case a5 => k_is)
    (case l5 => k_is)
    (case c5 => k_is)
    (case k5 => k_is)
    (case a6 => k_is)
    (case l6 => k_is)
    (case c6 => k_is)
    (case k6 => k_is)
    (case a7 => k_is)
    (case l7 => k_is)
    (case c7 => k_is)
    (case k7 => k_is)
    (case a8 => k_is)
    (case l8 => k_is)
    (case c8 => k_is)
    (case k8 => k_is)
    (case a9 => k_is)
    (case l9 => k_is)
    (case c9 => k_is)
    (case k9 => k_is)
    (case a10 => k_is)
    (case l10 => k_is)
    (case c10 => k_is)
    (case k10 => k_is)
    (case a11 => k_is)
    (case l11 => k_is)
    (case c11 => k_is)
    (case k11 => k_is)
    (case a12 => k_is)
    (case l12 => k_is)
    (case c12 => k_is)
    (case k12 => k_is)
    (case a13 => k_is)
    (case l13 => k_is)
    (case c13 => k_is)
    (case k13 => k_is)
    (case a14 => k_is)
    (case l14 => k_is)
    (case c14 => k_is)
    (case k14 => k_is)
    (case a15 => k_is)
    (case l15 => k_is)
    (case c15 => k_is)
    (case k15 => k_is)
    (case a16 => k_is)
    (case l16 => k_is)
    (case c16 => k_is)
    (case k16 => k_is)
    (case a17 => k_is)
    (case l17 => k_is)
    (case c17 => k_is)
    (case k17 => k_is)
    (case a18 => k_is)
    (case l18 => k_is)
    (case c18 => k_is)
    (case k18 => k_is)
    (case a19 => k_is)
    (case l19 => k_is)
    (case c19 => k_is)
    (case k19 => k_is)
    (case a20 => k_is)
    (case l20 => k_is)
    (case c20 => k_is)
    (case k20 => k_is)
    (case a21 => k_is)
    (case l21 => k_is)
    (case c21 => k_is)
    (case k21 => k_is)
    (case a22 => k_is)
    (case l22 => k_is)
    (case c22 => k_is)
    (case k22 => k_is)
    (case a23 => k_is)
    (case l23 => k_is)
    (case c23 => k_is)
    (case k23 => k_is)
    (case a24 => k_is)
    (case l24 => k_is)
    (case c24 => k_is)
    (case k24 => k_is)
    (case a25 => k_is)
    (case l25 => k_is)
    (case c25 => k_is)
    (case k25 => k_is)
    (case a26 => k_is)
    (case l26 => k_is)
    (case c26 => k_is)
    (case k26 => k_is)
    (case a27 => k_is)
    (case l27 => k_is)
    (case c27 => k_is)
    (case k27 => k_is)
    (case aM0 => k_is)
    (case iM0 => k_is)
    (case lM0 => k_is)
    (case cM0 => k_is)
    (case kM0 => k_is)
    (case aM1 => k_is)
    (case iM1 => k_is)
    (case lM1 => k_is)
    (case cM1 => k_is)
    (case kM1 => k_is)
    (case aI => k_is)
    (case iI => k_is)
    (case lI => k_is)
    (case cI => k_is)
    (case kI => k_is)
    (case lT => k_is)
    (case pg => k_is)
    (case hd => k_is)
    (case po => k_is)
    (case sa => k_is)
    (case mk => k_is)
    (case kc => k_is)
    (case nCount => k_is)
    (case nHues => k_is)
    (case nBen => k_is)
    (case nWires => k_is)
    (case nAbove => k_is)
    (case nDirect => k_is)
    (case nOrder => k_is)
    (case rd => k_is)
    (case ga => k_is)
    (case v1 => k_is)
    (case r1 => exact ⟨_, rfl⟩)
    (case v2 => k_is)
    (case r2 => exact ⟨_, rfl⟩)
    (case b_len => k_is)
    (case b_range => k_is)
    (case b_isinstance => k_is)
    (case b_int => k_is)
    (case b_bool => k_is)
    (case b_tuple => k_is)
    (case b_list => k_is)
    (case b_set => k_is)
    (case b_enumerate => k_is)
    (case b_sorted => k_is)
    (case b_min => k_is)
    (case b_all => k_is)
    (case b_abs => k_is)

end
