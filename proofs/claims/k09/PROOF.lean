import PyProof.Rows.All
import Wide.All
import OpenK.AllK
import Wide.FinOn
import HandS.ForMost
import HandS.Codes
import HandS.Deep
import HandS.ClsMeth
import HandS.Conv
import HandS.Small
import HandS.IsInst
import KE.GoesMore
import KE.GoesEnumKw
import PyProof.Draws
import PyProof.Rows.CallKwBuiltin
import HandS.Sort
import HandS.Strs
import HandS.SetTxt0
import PyProof.CollectStr
import PyProof.StrWalks
import PyProof.Rows.SetFrom
import PyProof.Rows.SortShellAny
import HandS.Zip
import HandS.Walk
import HandS.Exc
import HandS.ExcInit
import HandS.ExcField
import HandS.ExcIs
import HandS.TryMany
import HandS.WordsExc
import HandS.ExcValue
import KE.KExcIs
import HandS.ExcOwn
import HandS.More
import HandS.Text
import HandS.TupSets
import PyProof.SetRoads
import HandS.SortRule
import KE.KSuper
import HandS.Nested
import HandS.Property
import KE.KOwn
import HandS.HotCalls
import PyProof.StrBlock2
import PyProof.Rows.StrJoinRep
import KE.KCallOwn
import HandS.SetBool
import HandS.DictComp
import HandS.OwnEq
import HandS.Defaults
import HandS.CallSlots
import PySem.Challenge.RW_smalti_k09_rule_clashes
set_option Elab.async false
set_option linter.all false
set_option maxRecDepth 100000
set_option maxHeartbeats 8000000
namespace Pm
open PySem L2
/-! ### the text by places -/
def top (i : Nat) : Stmt := PySem.Challenge.pw_smalti_k09_rule_clashes.main.body.getD i (.Pass ⟨0, 0, 0, 0⟩)
abbrev gWall : Stmt := top 0
abbrev cInvalidPictureInit : Stmt := inClass (top 3) 0
abbrev cInvalidRuleInit : Stmt := inClass (top 4) 0
abbrev cOutOfPictureInit : Stmt := inClass (top 5) 0
abbrev cWrongStoneInit : Stmt := inClass (top 6) 0
abbrev gDecimal : Stmt := top 11
abbrev cRegionInit : Stmt := inClass (top 12) 0
abbrev cRegionOf : Stmt := inClass (top 12) 1
abbrev cRegionCells : Stmt := inClass (top 12) 2
abbrev cRegionWithin : Stmt := inClass (top 12) 3
abbrev cRegionOr : Stmt := inClass (top 12) 4
abbrev cRegionAnd : Stmt := inClass (top 12) 5
abbrev cRegionSub : Stmt := inClass (top 12) 6
abbrev cRegionXor : Stmt := inClass (top 12) 7
abbrev cRegionEq : Stmt := inClass (top 12) 8
abbrev cRegionContains : Stmt := inClass (top 12) 9
abbrev cRegionLen : Stmt := inClass (top 12) 10
abbrev cRegionBool : Stmt := inClass (top 12) 11
abbrev cRegionStr : Stmt := inClass (top 12) 12
abbrev gIsStone : Stmt := top 16
abbrev gIsStoneOrHole : Stmt := top 17
abbrev gAreDifferentSigns : Stmt := top 18
abbrev gInAsciiOrder : Stmt := top 19
abbrev gIsBadRow : Stmt := top 20
abbrev gBadLine : Stmt := top 21
abbrev cPictureInit : Stmt := inClass (top 22) 2
abbrev cPictureRead : Stmt := inClass (top 22) 3
abbrev cPicturePlain : Stmt := inClass (top 22) 4
abbrev cPictureLines : Stmt := inClass (top 22) 5
abbrev cPictureEveryCell : Stmt := inClass (top 22) 6
abbrev cPictureStones : Stmt := inClass (top 22) 7
abbrev cPictureHoles : Stmt := inClass (top 22) 8
abbrev cPictureContains : Stmt := inClass (top 22) 9
abbrev cPictureWithSign : Stmt := inClass (top 22) 10
abbrev cPictureGetitem : Stmt := inClass (top 22) 11
abbrev cPictureIter : Stmt := inClass (top 22) 12
abbrev cPictureLen : Stmt := inClass (top 22) 13
abbrev cPictureEq : Stmt := inClass (top 22) 14
abbrev cPictureSub : Stmt := inClass (top 22) 15
abbrev cPictureStr : Stmt := inClass (top 22) 16
abbrev gCheckCell : Stmt := top 23
abbrev gIsPlace : Stmt := top 27
abbrev gCheckConditions : Stmt := top 28
abbrev gCheckNeed : Stmt := top 29
abbrev gInOrder : Stmt := top 30
abbrev gClashesAt : Stmt := top 31
abbrev cRuleInit : Stmt := inClass (top 32) 1
abbrev cRuleSlack : Stmt := inClass (top 32) 2
abbrev cRuleLays : Stmt := inClass (top 32) 3
abbrev cRuleConditions : Stmt := inClass (top 32) 4
abbrev cRuleClashes : Stmt := inClass (top 32) 5
abbrev cRuleFits : Stmt := inClass (top 32) 6
abbrev cRuleWritten : Stmt := inClass (top 32) 7
abbrev cRuleConditionWords : Stmt := inClass (top 32) 8
abbrev cRuleLen : Stmt := inClass (top 32) 9
abbrev cCountRuleInit : Stmt := inClass (top 33) 1
abbrev cCountRuleSlack : Stmt := inClass (top 33) 2
abbrev cCountRuleWritten : Stmt := inClass (top 33) 3
abbrev cSameRuleInit : Stmt := inClass (top 34) 1
abbrev cSameRuleLays : Stmt := inClass (top 34) 2
abbrev cSameRuleConditions : Stmt := inClass (top 34) 3
abbrev cSameRuleWritten : Stmt := inClass (top 34) 4
abbrev lBag : Stmt := top 36
abbrev lTake : Stmt := top 37
abbrev lIsInt : Stmt := top 38
abbrev lIsCell : Stmt := top 39
abbrev lIsCells : Stmt := top 40
abbrev lReading : Stmt := top 41
abbrev lPalette : Stmt := top 42
abbrev lRow : Stmt := top 43
abbrev lGrid : Stmt := top 44
abbrev lOffset : Stmt := top 45
abbrev lSigns : Stmt := top 46
abbrev lParts : Stmt := top 47
abbrev lRule : Stmt := top 48
abbrev lSign : Stmt := top 49
abbrev lLays : Stmt := top 50
abbrev lClashing : Stmt := top 51
abbrev lSubset : Stmt := top 52
abbrev lRegionIs : Stmt := top 53
abbrev lMade : Stmt := top 54
abbrev lAsked : Stmt := top 55
abbrev lDue : Stmt := top 56
abbrev lRight : Stmt := top 57
abbrev lLaw : Stmt := top 58
end Pm
namespace Pm
open PySem PySem.Spec PyProof.Rows L2
/-- all that stood stands, but r -/
def SameBut (r : Addr) (H H' : Hp) : Prop := ∀ b o, b ≠ r → H b = some o → H' b = some o
theorem tyes {σ : L2.St} {G : Hp} {R : Bool → Hp → Prop} (h : R true G) : tYes σ G R := h
theorem same_upd {H : Hp} {p : Addr} {o : HO} (h : H p = none) : Same H (upd H p o) := fun b x e => by
  rw [upd_ne (ne_of_none e h)]
  exact e
theorem back {H H' : Hp} (s : Same H H') {t : Addr} (h : H' t = none) : H t = none := by
  cases z : H t with
  | none => rfl
  | some o =>
    rw [s _ _ z] at h
    cases h
theorem but_back {b : Addr} {H H' : Hp} {xs : List V} (hb : H b = some (.lst xs)) (s : SameBut b H H') {t : Addr} (ne : t ≠ b) (h : H' t = none) : H t = none := by
  cases z : H t with
  | none => rfl
  | some o =>
    rw [s _ _ ne z] at h
    cases h
theorem cut_to (xs : List V) (n : Nat) : cutV xs none (some (n : Int)) = xs.take n := by
  unfold cutV
  rw [HT.sIx_none, HT.sIx_nat, List.drop_zero, Nat.sub_zero]
  rcases Nat.le_total n xs.length with h | h
  · rw [Nat.min_eq_left h]
  · rw [Nat.min_eq_right h, List.take_of_length_le (Nat.le_refl _), List.take_of_length_le h]
theorem iteFe {b : Bool} {p q : Prop} (h : b = false) (z : q) : if b = true then p else q := by
  subst h
  exact iteF z
theorem iteTe {b : Bool} {p q : Prop} (h : b = true) (z : p) : if b = true then p else q := by
  subst h
  exact iteT z
/-- the built-ins by their names -/
structure LTxt (K : PySem.W.Frag) (mg : Str → Option Value) : Prop where
  isi : mg "isinstance" = none
  int : mg "int" = none
  lst : mg "list" = none
  len : mg "len" = none
  rng : mg "range" = none
/-- a def that may be called by its name -/
structure Cl (P : Program) (w : World) (K : PySem.W.Frag) (mg : Str → Option Value) (base : Heap) (CX : CXT) (k : Nat) (name : Str) (ps : List Str) (sp : Sp) (f : Addr) (fd : FuncData) : Prop where
  ok : FnOk P w K mg base CX k f fd ps sp
  kp : PySem.W.keepIn K (.ref f) = true
  bd : Binds K fd ps []
  gl : mg name = some (.ref f)
/-! ### the bag of drawn numbers -/
/-- the bag at b: four places; the first a list of ints, the second a place in it or its end, the third at least 0 -/
abbrev BagL (H : Hp) (b l : Addr) : Prop := ∃ (ns : List Int) (i p q : Int),
  H b = some (.lst [.ref l, .int i, .int p, .int q]) ∧ H l = some (.lst (ns.map V.int)) ∧ 0 ≤ i ∧ 0 ≤ p ∧ l ≠ b ∧ ns.length ≤ 63
/-- all but b stands as it stood -/
def But (b : Addr) (H H' : Hp) : Prop := ∀ a, a ≠ b → H' a = H a
theorem But.refl (b : Addr) (H : Hp) : But b H H := fun _ _ => rfl
theorem But.trans {b : Addr} {H H1 H2 : Hp} (x : But b H H1) (y : But b H1 H2) : But b H H2 := fun a h => (y a h).trans (x a h)
theorem But.upd {b : Addr} {H : Hp} {o : HO} : But b H (upd H b o) := fun _ h => upd_ne h
def spTake : Sp := fun vs H Q _ => ∃ (b l : Addr) (size : Int), vs = [.ref b, .int size] ∧ BagL H b l ∧ 0 < size ∧ size < 1073741824 ∧
  ∀ (n : Int) (H' : Hp), 0 ≤ n → n < size → But b H H' → BagL H' b l → Q (.int n) H'
theorem scTake : FnScope ["_law_bag_here", "_law_size", "_law_cell", "_law_digit"] ["_law_bag_here", "_law_size"] (defScope lTake) := ⟨rfl, rfl, rfl, by decide +kernel, rfl, by decide +kernel, by decide +kernel⟩
theorem at4 {a b c d : V} : atI [a, b, c, d] 0 = some a ∧ atI [a, b, c, d] 1 = some b ∧ atI [a, b, c, d] 2 = some c ∧ atI [a, b, c, d] 3 = some d := ⟨rfl, rfl, rfl, rfl⟩
section
variable {P : Program} {w : World} {K : PySem.W.Frag} {mg : Str → Option Value} {base : Heap}
theorem ok_take {f : Addr} {fd : FuncData} (F : Fun K "_law_take" "_law_take" lTake f fd) (mlen : mg "len" = none) (mint : mg "int" = none) : FnOk P w K mg base CX0 1 f fd ["_law_bag_here", "_law_size"] spTake := by
  refine F.ok scTake (fun vs H Q E h => ?_) (fun cdv A outer s H vs Q E hr h => ?_)
  · obtain ⟨b, l, size, rfl, _⟩ := h
    rfl
  · obtain ⟨b, l, size, rfl, ⟨ns, i, p, q, hb, hl, i0, p0, nlb, n63⟩, s0, s1, k⟩ := h
    refine ⟨_, C8.pss_cut (ps_if (PW.pt (pw_and (pt_cmpR op_eq (pe_ix ix_list (pv 0) pe_int (fun _ _ => rfl)) pe_int (nomark _))
          (pw_and1 (pt_cmpR op_lt (pe_ix ix_list (pv 0) pe_int (fun _ _ => rfl)) (pe_callB call_len_seq (by rfl) mlen PySem.boot_len (pa_cons (pe_ix ix_list (pv 0) pe_int (fun _ _ => rfl)) pa_nil)) (nomark _)))))
        (pss_cons (ps_set (i := 2) scTake.nd rfl (.inl rfl) (pe_ix ix_list (pe_ix ix_list (pv 0) pe_int (fun _ _ => rfl)) (pe_ix ix_list (pv 0) pe_int (fun _ _ => rfl)) (fun _ _ => rfl)))
        (pss_cons (ps_asg (pe_op op_add (pe_ix ix_list (pv 0) pe_int (fun _ _ => rfl)) pe_int) (pg_sub (pv 0) pe_int set_list))
        (pss_one (ps_if (pt_cmpR op_ge (pv 2) (pe_op op_pow pe_int pe_int) (nomark _))
          (pss_one (ps_asg (pv 2) (pg_sub (pv 0) pe_int set_list)))
          (pss_one (ps_asg (pe_op op_mod (pe_callTy call_int1 (by rfl) mint (by decide +kernel) (pa_cons (pe_op op_add (pe_op op_add (pe_op op_mul (pe_ix ix_list (pv 0) pe_int (fun _ _ => rfl)) pe_int) (pe_op op_mul (pv 2) pe_int)) pe_int) pa_nil)) pe_int) (pg_sub (pv 0) pe_int set_list)))))))
        pss_nil)
      (pss_cons (ps_if (pt_cmpR op_gt (pe_ix ix_list (pv 0) pe_int (fun _ _ => rfl)) pe_int (nomark _))
        (pss_cons (ps_set (i := 3) scTake.nd rfl (.inl rfl) (pe_op op_mod (pe_callTy call_int1 (by rfl) mint (by decide +kernel) (pa_cons (pe_ix ix_list (pv 0) pe_int (fun _ _ => rfl)) pa_nil)) (pv 1)))
        (pss_cons (ps_asg (pe_op op_fdiv (pe_ix ix_list (pv 0) pe_int (fun _ _ => rfl)) (pv 1)) (pg_sub (pv 0) pe_int set_list))
        (pss_one (ps_ret (pv 3)))))
        pss_nil)
      (pss_cons (ps_asg (pe_op op_mod (pe_callTy call_int1 (by rfl) mint (by decide +kernel) (pa_cons (pe_op op_add (pe_op op_mul (pe_ix ix_list (pv 0) pe_int (fun _ _ => rfl)) pe_int) pe_int) pa_nil)) pe_int) (pg_sub (pv 0) pe_int set_list))
      (pss_one (ps_ret (pe_op op_mod (pe_callTy call_int1 (by rfl) mint (by decide +kernel) (pa_cons (pe_op op_fdiv (pe_ix ix_list (pv 0) pe_int (fun _ _ => rfl)) pe_int) pa_nil)) (pv 1)))))), ?_⟩
    have seven : ∀ q' : Int, (0 : Int) < 2147483647 := fun _ => by decide
    refine ⟨fun σ H1 => ∃ (c : Option V) (i' p' q' : Int), σ = [some (.ref b), some (.int size), c, Option.none] ∧ But b H H1 ∧ H1 b = some (.lst [.ref l, .int i', .int p', .int q']) ∧ 0 ≤ i' ∧ 0 ≤ p', ?_, ?_⟩
    · -- if bag[2] == 0 and bag[1] < len(bag[0])
      refine ⟨_, rfl, b, _, 2, _, rfl, rfl, SqL.of hb, rfl, rfl, _, rfl, ite2 (fun _ => ?_) (fun _ => ⟨_, i, p, q, rfl, But.refl b H, hb, i0, p0⟩)⟩
      refine ⟨_, rfl, b, _, 1, _, rfl, rfl, SqL.of hb, rfl, _, rfl, b, _, 0, _, rfl, rfl, SqL.of hb, rfl, l, _, rfl, .inl (SqL.of hl), _, _, rfl, rfl, _, rfl, ite2 (fun e => ?_) (fun _ => ⟨_, i, p, q, rfl, But.refl b H, hb, i0, p0⟩)⟩
      have elt : i < ((ns.map V.int).length : Int) := of_decide_eq_true e
      rw [List.length_map] at elt
      obtain ⟨j, rfl⟩ : ∃ j : Nat, i = (j : Int) := ⟨i.toNat, by omega⟩
      have hj : j < ns.length := by omega
      have gj : (ns.map V.int)[j]? = some (.int ns[j]) := by
        rw [List.getElem?_map, List.getElem?_eq_getElem hj]
        rfl
      -- cell = bag[0][bag[1]]
      refine ⟨_, rfl, b, _, 0, _, rfl, rfl, SqL.of hb, rfl, _, rfl, b, _, 1, _, rfl, rfl, SqL.of hb, rfl, l, _, (j : Int), _, rfl, rfl, SqL.of hl, atI_nat gj, ?_⟩
      -- bag[1] = bag[1] + 1
      refine ⟨_, rfl, b, _, 1, _, rfl, rfl, SqL.of hb, rfl, _, _, rfl, rfl, _, rfl, b, _, 1, 1, rfl, rfl, hb, rfl, ?_⟩
      have hb1 : (upd H b (.lst [.ref l, .int ((j : Int) + 1), .int p, .int q])) b = some (.lst [.ref l, .int ((j : Int) + 1), .int p, .int q]) := upd_same
      have bu : But b H (upd H b (.lst [.ref l, .int ((j : Int) + 1), .int p, .int q])) := But.upd
      refine ⟨_, rfl, _, _, rfl, rfl, ⟨by decide, by decide, by decide⟩, _, _, rfl, rfl, _, rfl, ite2 (fun e2 => ?_) (fun _ => ?_)⟩
      · have big : (10 : Int) ^ (18 : Int).toNat ≤ ns[j] := of_decide_eq_true e2
        have pos : (0 : Int) ≤ (10 : Int) ^ (18 : Int).toNat := by decide
        refine ⟨_, rfl, _, rfl, b, _, 2, 2, rfl, rfl, hb1, rfl, ?_⟩
        exact ⟨_, (j : Int) + 1, ns[j], q, rfl, bu.trans But.upd, upd_same, by omega, by omega⟩
      · refine ⟨_, rfl, b, _, 3, _, rfl, rfl, SqL.of hb1, rfl, _, _, rfl, rfl, .inr ⟨by decide, by decide⟩, _, rfl, _, _, rfl, rfl, .inr ⟨by decide, by decide⟩, _, _, rfl, rfl, _, _, rfl, rfl, .inl ⟨_, rfl, _, _, rfl, rfl, seven 0, _, rfl, b, _, 3, 3, rfl, rfl, hb1, rfl, ?_⟩⟩
        exact ⟨_, (j : Int) + 1, p, _, rfl, bu.trans But.upd, upd_same, by omega, p0⟩
    · rintro σ H1 ⟨c, i', p', q', rfl, bu, hb1, i1, p1⟩
      have hl1 : H1 l = some (.lst (ns.map V.int)) := (bu l nlb).trans hl
      refine ⟨_, rfl, b, _, 2, _, rfl, rfl, SqL.of hb1, rfl, _, _, rfl, rfl, _, rfl, ite2 (fun _ => ?_) (fun _ => ?_)⟩
      · -- digit = int(bag[2]) % size; bag[2] = bag[2] // size; return digit
        refine ⟨_, rfl, b, _, 2, _, rfl, rfl, SqL.of hb1, rfl, .inl ⟨_, rfl, _, rfl, _, _, rfl, rfl, s0, ?_⟩⟩
        refine ⟨_, rfl, b, _, 2, _, rfl, rfl, SqL.of hb1, rfl, _, rfl, _, _, rfl, rfl, ⟨s0, s1⟩, _, rfl, b, _, 2, 2, rfl, rfl, hb1, rfl, _, rfl, ?_⟩
        refine k _ _ (Int.emod_nonneg _ (by omega)) (Int.emod_lt_of_pos _ s0) (bu.trans But.upd) ⟨ns, i', p' / size, q', upd_same, ?_, i1, Int.ediv_nonneg p1 (by omega), nlb, n63⟩
        rw [upd_ne nlb]
        exact hl1
      · refine ⟨_, rfl, b, _, 3, _, rfl, rfl, SqL.of hb1, rfl, _, _, rfl, rfl, .inr ⟨by decide, by decide⟩, _, _, rfl, rfl, .inl ⟨_, rfl, _, _, rfl, rfl, seven 0, _, rfl, b, _, 3, 3, rfl, rfl, hb1, rfl, ?_⟩⟩
        have hb2 : (upd H1 b (.lst [.ref l, .int i', .int p', .int ((q' * 48271 + 11) % 2147483647)])) b = some (.lst [.ref l, .int i', .int p', .int ((q' * 48271 + 11) % 2147483647)]) := upd_same
        refine ⟨_, rfl, b, _, 3, _, rfl, rfl, SqL.of hb2, rfl, _, _, rfl, rfl, ⟨by decide, by decide⟩, .inl ⟨_, rfl, _, rfl, _, _, rfl, rfl, s0, ?_⟩⟩
        refine k _ _ (Int.emod_nonneg _ (by omega)) (Int.emod_lt_of_pos _ s0) (bu.trans But.upd) ⟨ns, i', p', _, upd_same, ?_, i1, p1, nlb, n63⟩
        rw [upd_ne nlb]
        exact hl1
def spBag (K : PySem.W.Frag) : Sp := fun vs H Q _ => ∃ (a : Addr) (ns : List Int), vs = [.ref a] ∧ SqL K H a (ns.map V.int) ∧ ns.length ≤ 63 ∧ ∀ b l H', Same H H' → H b = none → BagL H' b l → Q (.ref b) H'
abbrev nBag : List Str := ["_law_script", "_law_cell"]
theorem scBag : FnScope nBag ["_law_script"] (defScope lBag) := ⟨rfl, rfl, rfl, by decide +kernel, rfl, by decide +kernel, by decide +kernel⟩
theorem ok_bag {f : Addr} {fd : FuncData} (F : Fun K "_law_bag" "_law_bag" lBag f fd) (T : LTxt K mg) : FnOk P w K mg base CX0 1 f fd ["_law_script"] (spBag K) := by
  refine F.ok scBag (fun vs H Q E h => ?_) (fun cdv A outer s H vs Q E hr h => ?_)
  · obtain ⟨a, ns, rfl, _⟩ := h
    rfl
  · obtain ⟨a, ns, rfl, ha, few, k⟩ := h
    refine ⟨_, pss_one (ps_ret (pe_lst (pa_cons (pe_lc (own := [("_law_cell", 1)]) (g := gName 1) (tt := tYes) rfl scBag.nd (pi_list (pe_slice sl_list (pv 0) po_none (po_some pe_int)))
      (blkOk_by (own := [("_law_cell", 1)]) (N := nBag) (sc := defScope lBag) (by decide +kernel)) (fun _ _ _ _ _ => pg_name (i := 1) scBag.nd rfl (Or.inl rfl)) (fun _ _ _ _ _ => pts_nil)
      (fun _ _ _ _ _ => pe_callTy call_int1 (by rfl) T.int (by decide +kernel) (pa_cons (pv 1) pa_nil))) (pa_cons pe_int (pa_cons pe_int (pa_cons pe_int pa_nil)))))), ?_⟩
    refine ⟨_, rfl, 63, rfl, a, _, rfl, ha, fun q nq => ?_⟩
    have ec : cutV (ns.map V.int) none (some 63) = ns.map V.int := by
      rw [show (some 63 : Option Int) = some ((63 : Nat) : Int) from rfl, cut_to, List.take_of_length_le (by rw [List.length_map]; exact few)]
    rw [ec]
    have s1 := same_upd (o := .lst (ns.map V.int)) nq
    refine ⟨q, rfl, ⟨_, SqL.of upd_same⟩, fun D nD => lc_list (K := K) (a := q) (xs := ns.map V.int) (fun i G => Same (upd H q (.lst (ns.map V.int))) G ∧ G D = some (.lst ((ns.take i).map V.int))) ⟨same_upd nD, upd_same⟩ (fun i G _ ⟨sm, _⟩ => SqL.of (sm _ _ upd_same)) ?_ ?_⟩
    · rintro i x G hx ⟨sm, hD⟩
      rw [List.getElem?_map] at hx
      cases e : ns[i]? with
      | none =>
        rw [e] at hx
        cases hx
      | some n =>
        rw [e] at hx
        cases hx
        refine ⟨rfl, tyes (iteT ⟨_, rfl, .inl ⟨n, rfl, _, hD, ?_, fun b o eb => ?_, ?_⟩⟩)⟩
        · rw [List.length_map, List.length_take]
          exact small1000 (by omega)
        · rw [upd_ne (ne_of_none eb nD)]
          exact sm _ _ eb
        · rw [upd_same, List.take_add_one, e, List.map_append]
          rfl
    · rintro G ⟨sm, hD⟩
      rw [List.length_map, List.take_of_length_le (Nat.le_refl _)] at hD
      refine ⟨(by show 4 ≤ sizeLine; decide), fun b nb => ?_⟩
      have nb0 : H b = none := by
        cases z : H b with
        | none => rfl
        | some o =>
          rw [sm _ _ (s1 _ _ z)] at nb
          cases nb
      have ndb : D ≠ b := ne_of_none hD nb
      exact k b D _ (fun x o e => by
        rw [upd_ne (ne_of_none (sm _ _ (s1 _ _ e)) nb)]
        exact sm _ _ (s1 _ _ e)) nb0 ⟨ns, 0, 0, 7, upd_same, by rw [upd_ne ndb]; exact hD, by decide, by decide, ndb, few⟩
end
end Pm
namespace Pm
open PySem PySem.Spec PyProof.Rows L2 SX
/-! ### signs -/
abbrev alphaS : Str := "abcdefghijklmnopqrstuvwxyz"
def Let (c : Nat) : Prop := 97 ≤ c ∧ c ≤ 122
def Good (c : Nat) : Prop := c = 46 ∨ Let c
instance (c : Nat) : Decidable (Let c) := by unfold Let; infer_instance
instance (c : Nat) : Decidable (Good c) := by unfold Good; infer_instance
theorem alpha_at : ∀ n : Nat, n < 26 → alphaS.cps.toList[n]? = some (97 + n) := by decide +kernel
theorem alpha_mem (c : Nat) : c ∈ alphaS.cps.toList ↔ Let c := by
  have e : alphaS.cps.toList = List.range' 97 26 := by decide +kernel
  rw [e, List.mem_range'_1]
  unfold Let
  omega
theorem alpha_len : alphaS.length = 26 := by decide +kernel
theorem len_S (a : List Nat) : (S a).length = a.length := S_len a
theorem small_line {n : Nat} (h : n ≤ 1000) : n ≤ sizeLine := Nat.le_of_lt (small1000 h)
theorem dot_S : ("." : Str) = S [46] := by decide +kernel
/-- three letters -/
def Pal (z : List Nat) : Prop := ∃ c d e, z = [c, d, e] ∧ Let c ∧ Let d ∧ Let e
theorem Pal.len {z : List Nat} (h : Pal z) : z.length = 3 := by
  obtain ⟨c, d, e, rfl, _⟩ := h
  rfl
theorem Pal.good {z : List Nat} (h : Pal z) {c : Nat} (m : c ∈ z) : Let c := by
  obtain ⟨a, b, e, rfl, ha, hb, he⟩ := h
  simp only [List.mem_cons, List.not_mem_nil, or_false] at m
  rcases m with rfl | rfl | rfl <;> assumption
theorem draw_at {z : List Nat} (h : Pal z) {n : Int} (n0 : 0 ≤ n) (n7 : n < 7) : ∃ c, atI ([46] ++ z ++ z) n = some c ∧ Good c := by
  obtain ⟨j, rfl⟩ : ∃ j : Nat, n = (j : Int) := ⟨n.toNat, by omega⟩
  have len : ([46] ++ z ++ z).length = 7 := by simp [h.len]
  have hj : j < ([46] ++ z ++ z).length := by omega
  refine ⟨([46] ++ z ++ z)[j], atI_nat (List.getElem?_eq_getElem hj), ?_⟩
  have m := List.getElem_mem hj
  rcases List.mem_append.mp m with m | m
  · rcases List.mem_append.mp m with m | m
    · exact .inl (by simpa using m)
    · exact .inr (h.good m)
  · exact .inr (h.good m)
section
variable {P : Program} {w : World} {K : PySem.W.Frag} {mg : Str → Option Value} {base : Heap}
def spPal : Sp := fun vs H Q _ => ∃ b l, vs = [.ref b] ∧ BagL H b l ∧ ∀ z H', Pal z → But b H H' → BagL H' b l → Q (.str (S z)) H'
theorem scPal : FnScope ["_law_bag_here", "_law_letters", "_law_first", "_law_second", "_law_third"] ["_law_bag_here"] (defScope lPalette) := ⟨rfl, rfl, rfl, by decide +kernel, rfl, by decide +kernel, by decide +kernel⟩
abbrev tkNames : List Str := ["_law_bag_here", "_law_size"]
theorem ok_pal {f t : Addr} {fd td : FuncData} (F : Fun K "_law_palette" "_law_palette" lPalette f fd) (T : Cl P w K mg base CX0 1 "_law_take" tkNames spTake t td) (L : LTxt K mg) : FnOk P w K mg base CX0 2 f fd ["_law_bag_here"] spPal := by
  refine F.ok scPal (fun vs H Q E h => ?_) (fun cdv A outer s H vs Q E hr h => ?_)
  · obtain ⟨b, l, rfl, _⟩ := h
    rfl
  · obtain ⟨b, l, rfl, hb, k⟩ := h
    refine ⟨_, pss_cons (ps_set (i := 1) scPal.nd rfl (.inl rfl) pe_str)
      (pss_cons (ps_set (i := 2) scPal.nd rfl (.inl rfl) (pe_call T.ok hr (by rfl) T.gl T.kp T.bd .nil pass0 (pa_cons (pv 0) (pa_cons pe_int pa_nil))))
      (pss_cons (ps_set (i := 3) scPal.nd rfl (.inl rfl) (pe_op op_mod (pe_callTy call_int1 (by rfl) L.int (by decide +kernel) (pa_cons (pe_op op_add (pe_op op_add (pv 2) pe_int) (pe_call T.ok hr (by rfl) T.gl T.kp T.bd .nil pass0 (pa_cons (pv 0) (pa_cons pe_int pa_nil)))) pa_nil)) pe_int))
      (pss_cons (ps_set (i := 4) scPal.nd rfl (.inl rfl) (pe_op op_mod (pe_callTy call_int1 (by rfl) L.int (by decide +kernel) (pa_cons (pe_op op_add (pe_op op_add (pv 3) pe_int) (pe_call T.ok hr (by rfl) T.gl T.kp T.bd .nil pass0 (pa_cons (pv 0) (pa_cons pe_int pa_nil)))) pa_nil)) pe_int))
      (pss_one (ps_ret (pe_op op_add_str (pe_op op_add_str (pe_ix ix_str (pv 1) (pv 2) (fun _ _ => rfl)) (pe_ix ix_str (pv 1) (pv 3) (fun _ _ => rfl))) (pe_ix ix_str (pv 1) (pv 4) (fun _ _ => rfl)))))))), ?_⟩
    refine ⟨_, rfl, b, l, 26, rfl, hb, by decide, by decide, fun n H1 n0 n1 u1 b1 => ?_⟩
    refine ⟨_, rfl, _, _, rfl, rfl, _, rfl, b, l, 25, rfl, b1, by decide, by decide, fun n2 H2 p0 p1 u2 b2 => ⟨_, _, rfl, rfl, .inl ⟨_, rfl, _, _, rfl, rfl, (by show (0 : Int) < 26; decide), ?_⟩⟩⟩
    refine ⟨_, rfl, _, _, rfl, rfl, _, rfl, b, l, 25, rfl, b2, by decide, by decide, fun n3 H3 q0 q1 u3 b3 => ⟨_, _, rfl, rfl, .inl ⟨_, rfl, _, _, rfl, rfl, (by show (0 : Int) < 26; decide), ?_⟩⟩⟩
    have at_ : ∀ m : Int, 0 ≤ m → m < 26 → ∃ c, atI alphaS.cps.toList m = some c ∧ Let c := fun m h0 h1 => by
      obtain ⟨j, rfl⟩ : ∃ j : Nat, m = (j : Int) := ⟨m.toNat, by omega⟩
      exact ⟨97 + j, atI_nat (alpha_at j (by omega)), by unfold Let; omega⟩
    obtain ⟨c, ec, hc⟩ := at_ n n0 n1
    obtain ⟨d, ed, hd⟩ := at_ _ (Int.emod_nonneg (n + 1 + n2) (show (26 : Int) ≠ 0 by decide)) (Int.emod_lt_of_pos (n + 1 + n2) (show (0 : Int) < 26 by decide))
    obtain ⟨e, ee, he⟩ := at_ _ (Int.emod_nonneg ((n + 1 + n2) % 26 + 1 + n3) (show (26 : Int) ≠ 0 by decide)) (Int.emod_lt_of_pos ((n + 1 + n2) % 26 + 1 + n3) (show (0 : Int) < 26 by decide))
    have al : alphaS.length ≤ sizeLine := by rw [alpha_len]; exact small_line (by decide)
    refine ⟨_, rfl, _, rfl, _, _, _, rfl, rfl, al, ec, ?_⟩
    refine ⟨_, rfl, _, rfl, _, _, _, rfl, rfl, al, ed, _, _, rfl, rfl, by show 1 + 1 ≤ sizeLine; decide, ?_⟩
    refine ⟨_, rfl, _, rfl, _, _, _, rfl, rfl, al, ee, _, _, rfl, rfl, by show 2 + 1 ≤ sizeLine; decide, ?_⟩
    have z : (S [c] ++ S [d]) ++ S [e] = S [c, d, e] := by rw [S_cat, S_cat]; rfl
    have y := k [c, d, e] H3 ⟨c, d, e, rfl, hc, hd, he⟩ ((u1.trans u2).trans u3) b3
    rw [← z] at y
    exact y
def spRow : Sp := fun vs H Q _ => ∃ b l z w, vs = [.ref b, .str (S z), .int w] ∧ BagL H b l ∧ Pal z ∧ 0 ≤ w ∧ w ≤ 8 ∧
  ∀ r H', (r.length : Int) = w → (∀ c ∈ r, Good c) → But b H H' → BagL H' b l → Q (.str (S r)) H'
theorem scRow : FnScope ["_law_bag_here", "_law_palette_here", "_law_wide", "_law_row_here", "_law_k"] ["_law_bag_here", "_law_palette_here", "_law_wide"] (defScope lRow) := ⟨rfl, rfl, rfl, by decide +kernel, rfl, by decide +kernel, by decide +kernel⟩
theorem ok_row {f t : Addr} {fd td : FuncData} (F : Fun K "_law_row" "_law_row" lRow f fd) (T : Cl P w K mg base CX0 1 "_law_take" tkNames spTake t td) (L : LTxt K mg) : FnOk P w K mg base CX0 2 f fd ["_law_bag_here", "_law_palette_here", "_law_wide"] spRow := by
  refine F.ok scRow (fun vs H Q E h => ?_) (fun cdv A outer s H vs Q E hr h => ?_)
  · obtain ⟨b, l, z, w, rfl, _⟩ := h
    rfl
  · obtain ⟨b, l, z, w, rfl, hb, hz, w0, w8, k⟩ := h
    refine ⟨_, pss_cons (ps_set (i := 3) scRow.nd rfl (.inl rfl) pe_str)
      (pss_cons (ps_for PassesOwn.never rfl (pi_range1 (by rfl) L.rng (pa_cons (pv 2) pa_nil)) (pg_name (i := 4) scRow.nd rfl (.inl rfl))
        (pss_one (ps_set (i := 3) scRow.nd rfl (.inl rfl) (pe_op op_add_str (pv 3) (pe_ix ix_str (pe_op op_add_str (pe_op op_add_str pe_str (pv 1)) (pv 1)) (pe_call T.ok hr (by rfl) T.gl T.kp T.bd .nil pass0 (pa_cons (pv 0) (pa_cons pe_int pa_nil))) (fun _ _ => rfl))))))
      (pss_one (ps_ret (pv 3)))), ?_⟩
    have lz := hz.len
    refine ⟨_, rfl, w, rfl, by omega, by omega, for_range (lo := 0) (n := w.toNat) (fun i σ G => ∃ y r, σ = [some (.ref b), some (.str (S z)), some (.int w), some (.str (S r)), y] ∧ r.length = i ∧ (∀ c ∈ r, Good c) ∧ But b H G ∧ BagL G b l)
      ⟨_, [], rfl, rfl, (fun c m => nomatch m), But.refl b H, hb⟩ ?_ ?_⟩
    · rintro i σ G hi ⟨y, r, rfl, lr, gr, bu, bG⟩
      have e1 : ("." : Str) ++ S z ++ S z = S ([46] ++ z ++ z) := by rw [dot_S, S_cat, S_cat]
      refine ⟨_, rfl, _, rfl, _, _, rfl, rfl, by rw [dot_S, len_S, len_S, lz]; decide, _, rfl, _, _, rfl, rfl, by rw [dot_S, S_cat, len_S, len_S]; simp [lz]; decide, _, rfl, b, l, 7, rfl, bG, by decide, by decide, fun n G1 n0 n1 u1 b1 => ?_⟩
      obtain ⟨c, ec, gc⟩ := draw_at hz n0 n1
      refine ⟨_, n, c, rfl, rfl, by rw [e1, len_S]; simp [lz]; exact small_line (by decide), by rw [e1]; exact ec, _, _, rfl, rfl, ?_, some (.int (0 + (i : Int))), r ++ [c], ?_, ?_, ?_, bu.trans u1, b1⟩
      · rw [len_S]
        show r.length + 1 ≤ sizeLine
        exact small_line (by omega)
      · exact congrArg (fun x => [some (V.ref b), some (V.str (S z)), some (V.int w), some (V.str x), some (V.int (0 + (i : Int)))]) (S_cat r [c])
      · rw [List.length_append, lr]
        rfl
      · intro d hd
        rcases List.mem_append.mp hd with m | m
        · exact gr d m
        · rw [List.mem_singleton.mp m]
          exact gc
    · rintro σ G ⟨y, r, rfl, lr, gr, bu, bG⟩
      exact ⟨_, rfl, k r G (by omega) gr bu bG⟩
end
/-! ### grids -/
abbrev Rows := List (List Nat)
def rowsV (R : Rows) : List V := R.map fun r => V.str (S r)
structure Grid (R : Rows) (w : Nat) : Prop where
  w1 : 1 ≤ w
  w8 : w ≤ 8
  h1 : 1 ≤ R.length
  h8 : R.length ≤ 8
  row : ∀ r ∈ R, r.length = w
  sgn : ∀ r ∈ R, ∀ c ∈ r, Good c
theorem rowsV_len (R : Rows) : (rowsV R).length = R.length := List.length_map _
theorem bag_upd {H : Hp} {b l t : Addr} {o : HO} (h : BagL H b l) (n : H t = none) : BagL (upd H t o) b l := by
  obtain ⟨ns, i, p, q, hb, hl, r⟩ := h
  exact ⟨ns, i, p, q, by rw [upd_ne (ne_of_none hb n)]; exact hb, by rw [upd_ne (ne_of_none hl n)]; exact hl, r⟩
theorem bag_b {H : Hp} {b l : Addr} (h : BagL H b l) : ∃ xs, H b = some (.lst xs) := by
  obtain ⟨_, _, _, _, hb, _⟩ := h
  exact ⟨_, hb⟩
theorem bag_ne {H : Hp} {b l t : Addr} {o : HO} (h : BagL H b l) (tb : t ≠ b) (tl : t ≠ l) : BagL (upd H t o) b l := by
  obtain ⟨ns, i, p, q, hb, hl, r⟩ := h
  exact ⟨ns, i, p, q, by rw [upd_ne (Ne.symm tb)]; exact hb, by rw [upd_ne (Ne.symm tl)]; exact hl, r⟩
theorem bag_l {H : Hp} {b l : Addr} (h : BagL H b l) : ∃ xs, H l = some (.lst xs) := by
  obtain ⟨_, _, _, _, _, hl, _⟩ := h
  exact ⟨_, hl⟩
theorem but_same {b : Addr} {H H' : Hp} (h : But b H H') : SameBut b H H' := fun a o ha e => (h a ha).trans e
theorem sb_trans {b : Addr} {H H1 H2 : Hp} (h : SameBut b H H1) (k : SameBut b H1 H2) : SameBut b H H2 := fun a o ha e => k a o ha (h a o ha e)
theorem sb_refl (b : Addr) (H : Hp) : SameBut b H H := fun _ _ _ e => e
theorem same_sb {b : Addr} {H H' : Hp} (h : Same H H') : SameBut b H H' := fun a o _ e => h a o e
end Pm
namespace Pm
open PySem PySem.Spec PyProof.Rows L2 SX
/-! ### for i, x in enumerate(xs, start=1) -/
/-- the list at a, item by item, each with its number counted from 1, in a new pair -/
def ItS (K : PySem.W.Frag) (a : Addr) : It where
  go := fun i H => ∃ (xs : List V) (x : V), SqL K H a xs ∧ xs[i]? = some x
  yld := fun i H v H' => ∃ T x, v = .ref T ∧ H T = none ∧ H' = upd H T (.tup [.int ((i : Int) + 1), x]) ∧ ∀ xs, SqL K H a xs → xs[i]? = some x
  stop := fun i H => ∃ xs : List V, SqL K H a xs ∧ xs.length = i
/-- a list's draws, counted from 1 -/
theorem draws1 {prog : Program} {w : World} {A : Around} (hh : A.handled = none) (it l : Addr) (ne : l ≠ it) (xs : Array Value) :
    Draws prog w A it [it, l] (xs.size + 1) (fun i v => xs[i - 1]? = some v) (fun i h => 1 ≤ i ∧ h.IsListIter it l (i - 1) ∧ h.IsList l xs) := by
  have D := Draws.list (prog := prog) (w := w) hh it l ne xs
  refine ⟨fun i h st => D.live (i - 1) h st.2, fun i h g st k => ⟨st.1, D.frame (i - 1) h g st.2 k⟩, ?_, fun s Q E st q => D.done s Q E st.2 q⟩
  intro i s Q E lt st q
  obtain ⟨j, rfl⟩ : ∃ j, i = j + 1 := ⟨i - 1, by have := st.1; omega⟩
  exact D.item j s Q E (by omega) st.2 fun x g tk px sx sb => q x g tk px ⟨by omega, sx⟩ sb
theorem apartL {h : Heap} {a it : Addr} {xs : Array Value} {i : Nat} (isl : h.IsList a xs) (h2 : h.IsListIter it a i) : a ≠ it := fun z => by
  obtain ⟨o, y, yc, n, yd⟩ := isl
  obtain ⟨o', y', _, yd'⟩ := h2
  rw [z, y'] at y
  cases y
  rw [yd'] at yd
  cases yd
theorem apartE {h : Heap} {a e it : Addr} {xs : Array Value} {i : Int} {w : Value} (isl : h.IsList a xs) (h1 : IsEnum h e it i w) : e ≠ a := fun z => by
  obtain ⟨o, y, yc, n, yd⟩ := isl
  rw [← z, h1] at y
  cases y
  cases yd
def tnS (e it a : Addr) (i : Nat) (h : Heap) : Prop := (∃ o, IsEnum h e it ((i + 1 : Nat) : Int) o) ∧ h.IsListIter it a i ∧ e ≠ it
theorem turnS {P : Program} {w : World} {K : PySem.W.Frag} {es : List Expr} {kk : Nat} {tp : Pos} (a e it : Addr) : Turn P w K (.Tuple es kk tp) (ItS K a) [e, it] e (tnS e it a) := by
  have two : ∀ {b : Addr}, b ∈ [e, it] → b = e ∨ b = it := fun m => by simpa using m
  constructor
  case mem => exact List.mem_cons_self
  case obj =>
    rintro i h ⟨⟨o1, h1⟩, ⟨o2, h2, _, d2⟩, _⟩ b m
    rcases two m with rfl | rfl
    · exact ⟨_, h1, fun v q => nomatch q⟩
    · refine ⟨o2, h2, fun v q => ?_⟩
      rw [d2] at q
      cases q
  case keep =>
    rintro i h g ⟨⟨o1, h1⟩, h2, ne⟩ k
    exact ⟨⟨o1, k e (by simp) _ h1⟩, h2.at fun o y => k it (by simp) o y, ne⟩
  case self =>
    rintro A i s Q E ⟨⟨_, h1⟩, _⟩ q
    exact wpAny_pyIter_enum h1 q
  case done =>
    rintro X rfl rfl rfl calm i pins s σ H E I free ⟨⟨o1, h1⟩, h2, ne⟩ ⟨xs, hx, rfl⟩
    obtain ⟨us, rv, isl, _⟩ := I.list hx
    obtain ⟨f0, f1, f2, f3, f4, f5⟩ := free it (by simp)
    have D := draws1 (prog := X.prog) (w := X.w) (A := X.A.in1) (I.ok.hd calm) it a (apartL isl.isList h2) us.toArray
    have e5 : us.toArray.size = xs.length := by simpa using rv.length.symm
    rw [e5] at D
    exact wpAny_pyNext_enum_endD D h1 ⟨by omega, h2, isl.isList⟩ fun g eb => ⟨rfl, I.turned (t' := s.toks) (fun b o nb y => eb b o nb y) f0 f1 f3 f4 f5⟩
  case item =>
    rintro X rfl rfl rfl calm i pins s σ H E I free ⟨⟨o1, h1⟩, h2, ne⟩ ⟨xs, x, hx, gx⟩
    obtain ⟨us, rv, isl, _⟩ := I.list hx
    obtain ⟨u, gu, ru⟩ := rv.get gx
    have nl := apartL isl.isList h2
    have D := draws1 (prog := X.prog) (w := X.w) (A := X.A.in1) (I.ok.hd calm) it a nl us.toArray
    have big : e < s.heap.objs.size := Heap.lt_size h1
    have sz : i < us.length := by
      rcases List.getElem?_eq_some_iff.mp gu with ⟨y, _⟩
      exact y
    refine wpAny_pyNext_enum_itemD (i := i + 1) D h1 ⟨by omega, h2, isl.isList⟩ (by simpa using sz) ne (fun m => ?_) fun v g tk pv eo st gT gs gk => ?_
    · rcases List.mem_cons.mp m with z | z
      · exact ne z
      · exact apartE isl.isList h1 (List.mem_singleton.mp z)
    · have ev : v = u := by
        have y : us.toArray[i]? = some v := pv
        rw [List.getElem?_toArray, gu] at y
        exact (Option.some.inj y).symm
      subst ev
      refine ⟨_, rfl, wpAny_letOwnedTupleGo_enum (s := { s with heap := g, toks := tk + 1 }) eo fun g2 e2 sb => ?_⟩
      have T2 : g2.get? s.heap.objs.size = some { cls := .type "tuple", data := .seq #[.int ((i + 1 : Nat) : Int) tk, v] } :=
        (sb.2 _ (Nat.ne_of_gt big)).trans gT
      have fresh : H s.heap.objs.size = none := I.hok.fresh (Nat.le_refl _)
      have pair : ObjOk X.prog X.w (upd H s.heap.objs.size (.tup [.int ((i : Int) + 1), x])) g2 s.heap.objs.size (.tup [.int ((i : Int) + 1), x]) :=
        ⟨small_line (by show 2 ≤ 1000; decide), [.int ((i + 1 : Nat) : Int) tk, v], .cons ⟨_, rfl⟩ (.cons ru .nil), ⟨_, T2, rfl, _, rfl⟩⟩
      have J : L2.Inv X pins σ (upd H s.heap.objs.size (.tup [.int ((i : Int) + 1), x])) { s with heap := g2, toks := tk + 1 } :=
        I.turnedNew (ch := [e, it]) (fun b o nb y => (sb.2 b (fun z => nb (by simp [z]))).trans (gk b o (fun z => nb (by simp [z])) (fun z => nb (by simp [z])) y)) free (Nat.le_refl _) pair
      refine ⟨.ref s.heap.objs.size, _, J, rfl, ⟨_, x, rfl, fresh, rfl, fun ys hy => ?_⟩, ⟨⟨v, e2⟩, st.2.1.at fun o y => (sb.2 it (Ne.symm ne)).trans y, ne⟩, fun b m => ?_⟩
      · rw [I.list_inj hy hx]
        exact gx
      · rw [upd_ne (fun z => ?_)]
        · exact (free b m).1
        · rcases two m with y | y
          · rw [y] at z
            rw [← z] at big
            exact Nat.lt_irrefl _ big
          · have lt2 : it < s.heap.objs.size := by
              obtain ⟨_, y2, _⟩ := h2
              exact Heap.lt_size y2
            rw [y] at z
            rw [← z] at lt2
            exact Nat.lt_irrefl _ lt2
/-! ### its making -/
section
variable {M : Model} {A : Around} {E : Value → Shared → Prop} {s : Shared} {env : Env}
theorem kw_type {pos : Pos} {T : String} {e : Expr} {es : List Expr} {kws : List Keyword} {Q : Value → Shared → Prop}
    (h : wpAny M A (spliced (backTo pos (starEach (e :: es) env))) (fun us s1 => wpAny M A (evalAll ((backToKw pos (keywordEach kws env)).map (·.2)))
      (fun ks s2 => wpAny M A (call (.type T) us (((backToKw pos (keywordEach kws env)).filterMap (·.1)).zip ks)) Q E s2) E s1) E s)
    (h1 : backTo pos (starEach (e :: es) env) = (false, eval e env) :: backTo pos (starEach es env) := by rfl) (h2 : (backTo pos (starEach (e :: es) env)).any (·.1) = false := by rfl)
    (h3 : (backToKw pos (keywordEach kws env)).all (·.1.isSome) = true := by rfl) (h4 : (backToKw pos (keywordEach kws env)).any (·.1.isNone) = false := by rfl) :
    wpAny M A (callWith pos (.type T) [] (backTo pos (starEach (e :: es) env)) (backToKw pos (keywordEach kws env))) Q E s := by
  have go : wpAny M A (evalArgs (.type T) true (backTo pos (starEach (e :: es) env)) (backToKw pos (keywordEach kws env))) (fun a s1 => wpAny M A (call (.type T) ([] ++ a.pos) a.kw) Q E s1) E s := by
    rw [h1] at h ⊢
    exact evalArgs_kwB h3 h
  unfold callWith
  refine wpAny_bind (wpAny_holding (wpAny_mono go (fun a s1 r => wpAny_bind (wpAny_standAt ?_)) fun _ _ y => y))
  simp only [h2, h4, Bool.or_false]
  exact wpAny_bind (wpAny_pure (wpAny_bind (wpAny_mono r (fun u s2 q => wpAny_bind (wpAny_holding (wpAny_point (wpAny_pure q)))) fun _ _ y => y)))
end
def iEnS (K : PySem.W.Frag) (ta tk : TA) : TI := fun σ H R => ta σ H fun vs H1 => tk σ H1 fun zs H2 => ∃ a xs, vs = [.ref a] ∧ zs = [.int 1] ∧ SqL K H2 a xs ∧ R (ItS K a) H2
theorem pi_enumS {X : Cx} {e ke : Expr} {ta tk : TA} {p kp pos tp : Pos} {es : List Expr} {kk : Nat} (hg : Gl X "enumerate") (hm : X.mg "enumerate" = none) (ha : PA X [e] ta) (hk : PK X [⟨some "start", ke, kp⟩] tk)
    (h1 : backTo pos (starEach [e] X.env) = (false, eval e X.env) :: backTo pos (starEach [] X.env) := by rfl) (h2 : (backTo pos (starEach [e] X.env)).any (·.1) = false := by rfl) :
    PI X (.Tuple es kk tp) (.Call (.Name "enumerate" p) [e] [⟨some "start", ke, kp⟩] pos) (iEnS X.K ta tk) := by
  refine ⟨fun pins s σ H R I h => ?_⟩
  refine wpAny_Call_Name_kw (ld_blt I hg hm boot_enumerate (kw_type (thn (ha.run pos pins s σ H _ I h) fun us s1 ⟨vs, H1, I1, r1, q1⟩ => thn (hk.run pos pins s1 σ H1 _ I1 q1) fun ks s2 ⟨zs, H2, I2, r2, a, xs, ev, ez, hx, q⟩ => ?_) h1 h2) (by decide) (by decide))
  subst ev ez
  match r1, r2 with
  | .cons ra .nil, .cons rk .nil =>
    cases ra
    obtain ⟨t, rfl⟩ := rk
    obtain ⟨vals, rv, isl, _⟩ := I2.list hx
    refine enum_begins_start (begins_list a vals.toArray) isl.isList (by decide) (by decide) fun g he hi hz hk2 => wpAny_pyIter_enum he ?_
    have J : L2.Inv X pins σ H2 { s2 with heap := g } := I2.kept (t' := s2.toks) hk2
    refine ⟨s2.heap.objs.size + 1, [s2.heap.objs.size + 1, s2.heap.objs.size], _, ItS X.K a, H2, rfl, J, turnS a (s2.heap.objs.size + 1) s2.heap.objs.size, ⟨⟨.none, he⟩, ⟨_, hi, rfl, rfl⟩, Nat.succ_ne_self _⟩, fun b m => ?_, q⟩
    have le : s2.heap.objs.size ≤ b := by
      rcases List.mem_cons.mp m with y | y
      · rw [y]
        exact Nat.le_succ _
      · rw [List.mem_singleton.mp y]
        exact Nat.le_refl _
    exact I2.fpOk le (I2.hok.fresh le)
end Pm
namespace Pm
open PySem PySem.Spec PyProof.Rows L2 SX
/-! ### sets of texts, filled from an iterator -/
/-- one more text, if it is new -/
def ddS (l : List Str) (v : Str) : List Str := if l.any (· == v) then l else l ++ [v]
def metS (val : Nat → Str) (i : Nat) : List Str := ((List.range i).map val).foldl ddS []
theorem metS_succ (val : Nat → Str) (i : Nat) : metS val (i + 1) = ddS (metS val i) (val i) := by
  unfold metS
  rw [List.range_succ, List.map_append, List.foldl_append]
  rfl
theorem metS_le (val : Nat → Str) : ∀ i, (metS val i).length ≤ i
  | 0 => Nat.le_refl _
  | i + 1 => by
    rw [metS_succ]
    have ih := metS_le val i
    unfold ddS
    split
    · omega
    · rw [List.length_append, List.length_singleton]
      omega
theorem ddS_any (l : List Str) (v k : Str) : (ddS l v).any (· == k) = (l.any (· == k) || decide (k = v)) := by
  unfold ddS
  by_cases h : l.any (· == v) = true
  · rw [if_pos h]
    by_cases e : k = v
    · subst e
      rw [h]
      simp
    · simp [e]
  · rw [if_neg h, List.any_append]
    by_cases e : k = v
    · subst e
      simp
    · have hb : (v == k) = false := by simpa [beq_iff_eq] using (fun h' : v = k => e h'.symm)
      simp [hb, e]
theorem ddS_len (l : List Str) (v : Str) : (ddS l v).length = if l.any (· == v) then l.length else l.length + 1 := by
  unfold ddS
  split <;> simp
section
variable {prog : Program} {w : World} {A : Around} {R : Result → Shared → Prop} {I : Addr} {fp wr : List Addr} {G : Array GenState → Array GenState → Prop} {n : Nat} {Pp : Nat → Value → Prop} {St : Nat → Shared → Prop}
theorem set_loopS (W : WalksS prog w A.in1 I fp wr G n Pp St) (S : Addr) (hSf : S ∉ fp) (val : Nat → Str) (hval : ∀ i v, Pp i v → ∃ t, v = .str (val i) t) (hb : n + 1 < scanBound) :
    ∀ (k i : Nat) (s : Shared), n - i = k → i ≤ n → St i s →
      s.heap.SetOf (PySem.strKind prog w) S (fun k' => (metS val i).any (· == k')) (metS val i).length →
      (∀ s', Moved (S :: wr) G s s' → s'.heap.SetOf (PySem.strKind prog w) S (fun k' => (metS val n).any (· == k')) (metS val n).length → R (.ok (.ret .none)) s') →
      codeAny (model prog w) A (.builtin "set.update.loop" ⟨[.ref S, .ref I], []⟩) R s := by
  have hSw : S ∉ wr := fun h => hSf (W.sub _ h)
  have hsub : ∀ b ∈ wr, b ∈ S :: wr := fun b hb => List.mem_cons_of_mem _ hb
  intro k
  induction k with
  | zero =>
    intro i s hk hi hst hS hR
    have hin : i = n := by omega
    subst hin
    refine codeAny_builtin PyProof.Rows.F.entry_set_update_loop ?_
    rw [Around.under_plainId PyProof.Rows.F.plain_set_update_loop _]
    show wpAny _ A.in1 (pyNext (.ref I) >>= _) _ _ s
    refine wpAny_bind (W.done s _ _ hst fun s' hm => ?_)
    show wpAny _ A.in1 (ret Value.none) _ _ s'
    exact wpAny_pure (hR s' (hm.mono hsub) (by
      obtain ⟨o, es, ep, t, ho, rest⟩ := hS
      exact ⟨o, es, ep, t, hm.heap S _ hSw ho, rest⟩))
  | succ k ih =>
    intro i s hk hi hst hS hR
    have hlt : i < n := by omega
    refine codeAny_builtin PyProof.Rows.F.entry_set_update_loop ?_
    rw [Around.under_plainId PyProof.Rows.F.plain_set_update_loop _]
    show wpAny _ A.in1 (pyNext (.ref I) >>= _) _ _ s
    refine wpAny_bind (W.item i s _ _ hlt hst fun v s' hP hst' hm => ?_)
    obtain ⟨t, rfl⟩ := hval i v hP
    have hS' : s'.heap.SetOf (PySem.strKind prog w) S (fun k' => (metS val i).any (· == k')) (metS val i).length := by
      obtain ⟨o, es, ep, tb, ho, rest⟩ := hS
      exact ⟨o, es, ep, tb, hm.heap S _ hSw ho, rest⟩
    have iskey : (PySem.strKind prog w).is (val i) (.str (val i) t) = true := Froz.is_str _ _
    show wpAny _ A.in1 (holding [Value.str (val i) t] (setAdd S (.str (val i) t)) >>= _) _ _ s'
    refine wpAny_bind (wpAny_holding ?_)
    unfold setAdd
    refine wpAny_holding ?_
    refine wpAny_bind ((PySem.strKind prog w).pyHash (k := val i) iskey ?_)
    have hroom : (metS val i).length + 1 < scanBound := by
      have := metS_le val i
      omega
    refine wpAny_setAddHashed_of (knd := PySem.strKind prog w) (s := { s' with toks := s'.toks + 1 }) iskey rfl hS' hroom fun h' hsb hS2 => ?_
    have hSi : h'.SetOf (PySem.strKind prog w) S (fun k' => (metS val (i + 1)).any (· == k')) (metS val (i + 1)).length :=
      SetOf_congr hS2 (fun k' => by rw [metS_succ, ddS_any]) (by rw [metS_succ, ddS_len])
    refine wpAny_pure ⟨plainId_quiet PyProof.Rows.F.plain_set_update_loop _, ih (i + 1) _ (by omega) hlt (W.frame _ s' _ _ hst' (Nat.le_succ _) fun b hb o e => ?_) hSi fun s'' hm'' hS'' => ?_⟩
    · rw [hsb.2 b (fun h : b = S => hSf (by rw [← h]; exact hb))]
      exact e
    · refine hR s'' (Moved.trans W.gtrans ((hm.mono hsub).then_heap (Nat.le_succ _) fun b o hb e => ?_) hm'') hS''
      rw [hsb.2 b (fun h : b = S => hb (by rw [h]; exact List.mem_cons_self))]
      exact e
end
end Pm
namespace Pm
open PySem PySem.Spec PyProof.Rows L2 SX
theorem sub_str_set' : isSubtype (.type "str") (.type "set") = pure false := by rw [isSubtype_type]; kernel_rfl
theorem sub_str_frozen' : isSubtype (.type "str") (.type "frozenset") = pure false := by rw [isSubtype_type]; kernel_rfl
section
variable {prog : Program} {w : World} {A : Around} {E : Value → Shared → Prop} {s : Shared}
theorem call_set_text {x : Str} {t : Tok} {Q : Value → Shared → Prop}
    (hh : A.handled = none) (hb : x.cps.size + 1 < scanBound)
    (h : ∀ (h' : Heap) (tk : Nat), h'.SetOf (PySem.strKind prog w) s.heap.objs.size (fun k' => (metS (fun i => ⟨#[x.cps.getD i 0]⟩) x.cps.size).any (· == k')) (metS (fun i => ⟨#[x.cps.getD i 0]⟩) x.cps.size).length →
      (∀ b o, b < s.heap.objs.size → s.heap.get? b = some o → h'.get? b = some o) → Q (.ref s.heap.objs.size) { s with heap := h', toks := tk }) :
    wpAny (model prog w) A (call (.type "set") [.str x t]) Q E s := by
  obtain ⟨c, tl, hmro⟩ := F.called_set.mro
  have hmade := F.called_set.made
  have hsub := F.called_set.sub
  refine wpAny_call (codeAny_of_tree ?_)
  show wpAny _ _ (callAny (.type "set") _) _ _ _
  refine wpAny_pure ⟨Code.quiet_builtin _ (by decide +kernel), codeAny_builtin F.entry_type_call ?_⟩
  rw [Around.under_plain (weight_type_call_type "set" [.str x t] []) rfl]
  have h1 := F.called_set.notType
  have h2 := F.called_set.canCreate
  have hct := F.typeCall_set_1 (.str x t)
  repeat (any_goals (first | assumption | wp_step))
  refine codeAny_mono (code_set_new_1 (.str x t) (E := E) (Q₁ := fun obj s₁ => ∃ led : Bool, obj = .ref s.heap.objs.size ∧ s₁ = { s with heap := s.heap.push { cls := .type "set", dict := none, data := .set #[] 0 (.fresh 0 0 led) } }) fun led => ⟨led, rfl, rfl⟩) fun r s₁ hr => ?_
  cases r with
  | error e => exact hr
  | ok fl =>
    cases fl with
    | ret obj =>
      obtain ⟨led, rfl, rfl⟩ := hr
      have hS : (s.heap.push { cls := .type "set", dict := none, data := .set #[] 0 (.fresh 0 0 led) }).get? s.heap.objs.size = some { cls := .type "set", dict := none, data := .set #[] 0 (.fresh 0 0 led) } := Heap.get?_push_size _ rfl
      have hT : Shared.TypeIs { s with heap := s.heap.push { cls := .type "set", dict := none, data := .set #[] 0 (.fresh 0 0 led) } } (.ref s.heap.objs.size) "set" := ⟨_, hS, rfl⟩
      have hli := F.called_set.init.lookup
      have hbi := F.called_set.init.bind (.ref s.heap.objs.size)
      repeat (any_goals (first | assumption | wp_step))
      refine codeAny_mono (codeAny_call_builtin (R := wants (fun r s₂ => r = .none ∧ ∃ h' tk, s₂ = { s with heap := h', toks := tk } ∧
          h'.SetOf (PySem.strKind prog w) s.heap.objs.size (fun k' => (metS (fun i => ⟨#[x.cps.getD i 0]⟩) x.cps.size).any (· == k')) (metS (fun i => ⟨#[x.cps.getD i 0]⟩) x.cps.size).length ∧
          (∀ b o, b < s.heap.objs.size → s.heap.get? b = some o → h'.get? b = some o)) E) F.called_set.init.plain F.entry_set_init (check_set_init_1 hT ?_)) fun r₂ s₂ hr₂ => ?_
      · have hsls := sub_str_set'
        have hslf := sub_str_frozen'
        have hne : (Value.type "str" == Value.type "dict") = false := by decide
        unfold Builtin.«set.__init__» noKeywords Builtin.Frozenset.updateFrom
        generalize hPI : pyIter = PI
        wp_walk
        subst hPI
        refine wpAny_pyIter_str fun o St W hst => ?_
        refine wpAny_bind (wpAny_runValue ?_)
        have hh3 : A.in1.in1.in1.handled = none := by simp [hh]
        have hSf : s.heap.objs.size ∉ [(s.heap.push { cls := .type "set", dict := none, data := .set #[] 0 (.fresh 0 0 led) }).objs.size] := by
          rw [Heap.size_push]
          simp only [List.mem_cons, List.not_mem_nil, or_false]
          exact Nat.ne_of_lt (Nat.lt_succ_self _)
        have hval : ∀ (i : Nat) (v : Value), SignAt x i v → ∃ t, v = .str ((fun i => (⟨#[x.cps.getD i 0]⟩ : Str)) i) t := fun i v ⟨c, u, hc, hv⟩ => by
          refine ⟨u, ?_⟩
          rw [hv]
          have e : x.cps.getD i 0 = c := by
            rw [Array.getD_eq_getD_getElem?, hc]
            rfl
          show _ = Value.str (⟨#[x.cps.getD i 0]⟩ : Str) u
          rw [e]
        refine set_loopS ((W _ hh3).toS) s.heap.objs.size hSf (fun i => ⟨#[x.cps.getD i 0]⟩) hval hb (x.cps.size - 0) 0 _ (by omega) (Nat.zero_le _) hst ?hS0 ?hR
        case hS0 =>
          have hget : ((s.heap.push { cls := .type "set", dict := none, data := .set #[] 0 (.fresh 0 0 led) }).push o).get? s.heap.objs.size
              = some { cls := .type "set", dict := none, data := .set #[] 0 (.fresh 0 0 led) } := Heap.get?_push_of_some _ hS
          exact PyProof.Rows.SetOf_congr ((PyProof.Rows.setObjOf_fresh (knd := PySem.strKind prog w) led).setOf hget (by unfold scanBound; omega)) (fun _ => rfl) rfl
        case hR =>
          intro s' hm hS'
          obtain ⟨h', g', d', tk', os'⟩ := s'
          have eg : g' = s.gens := hm.gens
          have ed : d' = s.drawn := hm.drawn
          have eo : os' = s.os := hm.os
          subst eg; subst ed; subst eo
          show wpAny _ _ _ _ _ _
          refine wpAny_pure ?_
          show wpAny _ _ (ret Value.none) _ _ _
          refine wpAny_pure ⟨rfl, h', tk', rfl, hS', fun b o hb e => ?_⟩
          have hb1 : b ≠ s.heap.objs.size := Nat.ne_of_lt hb
          have hb2 : b ≠ (s.heap.push { cls := .type "set", dict := none, data := .set #[] 0 (.fresh 0 0 led) }).objs.size := by
            rw [Heap.size_push]
            exact Nat.ne_of_lt (Nat.lt_succ_of_lt hb)
          exact hm.heap b o (by simp only [List.mem_cons, List.mem_singleton, List.not_mem_nil, or_false, not_or]; exact ⟨hb1, hb2⟩) (Heap.get?_push_of_some _ (Heap.get?_push_of_some _ e))
      · cases r₂ with
        | error e => exact hr₂
        | ok fl₂ =>
          cases fl₂ with
          | ret r =>
            obtain ⟨rfl, h', tk, rfl, hS', hk'⟩ := hr₂
            repeat (any_goals (first | assumption | wp_step))
            exact h _ _ hS' hk'
          | _ => exact hr₂.elim
    | _ => exact hr.elim
end
/-! ### len(set(text)) -/
theorem metS_nodup (val : Nat → Str) : ∀ i, ((metS val i).length = i ↔ ((List.range i).map val).Nodup)
  | 0 => by simp [metS]
  | i + 1 => by
    have mem : ∀ i k, k ∈ metS val i ↔ k ∈ (List.range i).map val := by
      intro i
      induction i with
      | zero => simp [metS]
      | succ i ih =>
        intro k
        have a : (metS val (i + 1)).any (· == k) = ((metS val i).any (· == k) || decide (k = val i)) := by rw [metS_succ, ddS_any]
        rw [List.range_succ, List.map_append, List.mem_append, ← ih k]
        constructor
        · intro m
          have z : (metS val (i + 1)).any (· == k) = true := List.any_eq_true.mpr ⟨k, m, beq_self_eq_true k⟩
          rw [a, Bool.or_eq_true] at z
          rcases z with z | z
          · obtain ⟨y, my, ey⟩ := List.any_eq_true.mp z
            rw [eq_of_beq ey] at my
            exact .inl my
          · exact .inr (by simp [of_decide_eq_true z])
        · intro m
          have z : (metS val (i + 1)).any (· == k) = true := by
            rw [a, Bool.or_eq_true]
            rcases m with m | m
            · exact .inl (List.any_eq_true.mpr ⟨k, m, beq_self_eq_true k⟩)
            · exact .inr (decide_eq_true (by simpa using m))
          obtain ⟨y, my, ey⟩ := List.any_eq_true.mp z
          rw [eq_of_beq ey] at my
          exact my
    have ih := metS_nodup val i
    have le := metS_le val i
    have lt : (metS val (i + 1)).length = if (metS val i).any (· == val i) then (metS val i).length else (metS val i).length + 1 := by rw [metS_succ, ddS_len]
    have anym : (metS val i).any (· == val i) = true ↔ val i ∈ (List.range i).map val := by
      rw [← mem i, List.any_eq_true]
      exact ⟨fun ⟨y, my, ey⟩ => eq_of_beq ey ▸ my, fun m => ⟨_, m, beq_self_eq_true _⟩⟩
    rw [List.range_succ, List.map_append, List.nodup_append, lt]
    constructor
    · intro e
      split at e
      · omega
      · rename_i na
        have nm : val i ∉ (List.range i).map val := fun m => na (anym.mpr m)
        refine ⟨ih.mp (by omega), by simp, fun a ha b hb eab => nm ?_⟩
        have hb : b = val i := by simpa using hb
        rw [← hb, ← eab]
        exact ha
    · rintro ⟨h1, _, h3⟩
      rw [if_neg fun z => h3 _ (anym.mp z) (val i) (by simp) rfl, ih.mpr h1]
/-- as many as the text has signs just if no sign stands there twice -/
theorem metS_text (z : List Nat) : (metS (fun i => ⟨#[(S z).cps.getD i 0]⟩) (S z).cps.size).length ≤ z.length ∧ ((metS (fun i => ⟨#[(S z).cps.getD i 0]⟩) (S z).cps.size).length = z.length ↔ z.Nodup) := by
  have e1 : (S z).cps.size = z.length := by simp
  rw [e1]
  refine ⟨metS_le _ _, (metS_nodup _ _).trans ?_⟩
  have e2 : (List.range z.length).map (fun i => (⟨#[(S z).cps.getD i 0]⟩ : Str)) = z.map fun c => S [c] := by
    refine List.ext_getElem (by simp) fun i h1 h2 => ?_
    have hi : i < z.length := by simpa using h1
    rw [List.getElem_map, List.getElem_map, List.getElem_range]
    show S [(S z).cps.getD i 0] = S [z[i]]
    rw [Array.getD_eq_getD_getElem?]
    simp [hi]
  rw [e2]
  constructor
  · intro h
    exact List.Pairwise.of_map (f := fun c => S [c]) (fun a b ne e => ne (by rw [e])) h
  · intro h
    exact List.pairwise_map.mpr (h.imp fun ne e => ne (by have := S_inj e; simpa using this))
def tLenSetS (ta : TE) : TE := fun σ H Q => ta σ H fun x H1 => ∃ z : List Nat, x = .str (S z) ∧ z.length ≤ 1000 ∧ ∀ n : Nat, n ≤ z.length → (n = z.length ↔ z.Nodup) → Q (.int (n : Int)) H1
theorem pe_lenSetS {X : Cx} {a : Expr} {ta : TE} {p p2 q pos : Pos} (hg : Gl X "len") (hm : X.mg "len" = none) (hg2 : Gl X "set") (hm2 : X.mg "set" = none) (ha : PE X a ta) (hc : X.calm = true := by rfl)
    (na : starEach [a] X.env = (false, eval a X.env) :: starEach [] X.env := by rfl) : PE X (.Call (.Name "len" p) [.Call (.Name "set" p2) [a] [] q] [] pos) (tLenSetS ta) := by
  refine ⟨fun pins s σ H Q I h => ?_⟩
  refine Call_ (ld_blt I hg hm boot_len ?_)
  refine PyProof.Rows.callWith_builtin1 (PyProof.Rows.args_cons ?_ rfl) rfl rfl
  refine Call_ (ld_blt I hg2 hm2 boot_set ?_)
  refine PyProof.Rows.callWith_type1 (PyProof.Rows.args_cons (thn (ha.run pins s σ H _ I h) fun v s1 ⟨x, H1, I1, r1, q1⟩ => PyProof.Rows.args_nil ?_) na) na rfl
  obtain ⟨z, rfl, few, q1⟩ := q1
  obtain ⟨t, rfl⟩ := r1
  have e1 : (S z).cps.size = z.length := by simp
  have m := metS_text z
  refine call_set_text (I1.ok.hd hc) (by rw [e1]; unfold scanBound; omega) fun h' tk hS hk => ?_
  refine PyProof.Rows.args_nil ?_
  generalize (metS (fun i => ⟨#[(S z).cps.getD i 0]⟩) (S z).cps.size) = L at hS m
  obtain ⟨o, es, ep, t, ho, hex, hd, _, _, _, hf, hn⟩ := hS
  have I2 : L2.Inv X pins σ H1 { s1 with heap := h', toks := tk } := I1.kept fun b o e => hk b o (Heap.lt_size e) e
  exact call_len_set ho hex hd hf (by rw [hn] <;> omega) ⟨.int L.length, H1, I2.tok _, ⟨_, by rw [hn]⟩, q1 _ m.1 m.2⟩
end Pm
namespace Pm
open PySem PySem.Spec PyProof.Rows L2 SX
/-! ### sorted(text) -/
/-- the signs, each a text of its own -/
def ones (z : List Nat) : List Str := z.map fun c => S [c]
theorem strs_signs : ∀ {us : List Value} {z : List Nat}, us.length = z.length → (∀ (j : Nat) (v : Value), us[j]? = some v → ∃ (c : Nat) (t : Tok), z[j]? = some c ∧ v = Value.str (S [c]) t) → StrsAre us (ones z)
  | [], [], _, _ => .nil
  | u :: us, k :: ks, hl, h => by
    obtain ⟨x, t, e1, e2⟩ := h 0 u rfl
    have e1' : k = x := Option.some.inj e1
    subst e1'
    subst e2
    refine .cons _ _ (strs_signs (by simpa using hl) fun j v e => ?_)
    obtain ⟨x, t, a, b⟩ := h (j + 1) v (by simpa using e)
    exact ⟨x, t, by simpa using a, b⟩
  | [], _ :: _, hl, _ => by simp at hl
  | _ :: _, [], hl, _ => by simp at hl
/-- sorted(text): its signs in a new list, in order -/
def rSortedTx : List V → Hp → VK → Prop := fun vs H Q => ∃ z : List Nat, vs = [.str (S z)] ∧ z.length ≤ 1000 ∧ ∀ (ys : List Nat) (p : Addr), ys.Perm z → ys.Pairwise (· ≤ ·) → H p = none → Q (.ref p) (upd H p (.lst ((ones ys).map V.str)))
theorem ones_perm {z : List Nat} : ∀ {l : List Str}, l.Perm (ones z) → ∃ ys : List Nat, ys.Perm z ∧ l = ones ys := fun {l} h => by
  refine ⟨l.map fun s => s.cps.toList.headD 0, ?_, ?_⟩
  · have q := h.map fun s => s.cps.toList.headD 0
    have e : (ones z).map (fun s : Str => s.cps.toList.headD 0) = z := by
      unfold ones
      rw [List.map_map]
      have : ((fun s : Str => s.cps.toList.headD 0) ∘ fun c => S [c]) = id := by
        funext c
        simp
      rw [this, List.map_id]
    rw [e] at q
    exact q
  · unfold ones
    rw [List.map_map]
    refine (List.map_id l).symm.trans (List.map_congr_left fun s hs => ?_)
    obtain ⟨c, _, rfl⟩ := List.mem_map.mp (h.mem_iff.mp hs)
    simp
theorem ones_sorted : ∀ {ys : List Nat}, sortedS (ones ys) = true → ys.Pairwise (· ≤ ·) := by
  have step : ∀ (p : Nat) (l : List Nat), risingS (S [p]) (ones l) = true → (p :: l).Pairwise (· ≤ ·) := by
    intro p l
    induction l generalizing p with
    | nil => intro _; exact List.pairwise_singleton _ _
    | cons x r ih =>
      intro h
      have h : (!ltCps (S [x]).cps.toList (S [p]).cps.toList && risingS (S [x]) (ones r)) = true := h
      rw [Bool.and_eq_true] at h
      have tl := ih x h.2
      have le : p ≤ x := by
        have z := h.1
        rw [ltCps_eq] at z
        by_cases y : x < p
        · rw [decide_eq_true (show (S [x]).cps.toList < (S [p]).cps.toList from List.Lex.rel y)] at z
          cases z
        · omega
      refine List.pairwise_cons.mpr ⟨fun y hy => ?_, tl⟩
      rcases List.mem_cons.mp hy with e | m
      · rw [e]
        exact le
      · exact Nat.le_trans le ((List.pairwise_cons.mp tl).1 y m)
  intro ys h
  cases ys with
  | nil => exact List.Pairwise.nil
  | cons x r => exact step x r h
theorem cr_sortedTx {X : Cx} (hcalm : X.calm = true) : CallR X (.builtin "sorted") rSortedTx := by
  intro pins s σ H xs us Q I r q
  obtain ⟨z, ex, few, q⟩ := q
  subst ex
  obtain ⟨u, eu, rx⟩ := vals1 r
  subst eu
  obtain ⟨t, rfl⟩ := rx
  have e1 : (S z).cps.size = z.length := by simp
  refine Calls.call_function_entry PyProof.Rows.kind_sorted PyProof.Rows.plain_sorted PyProof.Rows.entry_sorted (PyProof.Rows.args_sorted1 _) ?_
  unfold Builtin.«sorted»
  refine wpAny_bind (m := checkCount "sorted" 1 1 _) (wpAny_pure ?_)
  refine wpAny_bind (wpAny_collect_str (A := X.A.in1) (I.ok.hd hcalm) (S z) t (fun s1 acc hk hg hd ho hacc => ?_) (by rw [e1, sizeLine_eq]; omega))
  have hal : acc.toList.length = z.length := by rw [Array.length_toList, hacc.1, e1]
  have hS : StrsAre acc.toList (ones z) := strs_signs hal fun j v e => by
    obtain ⟨c, u, e2, e3⟩ := hacc.2 j v (by rw [← Array.getElem?_toList]; exact e)
    refine ⟨c, u, ?_, e3⟩
    rw [← Array.getElem?_toList] at e2
    exact e2
  obtain ⟨h', g', d', tk', os'⟩ := s1
  have hg : g' = s.gens := hg
  have hd : d' = s.drawn := hd
  have ho : os' = s.os := ho
  subst hg hd ho
  have I1 : L2.Inv X pins σ H { s with heap := h', toks := tk' } := I.kept hk
  refine wpAny_bind (wpAny_newList ?_ (by rw [hal, sizeLine_eq]; omega))
  have hoL : (h'.push (seqObj "list" acc.toList.toArray 0)).get? h'.objs.size = some (seqObj "list" acc.toList.toArray 0) := Heap.get?_push_size _ rfl
  show wpAny _ _ _ _ _ { s with heap := h'.push (seqObj "list" acc.toList.toArray 0), toks := tk' }
  refine wpAny_bind (wpAny_holding (wpAny_call_entry PyProof.Rows.slot_list_sort ⟨_, hoL, rfl⟩ PyProof.Rows.entry_list_sort
    (list_sort_treeKAny strKind_oneLt (s := { s with heap := h'.push (seqObj "list" acc.toList.toArray 0), toks := tk' }) hoL hS.keysOf (fun v₁ v₂ rest e => keyKind_strs (by rw [← e]; exact hS)) (by rw [hal, sizeLine_eq]; omega) fun st' hp hs => ⟨_, rfl, ?_⟩)
    (PyProof.Rows.args_list_sort _)))
  obtain ⟨ss, g1, g2, g3⟩ := sorted_out_str hS hp hs
  obtain ⟨ys, p1, rfl⟩ := ones_perm g2
  obtain ⟨e', he'⟩ := PyProof.Rows.sortedHeap_at (vs := acc.toList) (out := (arrOf st').map (·.2)) hoL
  have hlen : ((ones ys).map V.str).length ≤ sizeLine := by
    rw [List.length_map, g2.length_eq]
    show (ones z).length ≤ _
    rw [show (ones z).length = z.length from List.length_map _]
    exact small_line few
  refine wpAny_pure ⟨_, rfl, .ref h'.objs.size, upd H h'.objs.size (.lst ((ones ys).map V.str)), I1.laid (t' := tk') (fun b u e => ?_) (Nat.le_refl _)
    (show ObjOk X.prog X.w _ _ _ (.lst ((ones ys).map V.str)) from ⟨hlen, ((arrOf st').map (·.2)).toList, e', vals_of_strs g1, by rw [Array.toArray_toList]; exact he'⟩), rfl, q ys _ p1 (ones_sorted g3) (I1.hok.fresh (Nat.le_refl _))⟩
  have hb : b < h'.objs.size := Heap.lt_size e
  rw [PyProof.Rows.sortedHeap_old (Nat.ne_of_lt hb) (by rw [size_push']; exact Nat.lt_succ_of_lt hb)]
  exact Heap.get?_push_of_some _ e
end Pm
namespace Pm
open PySem PySem.Spec PyProof.Rows L2 SX
/-! ### which rows are good -/
def stoneB : List Nat → Bool
  | [c] => decide (Let c)
  | _ => false
def goodB : List Nat → Bool
  | [c] => decide (Good c)
  | _ => false
def okB (w : Int) (z : List Nat) : Bool := (decide (1 ≤ z.length) && decide (z.length ≤ 8) && decide ((z.length : Int) = w)) && z.all fun c => decide (Good c)
def lineOf : Rows → Int
  | [] => 1
  | r :: R => match ((r :: R).take 8).findIdx? (fun z => !okB (r.length : Int) z) with
    | some i => (i : Int) + 1
    | none => if 8 < (r :: R).length then 9 else 0
structure PTxt (K : PySem.W.Frag) (mg : Str → Option Value) (C : Addr) : Prop where
  gC : mg "Picture" = some (.ref C)
  cr : ∃ mc, ClX.CRead K C mc ∧ (∃ u, ClX.CVal K C mc "HOLE" (.str ".") u) ∧ ∃ u, ClX.CVal K C mc "EDGE" (.str "#") u
  stones : ∃ u, mg "STONES" = some u ∧ RelV (.str alphaS) u
  most : ∃ u, mg "MOST" = some u ∧ RelV (.int 8) u
  all : mg "all" = none
  enum : mg "enumerate" = none
theorem len_one {z : List Nat} (h : z.length = 1) : ∃ c, z = [c] := match z, h with | [c], _ => ⟨c, rfl⟩
theorem stoneB_ne {z : List Nat} (h : z.length ≠ 1) : stoneB z = false := by
  match z, h with
  | [], _ => rfl
  | [_], h => exact absurd rfl h
  | _ :: _ :: _, _ => rfl
theorem goodB_ne {z : List Nat} (h : z.length ≠ 1) : goodB z = false := by
  match z, h with
  | [], _ => rfl
  | [_], h => exact absurd rfl h
  | _ :: _ :: _, _ => rfl
section
variable {P : Program} {w : World} {K : PySem.W.Frag} {mg : Str → Option Value} {base : Heap} {C : Addr}
def spStone : Sp := fun vs H Q _ => ∃ z, vs = [.str (S z)] ∧ z.length ≤ 1000 ∧ Q (.bl (stoneB z)) H
theorem scStone : FnScope ["sign"] ["sign"] (defScope gIsStone) := ⟨rfl, rfl, rfl, by decide +kernel, rfl, by decide +kernel, by decide +kernel⟩
theorem ok_stone {f : Addr} {fd : FuncData} (F : Fun K "is_stone" "is_stone" gIsStone f fd) (L : LTxt K mg) (T : PTxt K mg C) : FnOk P w K mg base CX0 1 f fd ["sign"] spStone := by
  refine F.ok scStone (fun vs H Q E h => ?_) (fun cdv A outer s H vs Q E hr h => ?_)
  · obtain ⟨z, rfl, _⟩ := h
    rfl
  · obtain ⟨z, rfl, few, k⟩ := h
    obtain ⟨u, hu, ru⟩ := T.stones
    refine ⟨_, pss_one (ps_ret (pe_and (pe_cmpR op_eq (pe_callB call_len_str (by rfl) L.len PySem.boot_len (pa_cons (pv 0) pa_nil)) pe_int (nomark _)) (pe_one (pe_cmpR op_in_sign (pv 0) (pe_glob (by rfl) hu ru) (by rfl))))), ?_⟩
    refine ⟨_, rfl, _, rfl, by rw [len_S]; exact small_line few, rfl, _, rfl, ite2 (fun e => ?_) (fun e => ?_)⟩
    · have e1 : z.length = 1 := by
        have := of_decide_eq_true e
        simp only [V.int.injEq] at this
        rw [len_S] at this
        omega
      obtain ⟨c, rfl⟩ := len_one e1
      refine ⟨_, rfl, c, _, rfl, rfl, ?_⟩
      have y : decide (c ∈ alphaS.cps.toList) = stoneB [c] := decide_eq_decide.mpr (alpha_mem c)
      rw [y]
      exact k
    · have e1 : z.length ≠ 1 := fun y => e (decide_eq_true (by rw [len_S, y]; rfl))
      rw [stoneB_ne e1] at k
      exact k
def spSoh : Sp := fun vs H Q _ => ∃ z, vs = [.str (S z)] ∧ z.length ≤ 1000 ∧ Q (.bl (goodB z)) H
theorem scSoh : FnScope ["sign"] ["sign"] (defScope gIsStoneOrHole) := ⟨rfl, rfl, rfl, by decide +kernel, rfl, by decide +kernel, by decide +kernel⟩
theorem ok_soh {f g : Addr} {fd gd : FuncData} (F : Fun K "is_stone_or_hole" "is_stone_or_hole" gIsStoneOrHole f fd) (G : Cl P w K mg base CX0 1 "is_stone" ["sign"] spStone g gd) (T : PTxt K mg C) : FnOk P w K mg base CX0 2 f fd ["sign"] spSoh := by
  refine F.ok scSoh (fun vs H Q E h => ?_) (fun cdv A outer s H vs Q E hr h => ?_)
  · obtain ⟨z, rfl, _⟩ := h
    rfl
  · obtain ⟨z, rfl, few, k⟩ := h
    obtain ⟨mc, cr, ⟨u, hu⟩, _⟩ := T.cr
    refine ⟨_, pss_one (ps_ret (pe_or (pe_cmpR op_eq (pv 0) (ClX.pe_cval (pe_glob (v := .ref C) (by rfl) T.gC rfl)) (nomark _)) (pe_one (pe_call G.ok hr (by rfl) G.gl G.kp G.bd .nil pass0 (pa_cons (pv 0) pa_nil))))), ?_⟩
    refine ⟨_, rfl, C, mc, _, u, rfl, cr, hu, rfl, _, rfl, ite2 (fun e => ?_) (fun e => ⟨_, rfl, z, rfl, few, ?_⟩)⟩
    · have e1 : z = [46] := by
        have := of_decide_eq_true e
        simp only [V.str.injEq] at this
        rw [dot_S] at this
        exact S_inj this
      subst e1
      exact k
    · have e1 : z ≠ [46] := fun y => e (decide_eq_true (by rw [y, dot_S]))
      have e2 : stoneB z = goodB z := by
        by_cases l1 : z.length = 1
        · obtain ⟨c, rfl⟩ := len_one l1
          refine decide_eq_decide.mpr ⟨.inr, fun y => ?_⟩
          rcases y with y | y
          · exact absurd (by rw [y]) e1
          · exact y
        · rw [stoneB_ne l1, goodB_ne l1]
      rw [e2]
      exact k
/-! ### a bad row -/
def spBad : Sp := fun vs H Q _ => ∃ z w, vs = [.str (S z), .int w] ∧ z.length ≤ 1000 ∧ ∀ H', Same H H' → Q (.bl (!okB w z)) H'
abbrev nBad : List Str := ["row", "width", "sign"]
theorem scBad : FnScope nBad ["row", "width"] (defScope gIsBadRow) := ⟨rfl, rfl, rfl, by decide +kernel, rfl, by decide +kernel, by decide +kernel⟩
theorem all_good (z : List Nat) : (z.map fun c => goodB [c]).all id = z.all fun c => decide (Good c) := by
  rw [List.all_map]
  rfl
theorem ok_bad {f g : Addr} {fd gd : FuncData} (F : Fun K "_is_bad_row" "_is_bad_row" gIsBadRow f fd) (G : Cl P w K mg base CX0 2 "is_stone_or_hole" ["sign"] spSoh g gd) (L : LTxt K mg) (T : PTxt K mg C) : FnOk P w K mg base CX0 3 f fd ["row", "width"] spBad := by
  refine F.ok scBad (fun vs H Q E h => ?_) (fun cdv A outer s H vs Q E hr h => ?_)
  · obtain ⟨z, w, rfl, _⟩ := h
    rfl
  · obtain ⟨z, w, rfl, few, k⟩ := h
    obtain ⟨um, hm, rm⟩ := T.most
    refine ⟨_, pss_cons (ps_if (PW.pt (pw_or (pt_not (pt_chain op_le op_le pe_int (pe_callB call_len_str (by rfl) L.len PySem.boot_len (pa_cons (pv 0) pa_nil)) (pe_glob (by rfl) hm rm))) (pw_or1 (pt_cmpR op_ne (pe_callB call_len_str (by rfl) L.len PySem.boot_len (pa_cons (pv 0) pa_nil)) (pv 1) (nomark _))))) (pss_one (ps_ret pe_bl)) pss_nil)
      (pss_one (ps_ret (pe_not (pe_callB (cr_all rfl) (by rfl) T.all (by decide +kernel) (pa_cons (pe_lc (own := [("sign", 2)]) (g := gName 2) (tt := tYes) rfl scBad.nd (pi_str (pv 0)) (blkOk_by (N := nBad) (sc := defScope gIsBadRow) (by decide +kernel)) (fun _ _ _ _ _ => pg_name (i := 2) scBad.nd rfl (.inl rfl)) (fun _ _ _ _ _ => pts_nil)
        (fun _ _ _ _ _ => pe_call G.ok hr (by rfl) G.gl G.kp G.bd .nil pass0 (pa_cons (pv 2) pa_nil))) pa_nil))))), ?_⟩
    have line : (S z).length ≤ sizeLine := by rw [len_S]; exact small_line few
    have body : okB w z = (z.all fun c => decide (Good c)) → ∀ H1, Same H H1 → Q (.bl (!(z.all fun c => decide (Good c)))) H1 := fun e H1 s1 => by
      rw [← e]
      exact k H1 s1
    -- what stands behind the test, where it does not hold
    have go : (1 ≤ z.length ∧ z.length ≤ 8 ∧ (z.length : Int) = w) → okB w z = (z.all fun c => decide (Good c)) := fun ⟨a, b, c⟩ => by
      unfold okB
      rw [decide_eq_true a, decide_eq_true b, decide_eq_true c]
      rfl
    have no : ¬ (1 ≤ z.length ∧ z.length ≤ 8 ∧ (z.length : Int) = w) → okB w z = false := fun y => by
      unfold okB
      by_cases a : 1 ≤ z.length
      · by_cases b : z.length ≤ 8
        · by_cases c : (z.length : Int) = w
          · exact absurd ⟨a, b, c⟩ y
          · rw [decide_eq_false c, Bool.and_false]
            rfl
        · rw [decide_eq_false b, Bool.and_false]
          rfl
      · rw [decide_eq_false a]
        rfl
    have yes : ¬ (1 ≤ z.length ∧ z.length ≤ 8 ∧ (z.length : Int) = w) → Q (.bl true) H := fun y => by
      have q := k H (Same.refl H)
      rw [no y] at q
      exact q
    refine ⟨_, rfl, _, rfl, line, _, _, rfl, rfl, _, rfl, ite2 (fun a => ?_) (fun a => ?_)⟩
    · have a1 : 1 ≤ z.length := by
        have y := of_decide_eq_true a
        rw [len_S] at y
        omega
      refine ⟨_, _, rfl, rfl, _, rfl, ?_⟩
      by_cases b : z.length ≤ 8
      · refine iteFe (by rw [len_S]; simp; omega) ⟨_, rfl, _, rfl, line, _, rfl, rfl, _, rfl, ?_⟩
        by_cases c : (z.length : Int) = w
        · refine iteFe (by rw [len_S]; simp [c]) ⟨_, rfl, _, rfl, fun D nD => lc_it walk_str (fun i G => Same H G ∧ G D = some (.lst (((z.take i).map fun c => goodB [c]).map V.bl))) ⟨same_upd nD, upd_same⟩ (fun _ _ _ _ => trivial) ?_ ?_⟩
          · rintro i x G G' hi ⟨sG, hD⟩ ⟨rfl, d, gd, rfl⟩
            have gd2 : z[i]? = some d := by
              have y : z.toArray[i]? = some d := gd
              rwa [List.getElem?_toArray] at y
            refine ⟨rfl, tyes (iteT ⟨_, rfl, [d], rfl, (show 1 ≤ 1000 by decide), _, hD, ?_, ?_, ?_⟩)⟩
            · rw [List.length_map, List.length_map, List.length_take]
              exact small1000 (by omega)
            · exact fun b o e => by
                rw [upd_ne (ne_of_none e nD)]
                exact sG b o e
            · rw [upd_same, List.take_add_one, gd2]
              simp
          · rintro G ⟨sG, hD⟩
            have e1 : (S z).cps.size = z.length := by simp
            rw [e1, List.take_of_length_le (Nat.le_refl _)] at hD
            refine ⟨D, _, rfl, SqL.of hD, _, rfl, ?_⟩
            rw [all_good]
            exact body (go ⟨a1, b, c⟩) G sG
        · exact iteTe (by rw [len_S]; simp [c]) (yes fun y => c y.2.2)
      · exact iteTe (by rw [len_S]; simp; omega) (iteT (yes fun y => b y.2.1))
    · refine ⟨_, rfl, iteT (iteT (yes fun y => a (decide_eq_true ?_)))⟩
      rw [len_S]
      have := y.1
      omega
/-! ### the first bad line -/
def spLine : Sp := fun vs H Q _ => ∃ a R, vs = [.ref a] ∧ H a = some (.lst (rowsV R)) ∧ R.length ≤ 1000 ∧ (∀ r ∈ R, r.length ≤ 1000) ∧ ∀ H', Same H H' → Q (.int (lineOf R)) H'
theorem scLine : FnScope ["rows", "line", "row"] ["rows"] (defScope gBadLine) := ⟨rfl, rfl, rfl, by decide +kernel, rfl, by decide +kernel, by decide +kernel⟩
theorem walkS {K : PySem.W.Frag} {a : Addr} {xs : List V} : Walk (ItS K a) xs.length (fun H => SqL K H a xs) (fun i H v H' => ∃ T x, v = .ref T ∧ H T = none ∧ H' = upd H T (.tup [.int ((i : Int) + 1), x]) ∧ xs[i]? = some x) :=
  ⟨fun i H hi h => ⟨xs, xs[i], h, List.getElem?_eq_getElem hi⟩, fun H h => ⟨xs, h, rfl⟩, fun i H v H' _ h ⟨T, x, a, b, c, d⟩ => ⟨T, x, a, b, c, d xs h⟩⟩
theorem row0 (r : List Nat) (R : Rows) : atI (rowsV (r :: R)) 0 = some (.str (S r)) := atI_nat (j := 0) (by rfl)
theorem rowsV_at {R : Rows} {i : Nat} {x : V} (h : (rowsV R)[i]? = some x) : ∃ r, R[i]? = some r ∧ x = .str (S r) := by
  unfold rowsV at h
  rw [List.getElem?_map] at h
  cases e : R[i]? with
  | none =>
    rw [e] at h
    cases h
  | some r =>
    rw [e] at h
    cases h
    exact ⟨r, rfl, rfl⟩
theorem lineOf_cons {r : List Nat} {R : Rows} : lineOf (r :: R) = match ((r :: R).take 8).findIdx? (fun z => !okB (r.length : Int) z) with
    | some i => (i : Int) + 1
    | none => if 8 < (r :: R).length then 9 else 0 := rfl
theorem find_some {p : List Nat → Bool} : ∀ {l : Rows} {i : Nat} {z : List Nat}, l[i]? = some z → p z = true → (∀ j y, j < i → l[j]? = some y → p y = false) → l.findIdx? p = some i
  | [], i, z, h, _, _ => by simp at h
  | y :: l, 0, z, h, hz, _ => by
    have e : y = z := by simpa using h
    subst e
    rw [List.findIdx?_cons, hz]
    rfl
  | y :: l, i + 1, z, h, hz, hp => by
    have e := find_some (l := l) (i := i) (z := z) (by simpa using h) hz fun j x hj hx => hp (j + 1) x (by omega) (by simpa using hx)
    rw [List.findIdx?_cons, hp 0 y (by omega) rfl, e]
    rfl
theorem find_none {p : List Nat → Bool} {l : Rows} (h : ∀ (j : Nat) (y : List Nat), l[j]? = some y → p y = false) : l.findIdx? p = none := by
  rw [List.findIdx?_eq_none_iff]
  intro x hx
  obtain ⟨j, hj⟩ := List.mem_iff_getElem?.mp hx
  exact h j x hj
theorem ok_line {f g : Addr} {fd gd : FuncData} (F : Fun K "_bad_line" "_bad_line" gBadLine f fd) (G : Cl P w K mg base CX0 3 "_is_bad_row" ["row", "width"] spBad g gd) (L : LTxt K mg) (T : PTxt K mg C) : FnOk P w K mg base CX0 4 f fd ["rows"] spLine := by
  refine F.ok scLine (fun vs H Q E h => ?_) (fun cdv A outer s H vs Q E hr h => ?_)
  · obtain ⟨a, R, rfl, _⟩ := h
    rfl
  · obtain ⟨a, R, rfl, ha, few, each, k⟩ := h
    obtain ⟨um, hm, rm⟩ := T.most
    refine ⟨_, pss_cons (ps_if (pt_not (pt_truth (pv 0) (fun _ => rfl))) (pss_one (ps_ret pe_int)) pss_nil)
      (pss_cons (ps_for PassesOwn.never rfl (pi_enumS (by rfl) T.enum (pa_cons (pe_slice sl_list (pv 0) po_none (po_some (pe_glob (by rfl) hm rm))) pa_nil) (pk_cons pe_int pk_nil)) (pg_tup rfl (pgs_cons (pg_name (i := 1) scLine.nd rfl (.inl rfl)) (pgs_cons (pg_name (i := 2) scLine.nd rfl (.inl rfl)) pgs_nil)))
        (pss_one (ps_if (pt_val (pe_call G.ok hr (by rfl) G.gl G.kp G.bd .nil pass0 (pa_cons (pv 2) (pa_cons (pe_callB call_len_str (by rfl) L.len PySem.boot_len (pa_cons (pe_ix ix_list (pv 0) pe_int (fun _ _ => rfl)) pa_nil)) pa_nil)))) (pss_one (ps_ret (pv 1))) pss_nil)))
      (pss_one (ps_ret (pe_ifExp (pt_cmpR op_gt (pe_callB call_len_seq (by rfl) L.len PySem.boot_len (pa_cons (pv 0) pa_nil)) (pe_glob (by rfl) hm rm) (nomark _)) (pe_op op_add (pe_glob (by rfl) hm rm) pe_int) pe_int)))), ?_⟩
    match R, ha, few, each, k with
    | [], ha, few, each, k =>
      exact ⟨_, rfl, _, .inl ⟨_, SqL.of ha, rfl⟩, iteT (k H (Same.refl H))⟩
    | r :: R, ha, few, each, k =>
      refine ⟨_, rfl, _, .inl ⟨_, SqL.of ha, rfl⟩, iteF ?_⟩
      refine ⟨_, rfl, _, rfl, a, _, rfl, SqL.of ha, fun p np => ?_⟩
      have e8 : cutV (rowsV (r :: R)) none (some 8) = rowsV ((r :: R).take 8) := by
        rw [show (some 8 : Option Int) = some ((8 : Nat) : Int) from rfl, cut_to]
        exact (List.map_take).symm
      rw [e8]
      have s1 := same_upd (o := .lst (rowsV ((r :: R).take 8))) np
      have hp : (upd H p (.lst (rowsV ((r :: R).take 8)))) p = some (.lst (rowsV ((r :: R).take 8))) := upd_same
      generalize upd H p (.lst (rowsV ((r :: R).take 8))) = H1 at s1 hp
      refine ⟨p, _, rfl, rfl, SqL.of hp, for_it walkS (fun i σ G => ∃ y z, σ = [some (.ref a), y, z] ∧ Same H1 G ∧ ∀ j x, j < i → ((r :: R).take 8)[j]? = some x → okB (r.length : Int) x = true) ⟨_, _, rfl, Same.refl _, fun j x hj => absurd hj (by omega)⟩ (fun i σ G _ ⟨_, _, _, sG, _⟩ => SqL.of (sG _ _ hp)) ?_ ?_⟩
      · rintro i x σ G G' hi ⟨y, z, rfl, sG, ok⟩ ⟨T1, x1, rfl, nT, rfl, gx⟩
        obtain ⟨q, gq, rfl⟩ := rowsV_at gx
        have s2 := sG.trans (same_upd (o := .tup [.int ((i : Int) + 1), .str (S q)]) nT)
        refine ⟨T1, _, rfl, SqT.of upd_same, rfl, _, _, rfl, _, _, rfl, rfl, ?_⟩
        have mq : q ∈ r :: R := List.mem_of_mem_take (List.mem_of_getElem? gq)
        refine ⟨_, rfl, _, rfl, a, _, 0, _, rfl, rfl, SqL.of (s2 _ _ (s1 _ _ ha)), row0 r R, _, rfl, by rw [len_S]; exact small_line (each r List.mem_cons_self), q, _, rfl, each q mq, fun G2 sg => ⟨_, rfl, ?_⟩⟩
        rw [len_S]
        by_cases b : okB (r.length : Int) q = true
        · rw [b]
          refine iteF ⟨_, _, rfl, s2.trans sg, fun j x hj hx => ?_⟩
          rcases Nat.lt_succ_iff_lt_or_eq.mp hj with z | z
          · exact ok j x z hx
          · rw [z, gq] at hx
            cases hx
            exact b
        · have b : okB (r.length : Int) q = false := by simpa using b
          rw [b]
          refine iteT ⟨_, rfl, ?_⟩
          have e : lineOf (r :: R) = (i : Int) + 1 := by
            rw [lineOf_cons, find_some gq (by rw [b]; rfl) fun j y hj hy => by rw [ok j y hj hy]; rfl]
          have q2 := k G2 (s1.trans (s2.trans sg))
          rw [e] at q2
          exact q2
      · rintro σ G ⟨y, z, rfl, sG, ok⟩
        have e : lineOf (r :: R) = if 8 < (r :: R).length then 9 else 0 := by
          rw [lineOf_cons, find_none fun j y hy => by
            rw [ok j y ?_ hy]
            · rfl
            · rw [rowsV_len]
              rcases List.getElem?_eq_some_iff.mp hy with ⟨h1, _⟩
              exact h1]
        have q2 := k G (s1.trans sG)
        rw [e] at q2
        refine ⟨_, rfl, a, _, rfl, .inl (SqL.of (sG _ _ (s1 _ _ ha))), _, _, rfl, rfl, _, rfl, ?_⟩
        rw [rowsV_len]
        by_cases b : 8 < (r :: R).length
        · rw [if_pos b] at q2
          exact iteTe (decide_eq_true (by omega)) ⟨_, _, rfl, rfl, q2⟩
        · rw [if_neg b] at q2
          exact iteFe (decide_eq_false (by omega)) q2
end
end Pm
namespace Pm
open PySem PySem.Spec PyProof.Rows L2 SX
/-! ### errors that are raised with fields of their own -/
/-- an error class at C that may be raised: its __init__ at f keeps sp -/
structure EMk (P : Program) (w : World) (K : PySem.W.Frag) (mg : Str → Option Value) (base : Heap) (C : Addr) (name : Str) (ps : List Str) (sp : Sp) (f : Addr) (fd : FuncData) : Prop where
  T : OexC K C
  at_ : PySem.W.findIn K (.ref C) "__init__" = some (some (.ref f))
  ty : PySem.W.typeIn K (.ref f) = some (.type "function")
  ok : FnOk P w K mg base CX0 1 f fd ps sp
  bd : Binds K fd ps []
  gl : mg name = some (.ref C)
def spE1 (C : Addr) (n : Str) : Sp := fun vs H Q _ => ∃ a v, vs = [.ref a, v] ∧ H a = some (exo a C none) ∧ ∀ H' d, H' a = some (exo a C (some d)) → H' d = some (exd d [(n, v)]) → H d = none → d ≠ a → SameBut a H H' → Q .non H'
def spE2 (C : Addr) : Sp := fun vs H Q _ => ∃ a v u, vs = [.ref a, v, u] ∧ H a = some (exo a C none) ∧ ∀ H' d, H' a = some (exo a C (some d)) → H' d = some (exd d [("y", u), ("x", v)]) → H d = none → d ≠ a → SameBut a H H' → Q .non H'
/-- what was there stands when the error is on its way -/
theorem on_way {H H2 : Hp} {a d : Addr} {o : HO} {fs : List (Str × V)} (n : H a = none) (nd : (upd H a o) d = none) (ne : d ≠ a) (s : SameBut a (upd H a o) H2) : Same H (upd (del H2 a) d (.xd fs)) := fun b u e => by
  have nba : b ≠ a := ne_of_none e n
  have nbd : b ≠ d := fun z => by
    rw [z] at e
    rw [upd_ne ne, e] at nd
    cases nd
  rw [upd_ne nbd, del_ne nba]
  exact s b u nba (by rw [upd_ne nba]; exact e)
theorem passF {X : Cx} : Passes (L2.CX X.prog X.w) X E0 := fun _ _ _ _ _ _ _ c => by
  obtain ⟨_, _, _, _, _, _, _, _, _, _, _, _, z⟩ := c
  exact z.elim
/-- an error of the class at C with the fields fs is let out -/
def Lets (E : XK) (C : Addr) (fs : List (Str × V)) (H : Hp) : Prop := ∀ d H', H d = none → H' d = some (.xd fs) → Same H H' → E (.ref C) (some d) H'
/-! ### the error that a suite holds -/
structure ErrC (K : PySem.W.Frag) (D : Addr) : Prop where
  cl : (PySem.W.clsIn K D).isSome = true
  hg : PySem.W.findIn K (.ref D) "__getattribute__" = some (some (.builtin "BaseException.__getattribute__"))
  hk : PySem.W.findIn K (.ref D) "__getattr__" = some none
  hs : PySem.W.subIn K (.ref D) (.type "BaseException") = some true
  ha : PySem.W.findIn K (.ref D) "__class__" = some (some (.builtin "object.__class__"))
  hn : PySem.W.specialIn K (.builtin "object.__class__") "__get__" = some (some (.builtin "getset_descriptor.__get__"))
  ht : PySem.W.takesIn K (.builtin "object.__class__") = some true
  hm : PySem.W.mroIn K D (.type "object") = some true
  hd : PySem.W.hasDictIn K D = true
theorem ErrC.xf {K : PySem.W.Frag} {D : Addr} (C : ErrC K D) : XfC K D := ⟨C.hg, C.hk, C.hs, C.hd⟩
/-- isinstance(e, c), e the error that the suite holds at a, its class cls, its dict d -/
def rIsX (K : PySem.W.Frag) (a : Addr) (cls : Value) (d : Option Addr) : List V → Hp → VK → Prop := fun xs H Q => ∃ (D dd : Addr) (fs : List (Str × V)) (c : V) (cv : Value) (b : Bool),
  xs = [.ref a, c] ∧ cls = .ref D ∧ d = some dd ∧ ErrC K D ∧ H dd = some (.xd fs) ∧ (∀ u, RelV c u → u = cv) ∧ PySem.W.kitOne K (.ref D) cv = some b ∧ Q (.bl b) H
theorem call_isX {X : Cx} {a : Addr} {cls : Value} {d : Option Addr} {oe : Obj} {pn : List (Addr × Obj)} (hz : Zc cls d oe) (hf : ∃ vs, oe.data = .fields vs) : CallR (X.suite a ((a, oe) :: pn)) (.builtin "isinstance") (rIsX X.K a cls d) := by
  intro pins s σ H xs us Q I r h
  obtain ⟨D, dd, fs, c, cv, b, rfl, rfl, rfl, C, hdd, hcv, e, q⟩ := h
  match r with
  | .cons rx (.cons rt .nil) =>
    cases rx
    cases hcv _ rt
    obtain ⟨at_, _⟩ := I.pin (a, oe) (List.mem_append_left _ List.mem_cons_self)
    obtain ⟨vs, hd⟩ := hf
    have own : ObjOk X.prog X.w H s.heap dd (.xd fs) := I.hok dd _ hdd
    obtain ⟨mA, hns, _⟩ := own
    obtain ⟨od, ho, _⟩ := lookIn_ns hns
    have J : PySem.W.InstAt s.heap a oe D (some od) := ⟨at_, hz.1, by unfold PySem.W.notCls; rw [hd] <;> rfl, by rw [hz.2]; exact ho⟩
    exact PySem.W.kia_one (PySem.W.kitx_exc C.cl C.hg C.hk C.hs C.ha C.hn C.ht C.hm) I.kIn J e (fun z => nomatch z) fun tk => ⟨.bl b, H, I.kept (t' := tk) fun _ _ z => z, rfl, q⟩
/-- e.f of that error, whatever its class -/
def tErrX (K : PySem.W.Frag) (a : Addr) (cls : Value) (d : Option Addr) (f : Str) (te : TE) : TE := fun σ H Q => te σ H fun x H1 => ∃ (D dd : Addr) (fs : List (Str × V)) (v : V), x = .ref a ∧ cls = .ref D ∧ d = some dd ∧ ErrC K D ∧ PySem.W.findIn K (.ref D) f = some none ∧ H1 dd = some (.xd fs) ∧ fs.lookup f = some v ∧ Q v H1
theorem pe_errX {X : Cx} {a : Addr} {oe : Obj} {cls : Value} {d : Option Addr} {pn : List (Addr × Obj)} {e : Expr} {te : TE} {pos : Pos} {n : Str} (hz : Zc cls d oe) (hf : ∃ vs, oe.data = .fields vs) (he : PE (X.suite a ((a, oe) :: pn)) e te)
    (hb : attributeBase e n X.env (eval e X.env) = eval e X.env := by rfl) : PE (X.suite a ((a, oe) :: pn)) (.Attribute e n pos) (tErrX X.K a cls d n te) := by
  refine ⟨fun pins s σ H Q I h => attr_of hb (thn (he.run pins s σ H _ I h) fun u s1 ⟨x, H1, I1, rx, D, dd, fs, v, ex, ec, ed, C, hno, hdd, l, q⟩ => ?_)⟩
  subst ex ec ed
  obtain rfl : u = Value.ref a := rx
  obtain ⟨at_, _⟩ := I1.pin (a, oe) (List.mem_append_left _ List.mem_cons_self)
  obtain ⟨vs, hd⟩ := hf
  have own : ObjOk X.prog X.w H1 s1.heap dd (.xd fs) := I1.hok dd _ hdd
  obtain ⟨mA, hns, rel⟩ := own
  obtain ⟨od, ho, hl⟩ := lookIn_ns hns
  have rl := rel n
  rw [l] at rl
  obtain ⟨u, hu, ru⟩ := RelO.some_of (v := v) (o := mA n) rl
  have J : PySem.W.InstAt s1.heap a oe D (some od) := ⟨at_, hz.1, by unfold PySem.W.notCls; rw [hd] <;> rfl, by rw [hz.2]; exact ho⟩
  exact HandSPX.exc_get I1.kIn J C.hg C.hk C.hs (PySem.W.findObj_own C.hd hno rfl (by rw [hl, hu])) (handed_of ru) ⟨v, H1, I1.tok _, ru, q⟩
end Pm
namespace Pm
open PySem PySem.Spec PyProof.Rows L2 SX
section
variable {P : Program} {w : World} {K : PySem.W.Frag} {mg : Str → Option Value} {base : Heap} {C CI : Addr}
theorem scEInvalidPicture : FnScope ["self", "line"] ["self", "line"] (defScope cInvalidPictureInit) := ⟨rfl, rfl, rfl, by decide +kernel, rfl, by decide +kernel, by decide +kernel⟩
theorem okEInvalidPicture {f C : Addr} {fd : FuncData} (F : Fun K "__init__" "InvalidPicture.__init__" cInvalidPictureInit f fd) (T : OexC K C) (nx : PySem.W.findIn K (.ref C) "line" = some none) : FnOk P w K mg base CX0 1 f fd ["self", "line"] (spE1 C "line") := by
  refine F.ok scEInvalidPicture (fun vs H Q E h => ?_) (fun cdv A outer s H vs Q E hr h => ?_)
  · obtain ⟨a, v, rfl, _⟩ := h
    rfl
  · obtain ⟨a, v, rfl, ha, k⟩ := h
    refine ⟨_, pss_one (ps_ost (pv 0) (pv 1)), ?_⟩
    refine ⟨_, rfl, _, rfl, a, C, rfl, T, nx, .inl ⟨ha, fun dx nd ne => ?_⟩⟩
    refine k _ dx upd_same (by rw [upd_ne ne, upd_same]) nd ne fun b o nb e => ?_
    rw [upd_ne nb, upd_ne (ne_of_none e nd)]
    exact e
/-! ### a picture -/
def wideOf (R : Rows) : Int := ((R.headD []).length : Int)
def PicAt (C : Addr) (H : Hp) (r : Addr) (R : Rows) : Prop := ∃ dx l, H r = some (.ins C dx [("_rows", .ref l), ("width", .int (wideOf R)), ("height", .int (R.length : Int))]) ∧ H l = some (.lst (rowsV R))
structure PCls (K : PySem.W.Frag) (C : Addr) : Prop where
  cl : L2.Cls K C
  nR : NoAttr K C "_rows"
  nW : NoAttr K C "width"
  nH : NoAttr K C "height"
def spInit (C CI : Addr) : Sp := fun vs H Q E => ∃ r dx a R, vs = [.ref r, .ref a] ∧ H r = some (.ins C dx []) ∧ H a = some (.lst (rowsV R)) ∧ R.length ≤ 1000 ∧ (∀ z ∈ R, z.length ≤ 1000) ∧
  (0 < lineOf R → Lets E CI [("line", .int (lineOf R))] H) ∧ (lineOf R = 0 → ∀ H', PicAt C H' r R → SameBut r H H' → Q .non H')
theorem lineOf_nonneg (R : Rows) : 0 ≤ lineOf R := by
  match R with
  | [] => exact Int.le_of_lt (by decide)
  | r :: R =>
    rw [lineOf_cons]
    split
    · exact Int.add_nonneg (Int.natCast_nonneg _) (by decide)
    · split <;> decide
theorem scInit : FnScope ["self", "rows", "line"] ["self", "rows"] (defScope cPictureInit) := ⟨rfl, rfl, rfl, by decide +kernel, rfl, by decide +kernel, by decide +kernel⟩
theorem ok_init {f g e : Addr} {fd gd ed : FuncData} (F : Fun K "__init__" "Picture.__init__" cPictureInit f fd) (G : Cl P w K mg base CX0 4 "_bad_line" ["rows"] spLine g gd) (Ex : EMk P w K mg base CI "InvalidPicture" ["self", "line"] (spE1 CI "line") e ed) (L : LTxt K mg) (T : PCls K C) :
    FnOk P w K mg base (L2.CX P w) 5 f fd ["self", "rows"] (spInit C CI) := by
  refine F.okX scInit (fun vs H Q E h => ?_) (fun cdv A outer s H vs Q E hr h => ?_)
  · obtain ⟨r, dx, a, R, rfl, _⟩ := h
    rfl
  · obtain ⟨r, dx, a, R, rfl, hR, ha, few, each, bad, good⟩ := h
    refine ⟨_, pss_cons (ps_set (i := 2) scInit.nd rfl (.inl rfl) (pe_call G.ok hr (by rfl) G.gl G.kp G.bd .nil pass0 (pa_cons (pv 1) pa_nil)))
      (pss_cons (ps_if (pt_cmpR op_gt (pv 2) pe_int (nomark _)) (pss_one (ps_raise rfl (takes_of rfl rfl rfl rfl) (pmk_oex Ex.T Ex.at_ Ex.ty Ex.ok (hr.mono (by decide)) Ex.bd .nil pass0 (by rfl) Ex.gl (pa_cons (pv 2) pa_nil)))) pss_nil)
      (pss_cons (ps_fld (pv 0) (pe_callTy call_list_of (by rfl) L.lst (by decide +kernel) (pa_cons (pv 1) pa_nil)) rfl)
      (pss_cons (ps_fld (pv 0) (pe_callB call_len_str (by rfl) L.len PySem.boot_len (pa_cons (pe_ix ix_list (pv 1) pe_int (fun _ _ => rfl)) pa_nil)) rfl)
      (pss_one (ps_fld (pv 0) (pe_callB call_len_seq (by rfl) L.len PySem.boot_len (pa_cons (pv 1) pa_nil)) rfl))))), ?_⟩
    refine ⟨_, rfl, a, R, rfl, ha, few, each, fun H1 s1 => ?_⟩
    refine ⟨_, rfl, _, _, rfl, rfl, _, rfl, ite2 (fun p => ?_) (fun p => ?_)⟩
    · have pos : 0 < lineOf R := of_decide_eq_true p
      refine ⟨_, rfl, by show 1 ≤ 1000; decide, fun x nx => ⟨x, _, rfl, upd_same, fun H2 d h1 h2 nd ne sb => ⟨rfl, d, _, h1, h2, ?_, ?_⟩⟩⟩
      · rwa [upd_ne ne] at nd
      · have nd1 : H1 d = none := by rwa [upd_ne ne] at nd
        exact bad pos d _ (back s1 nd1) upd_same (s1.trans (on_way nx nd ne sb))
    · have zero : lineOf R = 0 := by
        have y := lineOf_nonneg R
        have z : ¬ 0 < lineOf R := fun y => p (decide_eq_true y)
        omega
      match R, ha, few, each, bad, good, zero with
      | q :: R, ha, few, each, bad, good, zero =>
        refine ⟨_, rfl, a, _, rfl, .inl (SqL.of (s1 _ _ ha)), fun l nl => ⟨_, rfl, r, C, dx, [], rfl, same_upd nl _ _ (s1 _ _ hR), T.cl, T.nR, by show 0 < 1000; decide, ?_⟩⟩
        have nra : a ≠ r := ne_of (s1 _ _ ha) (s1 _ _ hR) (by intro z; cases z)
        have nlr : l ≠ r := Ne.symm (ne_of_none (s1 _ _ hR) nl)
        have nla : l ≠ a := Ne.symm (ne_of_none (s1 _ _ ha) nl)
        refine ⟨_, rfl, a, _, 0, _, rfl, rfl, SqL.of (by rw [upd_ne nra, upd_ne nla.symm]; exact s1 _ _ ha), row0 q R, _, rfl, by rw [len_S]; exact small_line (each q List.mem_cons_self), _, rfl, r, C, dx, _, rfl, upd_same, T.cl, T.nW, by show 1 < 1000; decide, ?_⟩
        refine ⟨_, rfl, a, _, rfl, .inl (SqL.of (by rw [upd_ne nra, upd_ne nra, upd_ne nla.symm]; exact s1 _ _ ha)), _, rfl, r, C, dx, _, rfl, upd_same, T.cl, T.nH, by show 2 < 1000; decide, ?_⟩
        refine good zero _ ⟨dx, l, ?_, ?_⟩ fun b o nb e => ?_
        · rw [upd_same, rowsV_len, len_S]
          rfl
        · rw [upd_ne nlr, upd_ne nlr, upd_ne nlr]
          exact upd_same
        · rw [upd_ne nb, upd_ne nb, upd_ne nb]
          exact same_upd nl _ _ (s1 _ _ e)
end
end Pm
namespace Pm
open PySem PySem.Spec PyProof.Rows L2 SX
/-! ### calls whose errors are wished for at the caller's slots -/
section
variable {X : Cx} {CXf : CXT} {k : Nat} {f C : Addr} {fd : FuncData} {ps : List Str} {sp : Sp} {E : L2.St → XK} {x m : Str} {p pos apos : Pos} {e o : Expr} {es : List Expr} {ta : TE} {t : TA} {pins : List (Addr × Obj)} {σ : L2.St} {H : Hp} {s : Shared} {Q : VK} {us : List Value} {vs : List V}
/-- how a callee's end is taken -/
theorem end_of {r : Result} {s' : Shared} (I : L2.Inv X pins σ H s) (hx : PassesAt CXf X σ (E σ)) (h : match r with | .ok (.ret v) => EP X pins σ Q v s' | .ok _ => False | .error er => CXf X.stack H s (E σ) er s') :
    match r with | .ok (.ret v) => EP X pins σ Q v s' | .ok _ => False | .error er => X.xe er s' := by
  cases r with
  | error er => exact hx pins H s er s' I h
  | ok fl =>
    cases fl with
    | ret u => exact h
    | next => exact h
    | brk => exact h
    | cont => exact h
theorem make_runS (M : Mk X.K C f) (F : FnOk X.prog X.w X.K X.mg X.base CXf k f fd ps sp) (hr : Room (k + 1) X.A) (hb : Binds X.K fd ps []) (hx : PassesAt CXf X σ (E σ)) (I : L2.Inv X pins σ H s) (rv : Vals vs us)
    (h : ∀ x dx, H x = none → H dx = none → dx ≠ x → sp (.ref x :: vs) (upd (upd H dx (.own x)) x (.ins C dx [])) (fun v H2 => v = .non ∧ Q (.ref x) H2) (E σ)) : wpAny (model X.prog X.w) X.A (call (.ref C) us) (EP X pins σ Q) X.xe s := by
  have big : s.heap.objs.size ≤ s.heap.objs.size + 1 := Nat.le_succ _
  have asked := h (s.heap.objs.size + 1) s.heap.objs.size (I.hok.fresh big) (I.hok.fresh (Nat.le_refl _)) (Nat.ne_of_lt (Nat.lt_succ_self _))
  have J := Inv.made (C := C) I
  have rs : Vals (V.ref (s.heap.objs.size + 1) :: vs) (Value.ref (s.heap.objs.size + 1) :: us) := .cons rfl rv
  have len : (Value.ref (s.heap.objs.size + 1) :: us ++ []).length = ps.length := by
    rw [List.append_nil, ← rs.length]
    exact F.len _ _ _ _ asked
  have env := J.env0.make C us []
  have bind := hb _ (Value.ref (s.heap.objs.size + 1) :: us) J.kIn len
  rw [List.append_nil] at bind
  refine wpAny_call (make_map (f := f) I.kIn M.makes M.init (beq_iff_eq.mp M.fn) (codeAny_mono (F.run _ X.stack _ _ ⟨Value.ref (s.heap.objs.size + 1) :: us, []⟩ (Value.ref (s.heap.objs.size + 1) :: us) _ _ (E σ) (hr.make C us []) env bind rs asked) fun r s' z => ?_))
  cases r with
  | error er => exact hx pins _ _ er s' J z
  | ok fl =>
    cases fl with
    | ret u =>
      obtain ⟨v, H', I3, rv3, ev, q3⟩ := J.after z
      subst ev
      exact ⟨rv3, .ref (s.heap.objs.size + 1), H', I3, rfl, q3⟩
    | next => exact z.elim
    | brk => exact z.elim
    | cont => exact z.elim
def tMakeS (C : Addr) (sp : Sp) (E : L2.St → XK) (t : TA) : TE := fun σ H Q => t σ H fun vs H1 => ∀ x dx, H1 x = none → H1 dx = none → dx ≠ x → sp (.ref x :: vs) (upd (upd H1 dx (.own x)) x (.ins C dx [])) (fun v H2 => v = .non ∧ Q (.ref x) H2) (E σ)
/-- C(e, ..), C a name of the module -/
theorem pe_makeS (M : Mk X.K C f) (F : FnOk X.prog X.w X.K X.mg X.base CXf k f fd ps sp) (hr : Room (k + 1) X.A) (hg : Gl X x) (hm : X.mg x = some (.ref C)) (hb : Binds X.K fd ps []) (hx : ∀ σ, PassesAt CXf X σ (E σ)) (ha : PA X (e :: es) t)
    (dbg : (x == ("__debug__" : Str)) = false := by decide) (st : starEach (e :: es) X.env = (false, eval e X.env) :: starEach es X.env := by rfl) (pl : (backTo pos (starEach es X.env)).any (·.1) = false := by rfl) :
    PE X (.Call (.Name x p) (e :: es) [] pos) (tMakeS C sp E t) := by
  refine ⟨fun pins s σ H Q I h => wpAny_Call_Name_kw (ld_glob I hg hm ?_ dbg)⟩
  refine PySem.W.callWith_K (h₀ := X.base) I.ok.mod.kin M.kp (thn (ha.run pos pins s σ H _ I h) fun us s1 ⟨vs, H1, I1, rv, q⟩ => ⟨I1.kIn, ?_⟩) st pl
  exact make_runS M F hr hb (hx σ) I1 rv q
def tMakeV (i : Nat) (C : Addr) (sp : Sp) (E : L2.St → XK) (t : TA) : TE := fun σ H Q => σ[i]? = some (some (.ref C)) ∧ tMakeS C sp E t σ H Q
/-- c(e, ..), the class at C in slot i -/
theorem pe_makeV {i : Nat} (M : Mk X.K C f) (F : FnOk X.prog X.w X.K X.mg X.base CXf k f fd ps sp) (hr : Room (k + 1) X.A) (hN : X.N[i]? = some x) (hv : Vis X.env.scope x) (hb : Binds X.K fd ps []) (hx : ∀ σ, PassesAt CXf X σ (E σ)) (ha : PA X (e :: es) t)
    (dbg : (x == ("__debug__" : Str)) = false := by decide) (hcd : (x == ("__classdict__" : Str)) = false := by decide) (st : starEach (e :: es) X.env = (false, eval e X.env) :: starEach es X.env := by rfl) (pl : (backTo pos (starEach es X.env)).any (·.1) = false := by rfl) :
    PE X (.Call (.Name x p) (e :: es) [] pos) (tMakeV i C sp E t) := by
  refine ⟨fun pins s σ H Q I ⟨hs, h⟩ => ?_⟩
  refine wpAny_Call_Name_kw (thn ((pe_var (pos := p) hN hv dbg hcd).run pins s σ H (fun v H1 => v = .ref C ∧ H1 = H) I ⟨.ref C, hs, rfl, rfl⟩) fun u s0 ⟨v, H0, I0, r0, ev, eh⟩ => ?_)
  subst ev eh
  obtain rfl : u = Value.ref C := r0
  refine PySem.W.callWith_K (h₀ := X.base) I.ok.mod.kin M.kp (thn (ha.run pos pins s0 σ _ _ I0 h) fun us s1 ⟨vs, H1, I1, rv, q⟩ => ⟨I1.kIn, ?_⟩) st pl
  exact make_runS M F hr hb (hx σ) I1 rv q
def tMethE (C : Addr) (m : Str) (sp : Sp) (E : L2.St → XK) (ta : TE) (t : TA) : TE := fun σ H Q => ta σ H fun x H1 => ∃ a dx fs, x = .ref a ∧ H1 a = some (.ins C dx fs) ∧ fs.lookup m = none ∧ t σ H1 fun vs H2 => sp (x :: vs) H2 Q (E σ)
/-- o.m(e, ..) -/
theorem pe_methE {pl : Sem Bool} (he : PE X o ta) (c : L2.Cls X.K C) (hm : Meth X.K C m f) (F : FnOk X.prog X.w X.K X.mg X.base CXf k f fd ps sp) (hr : Room k X.A) (hb : Binds X.K fd ps []) (hx : ∀ σ, PassesAt CXf X σ (E σ)) (ha : PA X (e :: es) t)
    (st : starEach (e :: es) X.env = (false, eval e X.env) :: starEach es X.env := by rfl) (pl2 : (backTo pos (starEach es X.env)).any (·.1) = false := by rfl)
    (ht : eval (.Call (.Attribute o m apos) (e :: es) [] pos) X.env = (do
      let ov ← eval o X.env
      standAt apos.atName
      let (f, first) ← holding [ov] (getMethod ov m pl)
      callWith pos f first (backTo pos (starEach (e :: es) X.env)) (backToKw pos (keywordEach [] X.env))) := by rfl) :
    PE X (.Call (.Attribute o m apos) (e :: es) [] pos) (tMethE C m sp E ta t) := by
  refine ⟨fun pins s σ H Q I h => PySem.W.methodCall_KW (pl := pl) (thn (he.run pins s σ H _ I h) fun u s1 ⟨x, H1, I1, rx, a, dx, fs, ex, ea, l, q⟩ => ?_) ht⟩
  subst ex
  obtain rfl : u = Value.ref a := rx
  refine getmeth_ok I1 ea c hm l (PySem.W.callWith_K (first := [.ref a]) (h₀ := X.base) I.ok.mod.kin hm.kp (thn (ha.run pos pins s1 σ H1 _ I1 q) fun us s2 ⟨vs, H2, I2, rv, q2⟩ => ⟨I2.kIn, ?_⟩) st pl2)
  exact run_fnS (us := .ref a :: us) (vs := .ref a :: vs) F hr hb (hx σ) I2 (.cons rfl rv) q2
/-! ### a classmethod -/
open ClX in
def tCMethE (C : Addr) (sp : Sp) (E : L2.St → XK) (ta : TE) (t : TA) : TE := fun σ H Q => ta σ H fun x H1 => x = .ref C ∧ t σ H1 fun vs H2 => sp (.ref C :: vs) H2 Q (E σ)
open ClX in
theorem run_cmE {q g : Addr} (F : FnR X.prog X.w X.K X.mg X.base CXf k g sp) (hr : Room k X.A) (hx : PassesAt CXf X σ (E σ)) (I : L2.Inv X ((q, PySem.W.methodObj (.ref g) (.ref C)) :: pins) σ H s)
    (rv : Vals vs us) (h : sp (.ref C :: vs) H Q (E σ)) : wpAny (model X.prog X.w) X.A (call (.ref q) us) (EP X pins σ Q) X.xe s := by
  have go : wpAny (model X.prog X.w) X.A (call (.ref q) us) (EP X ((q, PySem.W.methodObj (.ref g) (.ref C)) :: pins) σ Q) X.xe s := by
    refine wpAny_call (PySem.W.method_call (pin_at I) (codeAny_mono (F X.A X.stack s H (.ref C :: us) (.ref C :: vs) Q (E σ) hr I.env0 (.cons rfl rv) h) fun r s' z => ?_))
    cases r with
    | error er => exact hx _ H s er s' I z
    | ok fl =>
      cases fl with
      | ret u => exact I.after z
      | next => exact z.elim
      | brk => exact z.elim
      | cont => exact z.elim
  exact thn go fun _ _ y => unpinE y
open ClX in
theorem pe_cmethE {g c : Addr} {mc : Value} {pl : Sem Bool} (he : PE X o ta) (r : CRead X.K C mc) (cm : CMet X.K C mc m c g) (F : FnR X.prog X.w X.K X.mg X.base CXf k g sp) (hr : Room k X.A) (hx : ∀ σ, PassesAt CXf X σ (E σ)) (ha : PA X (e :: es) t)
    (st : starEach (e :: es) X.env = (false, eval e X.env) :: starEach es X.env := by rfl) (pl2 : (backTo pos (starEach es X.env)).any (·.1) = false := by rfl)
    (ht : eval (.Call (.Attribute o m apos) (e :: es) [] pos) X.env = (do
      let ov ← eval o X.env
      standAt apos.atName
      let (f, first) ← holding [ov] (getMethod ov m pl)
      callWith pos f first (backTo pos (starEach (e :: es) X.env)) (backToKw pos (keywordEach [] X.env))) := by rfl) :
    PE X (.Call (.Attribute o m apos) (e :: es) [] pos) (tCMethE C sp E ta t) := by
  refine ⟨fun pins s σ H Q I h => PySem.W.methodCall_KW (pl := pl) (thn (he.run pins s σ H _ I h) fun u s1 ⟨x, H1, I1, rx, ex, q⟩ => ?_) ht⟩
  subst ex
  obtain rfl : u = Value.ref C := rx
  refine getmethcm_ok I1 r cm fun s2 I2 => ?_
  refine callwith_cm I2 (base_none I1 (Nat.le_refl _)) cm.fi (thn (ha.run pos _ s2 σ H1 _ I2 q) fun us s3 ⟨vs, H2, I3, rv, q2⟩ => ⟨⟨pin_at I3, I3.kIn⟩, ?_⟩) st pl2
  exact run_cmE F hr (hx σ) I3 rv q2
end
end Pm
namespace Pm
open PySem PySem.Spec PyProof.Rows L2 SX
/-! ### texts of different signs; their order -/
/-- the built-ins and constants that rules ask for besides -/
structure STxt (K : PySem.W.Frag) (mg : Str → Option Value) : Prop where
  set : mg "set" = none
  srt : mg "sorted" = none
/-- the signs in order -/
def asc (z : List Nat) : List Nat := z.mergeSort fun a b => decide (a ≤ b)
theorem asc_perm (z : List Nat) : (asc z).Perm z := List.mergeSort_perm _ _
theorem asc_le (z : List Nat) : (asc z).Pairwise (· ≤ ·) := by
  have h := List.pairwise_mergeSort (le := fun a b : Nat => decide (a ≤ b)) (fun a b c h1 h2 => decide_eq_true (Nat.le_trans (of_decide_eq_true h1) (of_decide_eq_true h2))) (fun a b => by
    rcases Nat.le_total a b with h | h
    · simp [h]
    · simp [h]) z
  exact h.imp fun e => of_decide_eq_true e
theorem two_sorted : ∀ {l m : List Nat}, l.Perm m → l.Pairwise (· ≤ ·) → m.Pairwise (· ≤ ·) → l = m
  | [], m, p, _, _ => (List.Perm.nil_eq p)
  | a :: l, [], p, _, _ => absurd p.length_eq (by simp)
  | a :: l, b :: m, p, h1, h2 => by
    have ha := List.pairwise_cons.mp h1
    have hb := List.pairwise_cons.mp h2
    have ab : a = b := by
      have m1 : a ∈ b :: m := p.mem_iff.mp List.mem_cons_self
      have m2 : b ∈ a :: l := p.mem_iff.mpr List.mem_cons_self
      rcases List.mem_cons.mp m1 with e | e
      · exact e
      · rcases List.mem_cons.mp m2 with e2 | e2
        · exact e2.symm
        · exact Nat.le_antisymm (ha.1 b e2) (hb.1 a e)
    subst ab
    rw [two_sorted (p.cons_inv) ha.2 hb.2]
theorem asc_of {ys z : List Nat} (p : ys.Perm z) (h : ys.Pairwise (· ≤ ·)) : ys = asc z := two_sorted (p.trans (asc_perm z).symm) h (asc_le z)
theorem joinL_one : ∀ z : List Nat, TL.joinL [] (z.map fun c => [c]) = z
  | [] => rfl
  | [c] => rfl
  | c :: d :: z => congrArg (c :: ·) (joinL_one (d :: z))
theorem sum_one : ∀ z : List Nat, (z.map fun _ => 1).sum = z.length
  | [] => rfl
  | c :: z => by
    rw [List.map_cons, List.sum_cons, sum_one z, List.length_cons, Nat.add_comm]
theorem join_ones (z : List Nat) : Txt.join ("" : Str) (ones z) = S z := by
  have e : ("" : Str) = S [] := by decide +kernel
  have e2 : ones z = (z.map fun c => [c]).map S := by unfold ones; rw [List.map_map]; rfl
  rw [e, e2, join_S]
  exact congrArg S (joinL_one z)
def diffB (b : Nat) (z : List Nat) : Bool := (decide (z ≠ []) && decide z.Nodup) && z.all fun c => decide (c = b) || decide (Let c)
section
variable {P : Program} {w : World} {K : PySem.W.Frag} {mg : Str → Option Value} {base : Heap} {C : Addr}
def spAsc : Sp := fun vs H Q _ => ∃ z, vs = [.str (S z)] ∧ z.length ≤ 1000 ∧ ∀ H', Same H H' → Q (.str (S (asc z))) H'
theorem scAsc : FnScope ["signs"] ["signs"] (defScope gInAsciiOrder) := ⟨rfl, rfl, rfl, by decide +kernel, rfl, by decide +kernel, by decide +kernel⟩
theorem ok_asc {f : Addr} {fd : FuncData} (F : Fun K "in_ascii_order" "in_ascii_order" gInAsciiOrder f fd) (R : STxt K mg) : FnOk P w K mg base CX0 1 f fd ["signs"] spAsc := by
  refine F.ok scAsc (fun vs H Q E h => ?_) (fun cdv A outer s H vs Q E hr h => ?_)
  · obtain ⟨z, rfl, _⟩ := h
    rfl
  · obtain ⟨z, rfl, few, k⟩ := h
    refine ⟨_, pss_one (ps_ret (pe_join pe_str (pe_callB (cr_sortedTx rfl) (by rfl) R.srt (by decide +kernel) (pa_cons (pv 0) pa_nil)))), ?_⟩
    refine ⟨⟨_, rfl⟩, _, rfl, z, rfl, few, fun ys p pm pw np => ⟨_, p, ones ys, rfl, rfl, .inl (SqL.of upd_same), ?_, ?_⟩⟩
    · have e : ((ones ys).map (·.length)).sum = ys.length := by
        unfold ones
        rw [List.map_map]
        have : ((fun x : Str => x.length) ∘ fun c => S [c]) = fun _ => 1 := by
          funext c
          exact S_len [c]
        rw [this]
        exact sum_one ys
      rw [e]
      have := pm.length_eq
      show ys.length + (ones ys).length * 0 ≤ 16777216
      omega
    · rw [join_ones, asc_of pm pw]
      exact k _ (same_upd np)
def spDiff : Sp := fun vs H Q _ => ∃ z b, vs = [.str (S z), .str (S [b])] ∧ z.length ≤ 1000 ∧ ∀ H', Same H H' → Q (.bl (diffB b z)) H'
abbrev nDiff : List Str := ["signs", "besides", "sign"]
theorem scDiff : FnScope nDiff ["signs", "besides"] (defScope gAreDifferentSigns) := ⟨rfl, rfl, rfl, by decide +kernel, rfl, by decide +kernel, by decide +kernel⟩
theorem ok_differ {f g : Addr} {fd gd : FuncData} (F : Fun K "are_different_signs" "are_different_signs" gAreDifferentSigns f fd) (G : Cl P w K mg base CX0 1 "is_stone" ["sign"] spStone g gd) (L : LTxt K mg) (T : PTxt K mg C) (R : STxt K mg) :
    FnOk P w K mg base CX0 2 f fd ["signs", "besides"] spDiff := by
  refine F.ok scDiff (fun vs H Q E h => ?_) (fun cdv A outer s H vs Q E hr h => ?_)
  · obtain ⟨z, b, rfl, _⟩ := h
    rfl
  · obtain ⟨z, b, rfl, few, k⟩ := h
    refine ⟨_, pss_cons (ps_if (PW.pt (pw_or (pt_cmpR op_eq (pv 0) pe_str (nomark _)) (pw_or1 (pt_cmpR op_lt (pe_lenSetS (by rfl) L.len (by rfl) R.set (pv 0)) (pe_callB call_len_str (by rfl) L.len PySem.boot_len (pa_cons (pv 0) pa_nil)) (nomark _))))) (pss_one (ps_ret pe_bl)) pss_nil)
      (pss_one (ps_ret (pe_callB (cr_all rfl) (by rfl) T.all (by decide +kernel) (pa_cons (pe_lc (own := [("sign", 2)]) (g := gName 2) (tt := tYes) rfl scDiff.nd (pi_str (pv 0)) (blkOk_by (N := nDiff) (sc := defScope gAreDifferentSigns) (by decide +kernel)) (fun _ _ _ _ _ => pg_name (i := 2) scDiff.nd rfl (.inl rfl)) (fun _ _ _ _ _ => pts_nil)
        (fun _ _ _ _ _ => pe_or (pe_cmpR op_eq (pv 2) (pv 1) (nomark _)) (pe_one (pe_call G.ok hr (by rfl) G.gl G.kp G.bd .nil pass0 (pa_cons (pv 2) pa_nil))))) pa_nil)))), ?_⟩
    have line : (S z).length ≤ sizeLine := by rw [len_S]; exact small_line few
    have emp : ("" : Str) = S [] := by decide +kernel
    refine ⟨_, rfl, rfl, _, rfl, ?_⟩
    by_cases e0 : z = []
    · refine iteTe (decide_eq_true (by rw [e0, emp])) (iteT ?_)
      have q := k H (Same.refl H)
      rw [show diffB b z = false by unfold diffB; rw [e0]; rfl] at q
      exact q
    · refine iteFe (decide_eq_false fun y => e0 ?_) ⟨_, rfl, z, rfl, few, fun n nl nd => ⟨_, rfl, _, rfl, line, _, _, rfl, rfl, _, rfl, ?_⟩⟩
      · simp only [V.str.injEq] at y
        rw [emp] at y
        exact S_inj y
      by_cases e1 : z.Nodup
      · refine iteFe (decide_eq_false (by rw [len_S, nd.mpr e1]; omega)) ?_
        have dB : diffB b z = z.all fun c => decide (c = b) || decide (Let c) := by
          unfold diffB
          rw [decide_eq_true e0, decide_eq_true e1]
          rfl
        refine ⟨_, rfl, _, rfl, fun D nD => lc_it walk_str (fun i G => Same H G ∧ G D = some (.lst (((z.take i).map fun c => decide (c = b) || decide (Let c)).map V.bl))) ⟨same_upd nD, upd_same⟩ (fun _ _ _ _ => trivial) ?_ ?_⟩
        · rintro i x G G' hi ⟨sG, hD⟩ ⟨rfl, d, gd, rfl⟩
          have gd2 : z[i]? = some d := by
            have y : z.toArray[i]? = some d := gd
            rwa [List.getElem?_toArray] at y
          have last : ∀ v : Bool, v = (decide (d = b) || decide (Let d)) → ∃ xs, G' D = some (.lst xs) ∧ xs.length < sizeLine ∧ Same H (upd G' D (.lst (xs ++ [.bl v]))) ∧ upd G' D (.lst (xs ++ [.bl v])) D = some (.lst (((z.take (i + 1)).map fun c => decide (c = b) || decide (Let c)).map V.bl)) := fun v ev => by
            refine ⟨_, hD, ?_, fun a o e => ?_, ?_⟩
            · rw [List.length_map, List.length_map, List.length_take]
              exact small1000 (by omega)
            · rw [upd_ne (ne_of_none e nD)]
              exact sG a o e
            · rw [upd_same, List.take_add_one, gd2, ev]
              simp
          refine ⟨rfl, tyes (iteT ⟨_, rfl, _, rfl, rfl, _, rfl, ?_⟩)⟩
          by_cases e2 : d = b
          · refine iteTe (decide_eq_true (by rw [e2])) ?_
            exact last true (by rw [decide_eq_true e2]; rfl)
          · refine iteFe (decide_eq_false fun y => e2 ?_) ⟨_, rfl, [d], rfl, (show 1 ≤ 1000 by decide), ?_⟩
            · simp only [V.str.injEq] at y
              have := S_inj (a := [d]) (b := [b]) y
              simpa using this
            · exact last _ (by rw [decide_eq_false e2]; rfl)
        · rintro G ⟨sG, hD⟩
          have e3 : (S z).cps.size = z.length := by simp
          rw [e3, List.take_of_length_le (Nat.le_refl _)] at hD
          refine ⟨D, _, rfl, SqL.of hD, ?_⟩
          have q := k G sG
          rw [dB, show (z.all fun c => decide (c = b) || decide (Let c)) = (z.map fun c => decide (c = b) || decide (Let c)).all id by rw [List.all_map]; rfl] at q
          exact q
      · refine iteTe (decide_eq_true ?_) ?_
        · rw [len_S]
          have : n ≠ z.length := fun y => e1 (nd.mp y)
          omega
        · have q := k H (Same.refl H)
          rw [show diffB b z = false by unfold diffB; rw [decide_eq_false e1, Bool.and_false]; rfl] at q
          exact q
end
end Pm
namespace Pm
open PySem PySem.Spec PyProof.Rows L2 SX
/-! ### a tuple of ints in a set of such: asked for -/
section
variable {P : Program} {w : World} {A : Around} {E : Value → Shared → Prop} {s : Shared} {a : Addr} {L : List (Addr × List Int)} {es : Array (Int × Value)} {ep : Nat} {t : SetTable}
/-- where the way of the key k begins -/
abbrev way0 (P : Program) (w : World) (t : SetTable) (k : List Int) : SetTable.Probe := runAt t.mask (SetTable.bits (thash P w k) % (t.mask + 1)) (SetTable.bits (thash P w k))
theorem no_dummy (m : Nat) : ∀ (n : Nat) (p : SetTable.Probe), p.dummy = none → (nth m p n).dummy = none
  | 0, _, h => h
  | n + 1, p, h => no_dummy m n (adv m p) (by unfold adv; split <;> exact h)
/-- the whole search from step c of the way on; K: its first empty place; no entry with this key has been passed -/
theorem ask_from (R : SetTR P w s.heap a L es ep t) {x : Addr} {k : List Int} (hx : L2.IsT P w s.heap k x) (hu : A.units < cLine) {K : Nat} (few : K < 10 * SetTable.turns t.mask)
    (emp : way t.mask (thash P w k) K ∉ t.place.toList) (full : ∀ c, c < K → way t.mask (thash P w k) c ∈ t.place.toList) {Q : SetFound → Shared → Prop}
    (yes : k ∈ L.map (·.2) → ∀ i, Q (.there (some i)) s) (no : k ∉ L.map (·.2) → ∀ j, Q (.free j false) s) :
    ∀ (f c : Nat) (stand : Option SetTable.Probe), stand.getD (t.probeStart (thash P w k)) = nth t.mask (way0 P w t k) c → c ≤ K → K < f + c →
      (∀ (i : Nat) p, L[i]? = some p → p.2 = k → ∃ c', c ≤ c' ∧ c' < K ∧ t.place.toList[i]? = some (way t.mask (thash P w k) c')) →
      wpAny (model P w) A (setSearchFrom a (.ref x) (thash P w k) false f stand) Q E s := by
  intro f
  induction f with
  | zero =>
    intro c stand _ h1 h2
    omega
  | succ f ih =>
    intro c stand est cK fK ahead
    obtain ⟨o, ho, _, hd⟩ := R.ob
    have step : ∀ q, (nth t.mask (nth t.mask (way0 P w t k) c) q).j = way t.mask (thash P w k) (c + q) := fun q => congrArg SetTable.Probe.j (nth_add t.mask c _ q).symm
    have ent : ∀ (i : Nat) p, L[i]? = some p → ((es[i]?.map (·.1)).getD 0) = thash P w p.2 := fun i p hp => by rw [R.entry hp]; rfl
    have sp := go_spec t R.tab.ris R.tab.dm (fun i => (es[i]?.map (·.1)).getD 0) (thash P w k) (10 * SetTable.turns t.mask) (K - c) (nth t.mask (way0 P w t k) c) (no_dummy _ _ _ rfl) (by omega)
      (fun q hq => by rw [step]; exact full _ (by omega)) (by rw [step, Nat.add_sub_cancel' cK]; exact emp)
    -- an entry ahead, seen from behind step q
    have later : ∀ (q : Nat) (i0 : Nat) p0, (∀ (k' i' : Nat), k' < q → t.place.toList[i']? = some (nth t.mask (nth t.mask (way0 P w t k) c) k').j → ((es[i']?.map (·.1)).getD 0) ≠ thash P w k) → L[i0]? = some p0 → p0.2 = k →
        ∃ c', c + q ≤ c' ∧ c' < K ∧ t.place.toList[i0]? = some (way t.mask (thash P w k) c') := fun q i0 p0 none_ h0 e0 => by
      obtain ⟨c', b1, b2, b3⟩ := ahead i0 p0 h0 e0
      refine ⟨c', Nat.le_of_not_lt fun lt => ?_, b2, b3⟩
      refine none_ (c' - c) i0 (by omega) (by rw [step, Nat.add_sub_cancel' b1]; exact b3) ?_
      rw [ent i0 p0 h0, e0]
    rw [setSearchFrom_succ]
    refine wpAny_bind (wpAny_setState_of ho hd R.fits ?_)
    dsimp only
    refine wp_if_neg R.gw ?_
    try refine wpAny_bind (wpAny_pure ?_)
    rcases sp with ⟨q, i, qK, at_, _, none_, met⟩ | ⟨none_, met⟩
    · have met2 : t.probe (fun i => (es[i]?.map (·.1)).getD 0) (thash P w k) (stand.getD (t.probeStart (thash P w k))) = some (.candidate (way t.mask (thash P w k) (c + q)) i (nth t.mask (way0 P w t k) (c + (q + 1)))) := by
        rw [est, ← step, nth_add t.mask c (way0 P w t k) (q + 1)]
        exact met
      rw [met2]
      dsimp only
      rw [step] at at_
      have iL : i < L.length := by
        have z := (List.getElem?_eq_some_iff.mp at_).1
        have y := R.tab.sz
        rw [List.length_map] at y
        rw [Array.length_toList] at z
        omega
      obtain ⟨p, hp⟩ : ∃ p, L[i]? = some p := ⟨_, List.getElem?_eq_getElem iL⟩
      have pL := List.mem_of_getElem? hp
      have live : t.slot (way t.mask (thash P w k) (c + q)) = .live i := slot_live R.tab.ris at_
      have go : wpAny (model P w) A (searchRest a (.ref x) (thash P w k) false f es t (way t.mask (thash P w k) (c + q)) i (nth t.mask (way0 P w t k) (c + (q + 1)))) Q E s := by
        unfold searchRest
        rw [R.entry hp]
        dsimp only
        refine wpAny_bind (wpAny_holding (wpAny_eqBool_tuple hu (R.tup p pL) hx (wpAny_bind (wpAny_setState_of ho hd R.fits ?_))))
        dsimp only
        refine wp_if_neg (by simp) ?_
        try refine wpAny_bind (wpAny_pure ?_)
        rw [sameMem]
        dsimp only
        simp only [if_true, live, R.entry hp]
        refine wpAny_bind (wpAny_isSame_ref_self (wpAny_bind (wpAny_pure ?_)))
        simp only [if_true]
        by_cases e : p.2 = k
        · exact wp_if_pos (by simp [e]) (wpAny_pure (yes (List.mem_map.mpr ⟨p, pL, e⟩) i))
        · refine wp_if_neg (by simp [e]) (ih (c + (q + 1)) _ rfl (by omega) (by omega) fun i0 p0 h0 e0 => ?_)
          obtain ⟨c', b1, b2, b3⟩ := later q i0 p0 none_ h0 e0
          refine ⟨c', ?_, b2, b3⟩
          rcases Nat.lt_or_eq_of_le b1 with lt | eq
          · omega
          · rw [← eq] at b3
            have z := slot_live R.tab.ris b3
            rw [live] at z
            injection z with z
            rw [← z, hp] at h0
            cases h0
            exact absurd e0 e
      by_cases led : t.led = true
      · refine wp_if_neg (by simp [led]) ?_
        try refine wpAny_bind (wpAny_pure ?_)
        exact go
      · refine wp_if_pos (by simp [led]) (wpAny_bind (seen_tup hx (fun y hy => ?_) ?_))
        · obtain ⟨en, hen, rfl⟩ := List.mem_map.mp hy
          have m : en ∈ es.toList := by
            have z : en ∈ es ∧ en.1 = thash P w k := by simpa using hen
            simpa using z.1
          rw [R.rows] at m
          obtain ⟨p2, m2, rfl⟩ := List.mem_map.mp m
          exact ⟨p2.2, p2.1, rfl, R.tup p2 m2⟩
        · refine wp_if_neg (by decide) ?_
          try refine wpAny_bind (wpAny_pure ?_)
          exact go
    · have met2 : t.probe (fun i => (es[i]?.map (·.1)).getD 0) (thash P w k) (stand.getD (t.probeStart (thash P w k))) = some (.empty (nth t.mask (nth t.mask (way0 P w t k) c) (K - c)).j none) := by
        rw [est]
        exact met
      rw [met2]
      dsimp only
      refine wpAny_pure (no (fun m => ?_) _)
      obtain ⟨p0, m0, e0⟩ := List.mem_map.mp m
      obtain ⟨i0, h0⟩ := List.mem_iff_getElem?.mp m0
      obtain ⟨c', b1, b2, _⟩ := later (K - c) i0 p0 none_ h0 e0
      omega
theorem find_tup (R : SetTR P w s.heap a L es ep t) {x : Addr} {k : List Int} (hx : L2.IsT P w s.heap k x) (hu : A.units < cLine) {Q : Option Nat → Shared → Prop} (yes : k ∈ L.map (·.2) → ∀ i, Q (some i) s) (no : k ∉ L.map (·.2) → Q none s) :
    wpAny (model P w) A (setFind a (.ref x) (thash P w k)) Q E s := by
  obtain ⟨o, ho, _, hd⟩ := R.ob
  have room := R.room
  obtain ⟨K, few, emp, full⟩ := R.tab.first (by rw [List.length_map]; omega) (thash P w k)
  have small : K < 100000 := by
    have : 10 * SetTable.turns t.mask ≤ 1420 := by
      unfold SetTable.turns
      rcases R.tab.mok with e | e | e <;> omega
    omega
  show wpAny _ _ (setFindIn a (.ref x) (thash P w k) (99999 + 1)) Q E s
  unfold setFindIn
  refine wpAny_bind (wpAny_setState_of ho hd R.fits ?_)
  dsimp only
  refine wp_if_neg (by simp [byScan, Value.scannable]) ?_
  try refine wpAny_bind (wpAny_pure ?_)
  refine wpAny_bind ?_
  unfold setSearch
  refine ask_from R hx hu few emp full (fun m i => ?_) (fun m j => ?_) 100000 0 none rfl (Nat.zero_le _) (by omega) fun i p hp e => ?_
  · exact wpAny_pure (yes m i)
  · exact wpAny_pure (no m)
  · have hi : (L.map fun p => thash P w p.2)[i]? = some (thash P w k) := by rw [List.getElem?_map, hp, ← e]; rfl
    have il : i < t.place.toList.length := by
      have z := (List.getElem?_eq_some_iff.mp hp).1
      have y := R.tab.sz
      rw [List.length_map] at y
      rw [Array.length_toList]
      omega
    obtain ⟨c, hc, ec⟩ := R.tab.before emp hi (List.getElem?_eq_getElem il)
    exact ⟨c, Nat.zero_le _, hc, by rw [List.getElem?_eq_getElem il, ec]⟩
end
end Pm
namespace Pm
open PySem PySem.Spec PyProof.Rows L2 SX
section
variable {P : Program} {w : World} {A : Around} {E : Value → Shared → Prop} {s : Shared} {a : Addr} {L : List (Addr × List Int)} {es : Array (Int × Value)} {ep : Nat} {t : SetTable}
theorem in_tup (R : SetTR P w s.heap a L es ep t) {x : Addr} {k : List Int} (hx : L2.IsT P w s.heap k x) (hu : A.units + 1 < cLine) {Q : Value → Shared → Prop}
    (h : ∀ tk, Q (.bool (decide (k ∈ L.map (·.2)))) { s with toks := tk }) : wpAny (model P w) A (compareOp .In (.ref x) (.ref a)) Q E s := by
  obtain ⟨o, ho, hex, hd⟩ := R.ob
  have hT : s.TypeIs (.ref a) "set" := ⟨o, ho, hex.1⟩
  show wpAny _ _ (do return .bool (← contains (.ref a) (.ref x))) Q E s
  refine wpAny_bind ?_
  unfold contains
  try with_reducible refine wpAny_holding ?_
  refine wpAny_bind (wpAny_specialOf hT F.slot_set_contains.lookup ?_)
  refine wp_if_neg (by rw [beq_builtin_none]; exact Bool.false_ne_true) ?_
  refine wpAny_bind (wpAny_callSpecialUnlessNone?_slot (name := Str.ofString "__contains__") hT F.slot_set_contains (wpAny_call_entry F.slot_set_contains hT entry_set_contains ?_ (F.args_set_contains_2 _ _)))
  unfold Builtin.«frozenset.__contains__» Builtin.Frozenset.oneOther
  simp only [List.isEmpty_nil, bind_assoc]
  unfold Builtin.Frozenset.addrOf Builtin.Frozenset.withSetAsKey setContains
  iterate 2
    refine wpAny_bind (wpAny_pure ?_)
    try dsimp only
  refine wpAny_bind (wpAny_tryCatch (wpAny_holding ?_))
  refine wpAny_bind (wpAny_pyHash_tuple (by simpa using hu) hx ?_)
  have R2 : SetTR P w ({ s with toks := s.toks + (k.length + 1) } : Shared).heap a L es ep t := R
  have done : ∀ r : Option Nat, r.isSome = decide (k ∈ L.map (·.2)) → wpAny (model P w) A (ret (Value.bool r.isSome)) (fun f s' => f = .done (.ret (.bool (decide (k ∈ L.map (·.2))))) ∧ s' = { s with toks := s.toks + (k.length + 1) }) E { s with toks := s.toks + (k.length + 1) } := fun r e => wpAny_pure ⟨by rw [e], rfl⟩
  refine wpAny_bind (find_tup (s := { s with toks := s.toks + (k.length + 1) }) R2 hx (by simpa using hu) (fun m i => ?_) (fun m => ?_))
  · refine wpAny_pure ?_
    show wpAny _ _ (ret (Value.bool true)) _ _ _
    rw [show (true : Bool) = decide (k ∈ L.map (·.2)) from (decide_eq_true m).symm]
    exact wpAny_pure ⟨_, rfl, wpAny_truthy_bool (wpAny_pure (h _))⟩
  · refine wpAny_pure ?_
    show wpAny _ _ (ret (Value.bool false)) _ _ _
    rw [show (false : Bool) = decide (k ∈ L.map (·.2)) from (decide_eq_false m).symm]
    exact wpAny_pure ⟨_, rfl, wpAny_truthy_bool (wpAny_pure (h _))⟩
end
section
variable {X : Cx}
/-- t in d, d a set of tuples of ints -/
def rInT (K : PySem.W.Frag) (P : Program) (w : World) : V → V → Hp → VK → Prop := fun x y H Q => ∃ (t d : Addr) (k : List Int) (L : List (Addr × List Int)), x = .ref t ∧ y = .ref d ∧ SqT K H t (k.map V.int) ∧ H d = some (SetTO P w d L) ∧ (∀ p ∈ L, SqT K H p.1 (p.2.map V.int)) ∧ Q (.bl (decide (k ∈ L.map (·.2)))) H
theorem op_inT (hu : X.A.units + 1 < cLine) : OpR X (compareOp .In) (rInT X.K X.prog X.w) := by
  intro pins s σ H x y v u Q I rx ry h
  obtain ⟨t, d, k, L, rfl, rfl, ht, hd, hL, q⟩ := h
  cases rx
  cases ry
  have R0 : SetT0 X.prog X.w s.heap d L := (I.hok d _ hd).1
  obtain ⟨es, ep, tb, R⟩ := R0.full fun p hp => I.isT (hL p hp)
  exact in_tup R (I.isT ht) hu fun tk => ⟨.bl _, H, I.tok _, rfl, q⟩
/-- set(), to be filled with tuples of ints -/
def rSet0T (P : Program) (w : World) : List V → Hp → VK → Prop := fun xs H Q => xs = [] ∧ ∀ p, H p = none → Q (.ref p) (upd H p (SetTO P w p []))
theorem cr_set0T : CallR X (.type "set") (rSet0T X.prog X.w) := by
  intro pins s σ H xs us Q I r h
  obtain ⟨rfl, q⟩ := h
  cases r
  refine setR_new fun new => ?_
  have R : SetTR X.prog X.w (s.heap.push { cls := .type "set", dict := none, data := .set #[] 0 (.fresh 0 0 (!X.w.params.followText "set-order")) }) s.heap.objs.size [] #[] 0 (.fresh 0 0 (!X.w.params.followText "set-order")) := setTR_fresh (Heap.get?_push_size _ rfl)
  exact ⟨.ref _, upd H s.heap.objs.size (SetTO X.prog X.w s.heap.objs.size []), I.laid (t' := s.toks) (fun b u e => Heap.get?_push_of_some _ e) (Nat.le_refl _) (setTO_new R.t0), rfl, q _ (I.hok.fresh (Nat.le_refl _))⟩
/-- d.add(t) -/
def rAddT (K : PySem.W.Frag) (P : Program) (w : World) : V → List V → Hp → VK → Prop := fun x xs H Q => ∃ (d t : Addr) (k : List Int) (L : List (Addr × List Int)), x = .ref d ∧ xs = [.ref t] ∧ H d = some (SetTO P w d L) ∧ (∀ p ∈ L, SqT K H p.1 (p.2.map V.int)) ∧ SqT K H t (k.map V.int) ∧ L.length + 1 < 64 ∧
  ∀ L', (k ∈ L.map (·.2) → L' = L) → (k ∉ L.map (·.2) → L'.Perm ((t, k) :: L)) → Q .non (upd H d (SetTO P w d L'))
theorem call_addT {pins : List (Addr × Obj)} {σ : L2.St} {H : Hp} {s : Shared} {Q : VK} {x : V} {xs : List V} {u : Value} {us : List Value} (hu : X.A.units + 1 < cLine) (I : L2.Inv X pins σ H s) (rx : RelV x u) (rxs : Vals xs us) (h : rAddT X.K X.prog X.w x xs H Q) :
    wpAny (model X.prog X.w) X.A (call (.builtin "set.add") (u :: us)) (EP X pins σ Q) X.xe s := by
  obtain ⟨d, t, k, L, rfl, rfl, hd, hL, ht, few, q⟩ := h
  cases rx
  match rxs with
  | .cons ry .nil =>
    cases ry
    have R0 : SetT0 X.prog X.w s.heap d L := (I.hok d _ hd).1
    obtain ⟨es, ep, tb, R⟩ := R0.full fun p hp => I.isT (hL p hp)
    have hk : L2.IsT X.prog X.w s.heap k t := I.isT ht
    have hT : s.TypeIs (.ref d) "set" := by
      obtain ⟨o, ho, hx, _⟩ := R.ob
      exact ⟨o, ho, hx.1⟩
    refine wpAny_call_entry F.slot_set_add hT F.entry_set_add ?_ (F.args_set_add_2 _ _)
    unfold Builtin.«set.add» Builtin.Frozenset.oneOther
    simp only [bind_assoc, List.isEmpty_nil]
    unfold setAdd Builtin.Frozenset.addrOf
    iterate 2
      refine wpAny_bind (wpAny_pure ?_)
      try dsimp only
    refine wpAny_bind (wpAny_holding (wpAny_bind (wpAny_pyHash_tuple (by simpa using hu) hk ?_)))
    refine add_at (s := { s with toks := s.toks + (k.length + 1) }) R hk (by simpa using hu) few fun b h' L' es' ep' t' sb R2 c1 c2 => ?_
    show wpAny _ _ (ret Value.none) _ _ _
    have there : ∃ u, h'.get? d = some u := by
      obtain ⟨o, ho, _⟩ := R2.ob
      exact ⟨o, ho⟩
    exact wpAny_pure ⟨_, rfl, .non, _, I.write (e := d) (t' := s.toks + (k.length + 1)) (by rw [hd]; trivial) (.inl rfl) (fun b u hb q => (sb.2 b hb).trans q) there (setTO_new R2.t0), rfl, q L' c1 c2⟩
def tAddT (K : PySem.W.Frag) (P : Program) (w : World) (to : TE) (t : TA) : TE := fun σ H Q => to σ H fun x H1 => (∃ d L, x = V.ref d ∧ H1 d = some (SetTO P w d L) ∧ (∀ p ∈ L, SqT K H1 p.1 (p.2.map V.int))) ∧ t σ H1 fun xs H2 => rAddT K P w x xs H2 Q
variable {o e : Expr} {es : List Expr} {to : TE} {t : TA} {apos cpos : Pos}
theorem pe_addT (hu : X.A.units + 1 < cLine) (ho : PE X o to) (ha : PA X (e :: es) t)
    (hbase : attributeBase o "add" X.env (eval o X.env) = eval o X.env := by rfl)
    (hfew : ((backTo cpos (starEach (e :: es) X.env)).all (fun x => !x.1) && (backToKw cpos (keywordEach [] X.env)).all (fun x => x.1.isSome)
      && decide ((e :: es).length + ([] : List Keyword).length + (if ([] : List Keyword).isEmpty then 0 else 1) < 30)) = true := by rfl)
    (hline : (apos.endLine == cpos.line) = true := by rfl) (hs : starEach (e :: es) X.env = (false, eval e X.env) :: starEach es X.env := by rfl) (hplain : (backTo cpos (starEach es X.env)).any (·.1) = false := by rfl) :
    PE X (.Call (.Attribute o "add" apos) (e :: es) [] cpos) (tAddT X.K X.prog X.w to t) := by
  refine ⟨fun pins s σ H Q I h => ?_⟩
  refine wpAny_Call_method_late hbase hfew hline rfl (thn (ho.run pins s σ H _ I h) fun v s1 ⟨x, H1, I1, r1, ⟨d, L, ex, hd, hL⟩, q1⟩ => ?_)
  subst ex
  cases r1
  have R0 : SetT0 X.prog X.w s1.heap d L := (I1.hok d _ hd).1
  obtain ⟨es', ep, tb, R⟩ := R0.full fun p hp => I1.isT (hL p hp)
  obtain ⟨ob, hob, hex, hdat⟩ := R.ob
  have hT : s1.TypeIs (.ref d) "set" := ⟨ob, hob, hex.1⟩
  refine ⟨"set", "set.add", F.plainAttrs_set, F.slot_set_add, F.type_set_add, hT, (fun _ z => ?_), ?_⟩
  · cases z
    exact ⟨ob, hob, hex.2.1⟩
  have hA := ha.run cpos pins s1 σ H1 _ I1 q1
  rw [hs] at hA ⊢
  refine Calls.callWith_builtin (by show (false || (backTo cpos (starEach es X.env)).any (·.1)) = false; rw [hplain] <;> rfl) (Calls.evalArgs_plain ?_)
  exact thn hA fun us s2 ⟨vs, H2, I2, r2, q2⟩ => call_addT (x := .ref d) hu I2 rfl r2 q2
end
end Pm
namespace Pm
open PySem PySem.Spec PyProof.Rows L2 SX
/-! ### sorted of triples (int, int, text), no two of them with the same ints -/
/-- v is a tuple of the ints i, j and a text -/
def IsTrip (h : Heap) (v : Value) (i j : Int) (z : Str) : Prop := ∃ a o t u y n, v = .ref a ∧ h.get? a = some o ∧ o.cls = .type "tuple" ∧ o.data = .seq #[.int i t, .int j u, .str z y] n
theorem IsTrip.keeps {h h' : Heap} {v : Value} {i j : Int} {z : Str} (p : IsTrip h v i j z) (k : ∀ b o, h.get? b = some o → o.cls = .type "tuple" → h'.get? b = some o) : IsTrip h' v i j z := by
  obtain ⟨a, o, t, u, y, n, e, ho, hc, hd⟩ := p
  exact ⟨a, o, t, u, y, n, e, k _ _ ho hc, hc, hd⟩
section
variable {prog : Program} {w : World} {A : Around} {E : Value → Shared → Prop} {s : Shared}
theorem trip_cmp {vs : List Value} {k : Value → Int × Int} {tx : Value → Str} (hp : ∀ v ∈ vs, IsTrip s.heap v (k v).1 (k v).2 (tx v)) (hd : ∀ v ∈ vs, ∀ u ∈ vs, k v = k u → v = u) :
    SrtO.Cmp prog w A s (tuples' true) (fun p => p.1 ∈ vs) (SrtO.lt2 fun v u => SrtO.lexB (k v) (k u)) := by
  intro p q hm hm'
  have h1 := hp _ hm
  have h2 := hp _ hm'
  have same : (k p.1).1 = (k q.1).1 → (k p.1).2 = (k q.1).2 → tx p.1 = tx q.1 := fun a b => by rw [hd _ hm _ hm' (Prod.ext a b)]
  show wpAny (model prog w) A (keyLt' (tuples' true) p.1 q.1) (fun r s' => s' = s ∧ r = SrtO.lexB (k p.1) (k q.1)) (fun _ _ => False) s
  unfold SrtO.lexB
  generalize (k p.1).1 = x at h1 same ⊢
  generalize (k p.1).2 = y at h1 same ⊢
  generalize (k q.1).1 = x' at h2 same ⊢
  generalize (k q.1).2 = y' at h2 same ⊢
  generalize tx p.1 = z at h1 same
  generalize tx q.1 = z' at h2 same
  obtain ⟨a, o, t, u, y0, n, e, ho, hc, hd⟩ := h1
  obtain ⟨a', o', t', u', y0', n', e', ho', hc', hd'⟩ := h2
  rw [e, e']
  refine PySem.W.kat_lt ho hd ho' hd' ?_
  show PySem.W.KatLex prog w A true (decide (3 < 3)) _ [(.int x t, .int x' t'), (.int y u, .int y' u'), (.str z y0, .str z' y0')] 0 s
  refine PySem.W.kat_cons (SeqAt.EqAt.int_int x t x' t' prog w _ _ ?_)
  refine PySem.W.kat_go (fun e1 => ?_) (fun e1 => ?_)
  · have ex : x = x' := by simpa using e1
    refine PySem.W.kat_yes (PySem.W.kat_cons (SeqAt.EqAt.int_int y u y' u' prog w _ _ ?_))
    refine PySem.W.kat_go (fun e2 => ?_) (fun e2 => ?_)
    · have ey : y = y' := by simpa using e2
      have ez : z = z' := same ex ey
      have e3 : (if x = x' then decide (y < y') else decide (x < x')) = false := by
        rw [if_pos ex, ey]
        exact decide_eq_false (Int.lt_irrefl _)
      refine PySem.W.kat_yes (PySem.W.kat_cons (SeqAt.EqAt.str_str z y0 z' y0' prog w _ _ ?_))
      refine PySem.W.kat_go (fun _ => ?_) (fun e4 => ?_)
      · exact PySem.W.kat_yes (PySem.W.kat_nil ⟨rfl, e3.symm⟩)
      · rw [ez] at e4
        simp at e4
    · have e3 : (if x = x' then decide (y < y') else decide (x < x')) = decide (y < y') := if_pos ex
      refine PySem.W.kat_no (PySem.W.kat_one _ _ (PyProof.Rows.lt_int ?_))
      exact (show s = s ∧ decide (y < y') = (if x = x' then decide (y < y') else decide (x < x')) from ⟨rfl, e3.symm⟩)
  · have ex : ¬ x = x' := by simpa using e1
    have e3 : (if x = x' then decide (y < y') else decide (x < x')) = decide (x < x') := if_neg ex
    exact PySem.W.kat_no (oneLt_int ⟨rfl, e3.symm⟩)
theorem firsts3 {h : Heap} : ∀ {vs : List Value}, (∀ v ∈ vs, ∃ x y z, IsTrip h v x y z) → ∃ fs : List Value, PySem.W.KatTups h vs fs ∧ fs.length = vs.length ∧ ∀ f ∈ fs, ∃ x t, f = Value.int x t
  | [], _ => ⟨[], PySem.W.KatTups.nil, rfl, fun _ hm => by simp at hm⟩
  | v :: vs, hp => by
    obtain ⟨fs, h1, h2, h3⟩ := firsts3 (vs := vs) fun v' hm => hp v' (List.mem_cons_of_mem _ hm)
    obtain ⟨x, y, z, a, o, t, u, y0, n, e, ho, hc, hd⟩ := hp v (List.mem_cons_self ..)
    subst e
    refine ⟨.int x t :: fs, PySem.W.KatTups.cons ho hc hd rfl h1, by rw [List.length_cons, List.length_cons, h2], fun f hm => ?_⟩
    rcases List.mem_cons.mp hm with rfl | hm
    · exact ⟨x, t, rfl⟩
    · exact h3 f hm
theorem trips_sortable {a : Addr} {vs : List Value} {k : Value → Int × Int} {tx : Value → Str} (h0 : 0 < vs.length) (hp : ∀ v ∈ vs, IsTrip s.heap v (k v).1 (k v).2 (tx v)) (hd : ∀ v ∈ vs, ∀ u ∈ vs, k v = k u → v = u)
    (ha : ∀ o, s.heap.get? a = some o → o.cls ≠ .type "tuple") : SrtO.SortableO prog w A s a vs fun v u => SrtO.lexB (k v) (k u) := by
  intro h' keep
  have hp' : ∀ v ∈ vs, IsTrip h' v (k v).1 (k v).2 (tx v) := fun v hm => (hp v hm).keeps fun b o e c => keep b o (fun z => by subst z; exact ha o e c) e
  obtain ⟨fs, h1, h2, h3⟩ := firsts3 fun v hm => ⟨_, _, _, hp' v hm⟩
  refine ⟨tuples' true, fun Q E hq => ?_, trip_cmp hp' hd⟩
  refine PySem.W.kat_kind (T := .type "int") h1 (by omega) (fun f hm => ?_) (by rfl) ?_
  · obtain ⟨x, t, rfl⟩ := h3 f hm
    exact PySem.W.Looks.now
  · have e : (Value.type "int" != Value.type "tuple") = true := by first | decide +kernel | rfl | decide
    rw [e]
    exact hq
theorem sorted_trips {l : Addr} {vs : List Value} {k : Value → Int × Int} {tx : Value → Str} {Q : Value → Shared → Prop} (hl : s.heap.IsList l vs.toArray) (hz : vs.length ≤ sizeLine) (hp : ∀ v ∈ vs, IsTrip s.heap v (k v).1 (k v).2 (tx v)) (hd : ∀ v ∈ vs, ∀ u ∈ vs, k v = k u → v = u)
    (h : ∀ (h' : Heap) (d : Addr) (out : List Value), SrtO.Srtd (fun v u => SrtO.lexB (k v) (k u)) out → SrtO.Stb (fun v u => SrtO.lexB (k v) (k u)) out vs → (∀ b o, s.heap.get? b = some o → h'.get? b = some o) → s.heap.objs.size ≤ d → (∃ n, h'.get? d = some (seqObj "list" out.toArray n)) → Q (.ref d) { s with heap := h' }) :
    wpAny (model prog w) A (call (.builtin "sorted") [.ref l]) Q E s := by
  refine SrtO.sorted_ord (SrtO.swo_lex k) hl hz (fun h2 h₁ a ha kk => ?_) fun out hs hb => ?_
  · refine trips_sortable (s := { s with heap := h₁ }) (tx := tx) (by omega) (fun v hm => (hp v hm).keeps fun b o e _ => (kk b o e).2) hd fun o e => ?_
    have e' : some o = some (seqObj "list" vs.toArray 0) := e.symm.trans ha
    cases e'
    intro c
    exact absurd (Value.type.inj c) (by decide)
  · exact h _ _ out hs hb (fun b o e => sortedAll_old e) (Nat.le_succ _) (sortedAll_at s.heap vs out.toArray)
end
/-- sorted(xs), xs a list of triples at the addresses of L, each with its ints and its text; no two with the same ints -/
abbrev Trip := Addr × (Int × Int) × Str
def TripO (p : Trip) : HO := .tup [.int p.2.1.1, .int p.2.1.2, .str p.2.2]
def rSortedTr (K : PySem.W.Frag) : List V → Hp → VK → Prop := fun vs H Q => ∃ (a : Addr) (L : List Trip), vs = [V.ref a] ∧ SqL K H a (L.map fun p => V.ref p.1) ∧ (∀ p ∈ L, H p.1 = some (TripO p)) ∧ (L.map fun p => p.2.1).Nodup ∧
  ∀ (M : List Trip) (d : Addr), M.Perm L → M.Pairwise (fun p q => SrtO.lexB q.2.1 p.2.1 = false) → H d = none → Q (.ref d) (upd H d (.lst (M.map fun p => V.ref p.1)))
theorem vals_refs : ∀ {L : List Trip} {us : List Value}, Vals (L.map fun p => V.ref p.1) us → us = L.map fun p => Value.ref p.1
  | [], _, .nil => rfl
  | p :: L, _, .cons r t => by
    have e := vals_refs t
    cases r
    rw [e]
    rfl
theorem cr_sortedTr {X : Cx} : CallR X (.builtin "sorted") (rSortedTr X.K) := by
  intro pins s σ H vs us Q I r h
  obtain ⟨a, L, rfl, hs, hx, nd, q⟩ := h
  obtain ⟨its, rv, hl, hz⟩ := I.list hs
  obtain ⟨u, rfl, ru⟩ := vals1 r
  obtain rfl : u = Value.ref a := ru
  -- what stands behind an address
  let find : Value → Option Trip := fun v => L.find? fun p => Value.ref p.1 == v
  let k : Value → Int × Int := fun v => ((find v).map (·.2.1)).getD (0, 0)
  let tx : Value → Str := fun v => ((find v).map (·.2.2)).getD Str.empty
  have addr : ∀ p ∈ L, ∀ p' ∈ L, p.1 = p'.1 → p = p' := fun p hp p' hp' e => by
    have h1 := hx p hp
    rw [e, hx p' hp'] at h1
    obtain ⟨p1, ⟨pi, pj⟩, pz⟩ := p
    obtain ⟨p1', ⟨pi', pj'⟩, pz'⟩ := p'
    have e : p1 = p1' := e
    subst e
    unfold TripO at h1
    simp only [Option.some.injEq, HO.tup.injEq, List.cons.injEq, V.int.injEq, V.str.injEq, and_true] at h1
    obtain ⟨a, b, c⟩ := h1
    rw [a, b, c]
  have found : ∀ p ∈ L, find (.ref p.1) = some p := fun p hp => by
    show L.find? _ = _
    cases e : L.find? (fun q => Value.ref q.1 == Value.ref p.1) with
    | none =>
      rw [List.find?_eq_none] at e
      exact absurd (beq_self_eq_true _) (e p hp)
    | some q =>
      have m := List.mem_of_find?_eq_some e
      have y := List.find?_some e
      have y : q.1 = p.1 := by simpa using y
      rw [addr q m p hp y]
  have kof : ∀ p ∈ L, k (.ref p.1) = p.2.1 := fun p hp => by
    show ((find (.ref p.1)).map (·.2.1)).getD (0, 0) = _
    rw [found p hp]
    rfl
  have txof : ∀ p ∈ L, tx (.ref p.1) = p.2.2 := fun p hp => by
    show ((find (.ref p.1)).map (·.2.2)).getD Str.empty = _
    rw [found p hp]
    rfl
  have eits : its = L.map fun p => Value.ref p.1 := vals_refs rv
  have inits : ∀ v ∈ its, ∃ p ∈ L, v = Value.ref p.1 := fun v hv => by
    rw [eits] at hv
    obtain ⟨p, hp, e⟩ := List.mem_map.mp hv
    exact ⟨p, hp, e.symm⟩
  refine sorted_trips (k := k) (tx := tx) hl.isList (by rw [← rv.length]; exact hz) (fun v hv => ?_) (fun v hv u hu e => ?_) fun h' d out h1 h2 kp hd hn => ?_
  · obtain ⟨p, hp, rfl⟩ := inits v hv
    rw [kof p hp, txof p hp]
    obtain ⟨_, its2, r2, o, ho, hc, n, hd⟩ := I.hok _ _ (hx p hp)
    match its2, r2, hd with
    | _, .cons ri (.cons rj (.cons rz .nil)), hd =>
      obtain ⟨t1, rfl⟩ := ri
      obtain ⟨t2, rfl⟩ := rj
      obtain ⟨t3, rfl⟩ := rz
      exact ⟨p.1, o, t1, t2, t3, n, rfl, ho, hc, hd⟩
  · obtain ⟨p, hp, rfl⟩ := inits v hv
    obtain ⟨p', hp', rfl⟩ := inits u hu
    rw [kof p hp, kof p' hp'] at e
    obtain ⟨i, hi⟩ := List.mem_iff_getElem?.mp hp
    obtain ⟨j, hj⟩ := List.mem_iff_getElem?.mp hp'
    obtain ⟨hi1, hi2⟩ := List.getElem?_eq_some_iff.mp hi
    obtain ⟨hj1, hj2⟩ := List.getElem?_eq_some_iff.mp hj
    have nd2 := List.pairwise_iff_getElem.mp nd
    have ij : i = j := by
      rcases Nat.lt_trichotomy i j with c | c | c
      · exact absurd (by rw [List.getElem_map, List.getElem_map, hi2, hj2, e]) (nd2 i j (by simpa using hi1) (by simpa using hj1) c)
      · exact c
      · exact absurd (by rw [List.getElem_map, List.getElem_map, hi2, hj2, e]) (nd2 j i (by simpa using hj1) (by simpa using hi1) c)
    subst ij
    rw [hi] at hj
    cases hj
    rfl
  · obtain ⟨n, hn⟩ := hn
    let g : Value → Trip := fun v => (find v).getD (0, (0, 0), Str.empty)
    have gof : ∀ p ∈ L, g (.ref p.1) = p := fun p hp => by
      show (find (.ref p.1)).getD _ = p
      rw [found p hp]
      rfl
    have pm : (out.map g).Perm L := by
      have y := h2.perm.map g
      rw [eits, List.map_map] at y
      have e : L.map (g ∘ fun p => Value.ref p.1) = L := (List.map_congr_left fun p hp => gof p hp).trans (List.map_id L)
      rw [e] at y
      exact y
    have outin : ∀ v ∈ out, ∃ p ∈ L, v = Value.ref p.1 := fun v hv => inits v (h2.perm.mem_iff.mp hv)
    have eo : out = (out.map g).map fun p => Value.ref p.1 := by
      rw [List.map_map]
      refine (List.map_id out).symm.trans (List.map_congr_left fun v hv => ?_)
      obtain ⟨p, hp, rfl⟩ := outin v hv
      show _ = Value.ref (g (.ref p.1)).1
      rw [gof p hp]
      rfl
    have pw : (out.map g).Pairwise (fun p q => SrtO.lexB q.2.1 p.2.1 = false) := by
      refine List.pairwise_map.mpr (h1.imp_of_mem fun {v u} hv hu e => ?_)
      obtain ⟨p, hp, rfl⟩ := outin v hv
      obtain ⟨p', hp', rfl⟩ := outin u hu
      rw [gof p hp, gof p' hp']
      have e : SrtO.lexB (k (.ref p'.1)) (k (.ref p.1)) = false := e
      rw [kof p hp, kof p' hp'] at e
      exact e
    have vb : Vals ((out.map g).map fun p => V.ref p.1) out := by
      conv => rhs; rw [eo]
      generalize out.map g = M
      induction M with
      | nil => exact .nil
      | cons p M ih => exact .cons rfl ih
    refine ⟨.ref d, upd H d (.lst ((out.map g).map fun p => V.ref p.1)), I.laid (t' := s.toks) kp hd ⟨?_, out, n, vb, hn⟩, rfl, q _ d pm pw (I.hok.fresh hd)⟩
    rw [List.length_map, pm.length_eq]
    rw [List.length_map] at hz
    exact hz
end Pm
namespace Pm
open PySem PySem.Spec PyProof.Rows L2 SX
/-! ### conditions -/
/-- an offset and the signs -/
abbrev Cnd := (Int × Int) × List Nat
def CondO (c : Cnd) : HO := .tup [.int c.1.1, .int c.1.2, .str (S c.2)]
def refC (ks : List (Addr × Cnd)) : List V := ks.map fun q => V.ref q.1
def placeB (p : Int × Int) : Bool := (decide (-3 ≤ p.1) && decide (p.1 ≤ 3)) && ((decide (-3 ≤ p.2) && decide (p.2 ≤ 3)) && (decide (p.1 ≠ 0) || decide (p.2 ≠ 0)))
def badAt (i : Nat) (seen : List (Int × Int)) (c : Cnd) : Bool := decide (8 < i) || !placeB c.1 || decide (c.1 ∈ seen) || !diffB 35 c.2
def fstBad : Nat → List (Int × Int) → List Cnd → Option Nat
  | _, _, [] => none
  | i, seen, c :: r => if badAt i seen c then some i else fstBad (i + 1) (c.1 :: seen) r
structure UTx (K : PySem.W.Frag) (mg : Str → Option Value) : Prop where
  reach : ∃ u, mg "REACH" = some u ∧ RelV (.int 3) u
  most : ∃ u, mg "MOST_CONDITIONS" = some u ∧ RelV (.int 8) u
section
variable {P : Program} {w : World} {K : PySem.W.Frag} {mg : Str → Option Value} {base : Heap} {C CI : Addr}
theorem scEInvalidRule : FnScope ["self", "part"] ["self", "part"] (defScope cInvalidRuleInit) := ⟨rfl, rfl, rfl, by decide +kernel, rfl, by decide +kernel, by decide +kernel⟩
theorem okEInvalidRule {f C : Addr} {fd : FuncData} (F : Fun K "__init__" "InvalidRule.__init__" cInvalidRuleInit f fd) (T : OexC K C) (nx : PySem.W.findIn K (.ref C) "part" = some none) : FnOk P w K mg base CX0 1 f fd ["self", "part"] (spE1 C "part") := by
  refine F.ok scEInvalidRule (fun vs H Q E h => ?_) (fun cdv A outer s H vs Q E hr h => ?_)
  · obtain ⟨a, v, rfl, _⟩ := h
    rfl
  · obtain ⟨a, v, rfl, ha, k⟩ := h
    refine ⟨_, pss_one (ps_ost (pv 0) (pv 1)), ?_⟩
    refine ⟨_, rfl, _, rfl, a, C, rfl, T, nx, .inl ⟨ha, fun dx nd ne => ?_⟩⟩
    refine k _ dx upd_same (by rw [upd_ne ne, upd_same]) nd ne fun b o nb e => ?_
    rw [upd_ne nb, upd_ne (ne_of_none e nd)]
    exact e

def spPlace : Sp := fun vs H Q _ => ∃ dx dy, vs = [.int dx, .int dy] ∧ Q (.bl (placeB (dx, dy))) H
theorem scPlace : FnScope ["dx", "dy"] ["dx", "dy"] (defScope gIsPlace) := ⟨rfl, rfl, rfl, by decide +kernel, rfl, by decide +kernel, by decide +kernel⟩
theorem ok_place {f : Addr} {fd : FuncData} (F : Fun K "_is_place" "_is_place" gIsPlace f fd) (U : UTx K mg) : FnOk P w K mg base CX0 1 f fd ["dx", "dy"] spPlace := by
  refine F.ok scPlace (fun vs H Q E h => ?_) (fun cdv A outer s H vs Q E hr h => ?_)
  · obtain ⟨dx, dy, rfl, _⟩ := h
    rfl
  · obtain ⟨dx, dy, rfl, k⟩ := h
    obtain ⟨ur, hR, rR⟩ := U.reach
    refine ⟨_, pss_one (ps_ret (pe_and (pe_chain op_le op_le (pe_un un_neg (pe_glob (by rfl) hR rR)) (pv 0) (pe_glob (by rfl) hR rR)) (pe_and (pe_chain op_le op_le (pe_un un_neg (pe_glob (by rfl) hR rR)) (pv 1) (pe_glob (by rfl) hR rR))
      (pe_one (pe_or (pe_cmpR op_ne (pv 0) pe_int (nomark _)) (pe_one (pe_cmpR op_ne (pv 1) pe_int (nomark _)))))))), ?_⟩
    have q : ∀ b, placeB (dx, dy) = b → Q (.bl b) H := fun b e => by
      rw [e] at k
      exact k
    refine ⟨3, rfl, _, rfl, _, _, rfl, rfl, _, rfl, ite2 (fun a => ?_) (fun a => ?_)⟩
    · have a : -3 ≤ dx := of_decide_eq_true a
      refine ⟨_, _, rfl, rfl, _, rfl, ite2 (fun b => ?_) (fun b => ?_)⟩
      · have b : dx ≤ 3 := of_decide_eq_true b
        refine ⟨3, rfl, _, rfl, _, _, rfl, rfl, _, rfl, ite2 (fun c => ?_) (fun c => ?_)⟩
        · have c : -3 ≤ dy := of_decide_eq_true c
          refine ⟨_, _, rfl, rfl, _, rfl, ite2 (fun d => ?_) (fun d => ?_)⟩
          · have d : dy ≤ 3 := of_decide_eq_true d
            refine ⟨_, rfl, rfl, _, rfl, ?_⟩
            by_cases e : dx = 0
            · refine iteFe (by simp [e]) ⟨_, rfl, rfl, q _ ?_⟩
              unfold placeB
              simp [a, b, c, d, e]
            · refine iteTe (by simp [e]) (q _ ?_)
              unfold placeB
              simp [a, b, c, d, e]
          · have d : ¬ dy ≤ 3 := fun z => d (decide_eq_true z)
            exact q false (by unfold placeB; simp [d])
        · have c : ¬ -3 ≤ dy := fun z => c (decide_eq_true z)
          exact ⟨_, rfl, iteF (q false (by unfold placeB; simp [c]))⟩
      · have b : ¬ dx ≤ 3 := fun z => b (decide_eq_true z)
        exact q false (by unfold placeB; simp [b])
    · have a : ¬ -3 ≤ dx := fun z => a (decide_eq_true z)
      exact ⟨_, rfl, iteF (q false (by unfold placeB; simp [a]))⟩
end
end Pm
namespace Pm
open PySem PySem.Spec PyProof.Rows L2 SX
theorem hash_S : ("#" : Str) = S [35] := by decide +kernel
theorem walkS' {K : PySem.W.Frag} {a : Addr} {xs : List V} : Walk (ItS K a) xs.length (fun H => SqL K H a xs) (fun i H v H' => ∃ T x, v = .ref T ∧ H T = none ∧ H' = upd H T (.tup [.int ((i : Int) + 1), x]) ∧ xs[i]? = some x) := walkS
theorem refC_at {ks : List (Addr × Cnd)} {i : Nat} {x : V} (h : (refC ks)[i]? = some x) : ∃ t c, ks[i]? = some (t, c) ∧ x = .ref t := by
  unfold refC at h
  rw [List.getElem?_map] at h
  cases e : ks[i]? with
  | none =>
    rw [e] at h
    cases h
  | some q =>
    rw [e] at h
    cases h
    exact ⟨q.1, q.2, rfl, rfl⟩
/-- conditions in the heap: their list and each -/
structure CndsAt (H : Hp) (a : Addr) (ks : List (Addr × Cnd)) : Prop where
  lst : H a = some (.lst (refC ks))
  each : ∀ q ∈ ks, H q.1 = some (CondO q.2)
theorem CndsAt.same {H H' : Hp} {a : Addr} {ks : List (Addr × Cnd)} (h : CndsAt H a ks) (s : Same H H') : CndsAt H' a ks := ⟨s _ _ h.lst, fun q hq => s _ _ (h.each q hq)⟩
/-- the search, step by step -/
theorem fst_step {i : Nat} {seen : List (Int × Int)} {c : Cnd} {r : List Cnd} : fstBad i seen (c :: r) = if badAt i seen c then some i else fstBad (i + 1) (c.1 :: seen) r := rfl
def seenOf (cs : List Cnd) (i : Nat) : List (Int × Int) := ((cs.take i).map (·.1)).reverse
theorem seen_succ {cs : List Cnd} {i : Nat} {c : Cnd} (h : cs[i]? = some c) : seenOf cs (i + 1) = c.1 :: seenOf cs i := by
  unfold seenOf
  rw [List.take_add_one, h]
  simp
section
variable {P : Program} {w : World} {K : PySem.W.Frag} {mg : Str → Option Value} {base : Heap} {C CI : Addr}
def spCheck (CI : Addr) : Sp := fun vs H Q E => ∃ a ks, vs = [.ref a] ∧ CndsAt H a ks ∧ ks.length ≤ 1000 ∧ (∀ q ∈ ks, q.2.2.length ≤ 1000) ∧
  (∀ p, fstBad 1 [] (ks.map (·.2)) = some p → Lets E CI [("part", .int (p : Int))] H) ∧ (fstBad 1 [] (ks.map (·.2)) = none → ∀ H', Same H H' → Q .non H')
abbrev nCheck : List Str := ["conditions", "earlier", "part", "dx", "dy", "signs"]
theorem scCheck : FnScope nCheck ["conditions"] (defScope gCheckConditions) := ⟨rfl, rfl, rfl, by decide +kernel, rfl, by decide +kernel, by decide +kernel⟩
theorem ok_check {f g d e : Addr} {fd gd dd ed : FuncData} (F : Fun K "_check_conditions" "_check_conditions" gCheckConditions f fd) (G : Cl P w K mg base CX0 1 "_is_place" ["dx", "dy"] spPlace g gd) (D : Cl P w K mg base CX0 2 "are_different_signs" ["signs", "besides"] spDiff d dd)
    (Ex : EMk P w K mg base CI "InvalidRule" ["self", "part"] (spE1 CI "part") e ed) (T : PTxt K mg C) (R : STxt K mg) (U : UTx K mg) : FnOk P w K mg base (L2.CX P w) 3 f fd ["conditions"] (spCheck CI) := by
  refine F.okX scCheck (fun vs H Q E h => ?_) (fun cdv A outer s H vs Q E hr h => ?_)
  · obtain ⟨a, ks, rfl, _⟩ := h
    rfl
  · obtain ⟨a, ks, rfl, hc, few, each, bad, good⟩ := h
    have hr1 : Room 1 _ := hr.mono (by decide)
    have hr2 : Room 2 _ := hr
    have hu := hu_of hr
    obtain ⟨mc, cr, _, ⟨uE, hE⟩⟩ := T.cr
    obtain ⟨um, hM, rM⟩ := U.most
    refine ⟨_, (pss_cons (ps_set (i := 1) scCheck.nd rfl (.inl rfl) (pe_callTy0 cr_set0T (by rfl) R.set (by decide +kernel)))
      (pss_one (ps_for (passes_of rfl) rfl (pi_enumS (by rfl) T.enum (pa_cons (pv 0) pa_nil) (pk_cons pe_int pk_nil)) (pg_tup rfl (pgs_cons (pg_name (i := 2) scCheck.nd rfl (.inl rfl)) (pgs_cons (pg_tup rfl (pgs_cons (pg_name (i := 3) scCheck.nd rfl (.inl rfl)) (pgs_cons (pg_name (i := 4) scCheck.nd rfl (.inl rfl)) (pgs_cons (pg_name (i := 5) scCheck.nd rfl (.inl rfl)) pgs_nil)))) pgs_nil))) (pss_cons (ps_if (PW.pt (pw_or (pt_cmpR op_gt (pv 2) (pe_glob (by rfl) hM rM) (nomark _)) (pw_or (pt_not (pt_val (pe_call G.ok hr1 (by rfl) G.gl G.kp G.bd .nil pass0 (pa_cons (pv 3) (pa_cons (pv 4) pa_nil))))) (pw_or1 (pt_cmpR (op_inT hu) (pe_tup (pa_cons (pv 3) (pa_cons (pv 4) pa_nil))) (pv 1) (by rfl)))))) (pss_one (ps_raise rfl (takes_of rfl rfl rfl rfl) (pmk_oex Ex.T Ex.at_ Ex.ty Ex.ok hr2 Ex.bd .nil pass0 (by rfl) Ex.gl (pa_cons (pv 2) pa_nil)))) pss_nil)
        (pss_cons (ps_if (pt_not (pt_val (pe_call D.ok hr (by rfl) D.gl D.kp D.bd .nil pass0 (pa_cons (pv 5) (pa_cons (ClX.pe_cval (pe_glob (v := .ref C) (by rfl) T.gC rfl)) pa_nil))))) (pss_one (ps_raise rfl (takes_of rfl rfl rfl rfl) (pmk_oex Ex.T Ex.at_ Ex.ty Ex.ok hr2 Ex.bd .nil pass0 (by rfl) Ex.gl (pa_cons (pv 2) pa_nil)))) pss_nil)
        (pss_one (ps_expr (pe_addT hu (pv 1) (pa_cons (pe_tup (pa_cons (pv 3) (pa_cons (pv 4) pa_nil))) pa_nil))))))))), ?_⟩
    refine ⟨rfl, fun D0 nD0 => ?_⟩
    have s0 := same_upd (o := SetTO P w D0 []) nD0
    have hD0 : (upd H D0 (SetTO P w D0 [])) D0 = some (SetTO P w D0 []) := upd_same
    refine ⟨_, rfl, a, _, rfl, rfl, SqL.of (s0 _ _ hc.lst), for_it walkS (fun i σ G => ∃ y2 y3 y4 y5 L, σ = [some (.ref a), some (.ref D0), y2, y3, y4, y5] ∧ Same H G ∧ (∀ b o, b ≠ D0 → upd H D0 (SetTO P w D0 []) b = some o → G b = some o) ∧ G D0 = some (SetTO P w D0 L) ∧ (∀ p ∈ L, G p.1 = some (.tup (p.2.map V.int))) ∧
      (∀ c : Int × Int, [c.1, c.2] ∈ L.map (·.2) ↔ c ∈ seenOf (ks.map (·.2)) i) ∧ L.length ≤ i ∧ i ≤ 8 ∧ fstBad 1 [] (ks.map (·.2)) = fstBad (i + 1) (seenOf (ks.map (·.2)) i) ((ks.map (·.2)).drop i)) ⟨_, _, _, _, [], rfl, s0, fun _ _ _ e => e, hD0, (fun p hp => nomatch hp), (fun c => ⟨fun z => (nomatch z), fun z => (nomatch z)⟩), Nat.le_refl _, by decide, rfl⟩ (fun i σ G _ ⟨_, _, _, _, _, _, sG, _⟩ => SqL.of (sG _ _ hc.lst)) ?_ ?_⟩
    · rintro i x σ G G' hi ⟨y2, y3, y4, y5, L, rfl, sG, oG, hD, hL, hk, ll, i8, ef⟩ ⟨T1, x1, rfl, nT, rfl, gx⟩
      obtain ⟨t, c, hti, rfl⟩ := refC_at gx
      have mq : (t, c) ∈ ks := List.mem_of_getElem? hti
      have s1 := same_upd (o := .tup [.int ((i : Int) + 1), .ref t]) nT
      have s2 := sG.trans s1
      have ht := s2 _ _ (hc.each _ mq)
      have hci : (ks.map (·.2))[i]? = some c := by
        rw [List.getElem?_map, hti]
        rfl
      have edr : (ks.map (·.2)).drop i = c :: (ks.map (·.2)).drop (i + 1) := by
        obtain ⟨h1, h2⟩ := List.getElem?_eq_some_iff.mp hci
        rw [List.drop_eq_getElem_cons h1, h2]
      rw [edr, fst_step] at ef
      have isbad : badAt (i + 1) (seenOf (ks.map (·.2)) i) c = true → fstBad 1 [] (ks.map (·.2)) = some (i + 1) := fun e => by rw [ef, if_pos e]
      refine ⟨T1, _, rfl, SqT.of upd_same, rfl, _, _, rfl, _, _, rfl, t, _, rfl, SqT.of ht, rfl, _, _, rfl, _, _, rfl, _, _, rfl, rfl, rfl, ?_⟩
      refine ⟨_, rfl, _, _, rfl, rfl, _, rfl, ?_⟩
      by_cases b1 : 8 < i + 1
      · have hb := isbad (by unfold badAt; simp [b1])
        refine iteTe (decide_eq_true (by omega)) (iteT ?_)
        refine ⟨_, rfl, by show 1 ≤ 1000; decide, fun x nx => ⟨x, _, rfl, upd_same, fun H2 d h1 h2 nd ne sb => ⟨rfl, d, _, h1, h2, ?_, ?_⟩⟩⟩
        · rwa [upd_ne ne] at nd
        · exact bad _ hb d _ (back s2 (by rwa [upd_ne ne] at nd)) upd_same (s2.trans (on_way nx nd ne sb))
      refine iteFe (decide_eq_false (by omega)) ⟨_, rfl, _, rfl, _, _, rfl, _, rfl, ?_⟩
      cases b2 : placeB c.1 with
      | false =>
        have hb := isbad (by unfold badAt; simp [b2])
        refine iteTe rfl (iteT ?_)
        refine ⟨_, rfl, by show 1 ≤ 1000; decide, fun x nx => ⟨x, _, rfl, upd_same, fun H2 d h1 h2 nd ne sb => ⟨rfl, d, _, h1, h2, ?_, ?_⟩⟩⟩
        · rwa [upd_ne ne] at nd
        · exact bad _ hb d _ (back s2 (by rwa [upd_ne ne] at nd)) upd_same (s2.trans (on_way nx nd ne sb))
      | true =>
      refine iteFe rfl ⟨_, rfl, _, rfl, by show 2 ≤ sizeLine; decide, fun p np => ?_⟩
      have s3 := s2.trans (same_upd (o := .tup [.int c.1.1, .int c.1.2]) np)
      have hD2 : upd (upd G T1 (.tup [.int ((i : Int) + 1), .ref t])) p (.tup [.int c.1.1, .int c.1.2]) D0 = some (SetTO P w D0 L) := by
        rw [upd_ne (ne_of_none (s1 _ _ hD) np)]
        exact s1 _ _ hD
      have hL2 : ∀ q ∈ L, upd (upd G T1 (.tup [.int ((i : Int) + 1), .ref t])) p (.tup [.int c.1.1, .int c.1.2]) q.1 = some (.tup (q.2.map V.int)) := fun q hq => same_upd np _ _ (s1 _ _ (hL q hq))
      refine ⟨_, rfl, p, D0, [c.1.1, c.1.2], L, rfl, rfl, SqT.of upd_same, hD2, fun q hq => SqT.of (hL2 q hq), _, rfl, ?_⟩
      by_cases b3 : c.1 ∈ seenOf (ks.map (·.2)) i
      · have hb := isbad (by unfold badAt; simp [b3])
        refine iteTe (decide_eq_true ((hk c.1).mpr b3)) ?_
        refine ⟨_, rfl, by show 1 ≤ 1000; decide, fun x nx => ⟨x, _, rfl, upd_same, fun H2 d h1 h2 nd ne sb => ⟨rfl, d, _, h1, h2, ?_, ?_⟩⟩⟩
        · rwa [upd_ne ne] at nd
        · exact bad _ hb d _ (back s3 (by rwa [upd_ne ne] at nd)) upd_same (s3.trans (on_way nx nd ne sb))
      refine iteFe (decide_eq_false fun z => b3 ((hk c.1).mp z)) ?_
      refine ⟨_, rfl, C, mc, _, uE, rfl, cr, hE, c.2, 35, (by rw [hash_S]; rfl), each _ mq, fun G4 s4 => ⟨_, rfl, ?_⟩⟩
      cases b4 : diffB 35 c.2 with
      | false =>
        have hb := isbad (by unfold badAt; simp [b4])
        have s5 := s3.trans s4
        refine iteT ?_
        refine ⟨_, rfl, by show 1 ≤ 1000; decide, fun x nx => ⟨x, _, rfl, upd_same, fun H2 d h1 h2 nd ne sb => ⟨rfl, d, _, h1, h2, ?_, ?_⟩⟩⟩
        · rwa [upd_ne ne] at nd
        · exact bad _ hb d _ (back s5 (by rwa [upd_ne ne] at nd)) upd_same (s5.trans (on_way nx nd ne sb))
      | true =>
      refine iteF ?_
      refine ⟨_, rfl, ⟨D0, L, rfl, s4 _ _ hD2, fun q hq => SqT.of (s4 _ _ (hL2 q hq))⟩, _, rfl, _, rfl, by show 2 ≤ sizeLine; decide, fun p2 np2 => ?_⟩
      have s6 := same_upd (o := .tup [.int c.1.1, .int c.1.2]) np2
      have hD3 := s6 _ _ (s4 _ _ hD2)
      have new : [c.1.1, c.1.2] ∉ L.map (·.2) := fun z => b3 ((hk c.1).mp z)
      refine ⟨D0, p2, [c.1.1, c.1.2], L, rfl, rfl, hD3, fun q hq => SqT.of (s6 _ _ (s4 _ _ (hL2 q hq))), SqT.of upd_same, by omega, fun L' _ c2 => ?_⟩
      have pm := c2 new
      have s7 : ∀ b o, b ≠ D0 → upd G4 p2 (.tup [.int c.1.1, .int c.1.2]) b = some o → upd (upd G4 p2 (.tup [.int c.1.1, .int c.1.2])) D0 (SetTO P w D0 L') b = some o := fun b o nb e => by
        rw [upd_ne nb]
        exact e
      have sAll : Same G (upd G4 p2 (.tup [.int c.1.1, .int c.1.2])) := ((s1.trans (same_upd np)).trans s4).trans s6
      have np2D : p2 ≠ D0 := Ne.symm (ne_of_none (s4 _ _ hD2) np2)
      refine ⟨_, _, _, _, L', rfl, fun b o e => ?_, fun b o nb e => s7 b o nb (sAll _ _ (oG b o nb e)), upd_same, fun q hq => ?_, fun d => ?_, ?_, by omega, ?_⟩
      · exact s7 b o (ne_of_none e nD0) (sAll _ _ (sG _ _ e))
      · rcases List.mem_cons.mp (pm.mem_iff.mp hq) with z | z
        · subst z
          exact s7 _ _ np2D upd_same
        · refine s7 _ _ (fun y => ?_) (sAll _ _ (hL q z))
          have y2 := hL q z
          rw [y, hD] at y2
          cases y2
      · rw [(pm.map (·.2)).mem_iff, seen_succ hci, List.map_cons, List.mem_cons, List.mem_cons, hk d]
        constructor
        · rintro (z | z)
          · simp only [List.cons.injEq, and_true] at z
            exact .inl (Prod.ext z.1 z.2)
          · exact .inr z
        · rintro (z | z)
          · rw [z]
            exact .inl rfl
          · exact .inr z
      · rw [pm.length_eq, List.length_cons]
        omega
      · rw [ef, if_neg (by unfold badAt; simp [b1, b2, b3, b4]), seen_succ hci]
    · rintro σ G ⟨y2, y3, y4, y5, L, rfl, sG, oG, hD, hL, hk, ll, i8, ef⟩
      refine good ?_ G sG
      rw [ef, show (refC ks).length = (ks.map (·.2)).length by unfold refC; rw [List.length_map, List.length_map], List.drop_length]
      rfl
end
end Pm
namespace Pm
open PySem PySem.Spec PyProof.Rows L2 SX
/-- from top to bottom, then from left to right -/
def fl (p : Int × Int) : Int × Int := (p.2, p.1)
def Ord (cs : List Cnd) : Prop := cs.Pairwise fun p q => SrtO.lexB (fl q.1) (fl p.1) = false
def ascC (c : Cnd) : Cnd := (c.1, asc c.2)
def unS (s : Str) : List Nat := s.cps.toList
theorem S_unS (s : Str) : S (unS s) = s := by
  obtain ⟨a⟩ := s
  rfl
theorem unS_S (z : List Nat) : unS (S z) = z := by
  unfold unS
  simp
section
variable {P : Program} {w : World} {K : PySem.W.Frag} {mg : Str → Option Value} {base : Heap} {C CI : Addr}
def spNeed (CI : Addr) : Sp := fun vs H Q E => ∃ n c, vs = [.int n, .int c] ∧ (¬ (0 ≤ n ∧ n ≤ c) → Lets E CI [("part", .int 0)] H) ∧ (0 ≤ n ∧ n ≤ c → Q .non H)
theorem scNeed : FnScope ["need", "count"] ["need", "count"] (defScope gCheckNeed) := ⟨rfl, rfl, rfl, by decide +kernel, rfl, by decide +kernel, by decide +kernel⟩
theorem ok_need {f e : Addr} {fd ed : FuncData} (F : Fun K "_check_need" "_check_need" gCheckNeed f fd) (Ex : EMk P w K mg base CI "InvalidRule" ["self", "part"] (spE1 CI "part") e ed) : FnOk P w K mg base (L2.CX P w) 3 f fd ["need", "count"] (spNeed CI) := by
  refine F.okX scNeed (fun vs H Q E h => ?_) (fun cdv A outer s H vs Q E hr h => ?_)
  · obtain ⟨n, c, rfl, _⟩ := h
    rfl
  · obtain ⟨n, c, rfl, bad, good⟩ := h
    have hr2 : Room 2 _ := hr
    refine ⟨_, (pss_one (ps_if (pt_not (pt_chain op_le op_le pe_int (pv 0) (pv 1))) (pss_one (ps_raise rfl (takes_of rfl rfl rfl rfl) (pmk_oex Ex.T Ex.at_ Ex.ty Ex.ok hr2 Ex.bd .nil pass0 (by rfl) Ex.gl (pa_cons pe_int pa_nil)))) pss_nil)), ?_⟩
    have out : ¬ (0 ≤ n ∧ n ≤ c) → ∀ x, H x = none → ∀ H2 d, H2 x = some (exo x CI (some d)) → H2 d = some (exd d [("part", .int 0)]) → upd H x (exo x CI none) d = none → d ≠ x → SameBut x (upd H x (exo x CI none)) H2 → E (.ref CI) (some d) (upd (del H2 x) d (.xd [("part", .int 0)])) := fun nb x nx H2 d h1 h2 nd ne sb => by
      exact bad nb d _ (by rwa [upd_ne ne] at nd) upd_same (on_way nx nd ne sb)
    refine ⟨_, rfl, _, _, rfl, rfl, _, rfl, ite2 (fun a => ?_) (fun a => ?_)⟩
    · have a : 0 ≤ n := of_decide_eq_true a
      refine ⟨_, rfl, _, _, rfl, rfl, _, rfl, ?_⟩
      by_cases b : n ≤ c
      · exact iteFe (by rw [decide_eq_true b]; rfl) (good ⟨a, b⟩)
      · refine iteTe (by rw [decide_eq_false b]; rfl) ⟨by show 1 ≤ 1000; decide, fun x nx => ⟨x, _, rfl, upd_same, fun H2 d h1 h2 nd ne sb => ⟨rfl, d, _, h1, h2, ?_, ?_⟩⟩⟩
        · rwa [upd_ne ne] at nd
        · exact out (fun z => b z.2) x nx H2 d h1 h2 nd ne sb
    · have a : ¬ 0 ≤ n := fun z => a (decide_eq_true z)
      refine ⟨_, rfl, iteT ⟨by show 1 ≤ 1000; decide, fun x nx => ⟨x, _, rfl, upd_same, fun H2 d h1 h2 nd ne sb => ⟨rfl, d, _, h1, h2, ?_, ?_⟩⟩⟩⟩
      · rwa [upd_ne ne] at nd
      · exact out (fun z => a z.1) x nx H2 d h1 h2 nd ne sb
def spInOrder : Sp := fun vs H Q _ => ∃ a ks, vs = [.ref a] ∧ CndsAt H a ks ∧ ks.length ≤ 1000 ∧ (∀ q ∈ ks, q.2.2.length ≤ 1000) ∧ (ks.map fun q => q.2.1).Nodup ∧
  ∀ p ms H', Same H H' → H p = none → CndsAt H' p ms → (ms.map (·.2)).Perm ((ks.map (·.2)).map ascC) → Ord (ms.map (·.2)) → Q (.ref p) H'
abbrev nInOrder : List Str := ["conditions", "dx", "dy", "signs", "flipped"]
theorem scInOrder : FnScope nInOrder ["conditions"] (defScope gInOrder) := ⟨rfl, rfl, rfl, by decide +kernel, rfl, by decide +kernel, by decide +kernel⟩
theorem ok_inorder {f g : Addr} {fd gd : FuncData} (F : Fun K "_in_order" "_in_order" gInOrder f fd) (G : Cl P w K mg base CX0 1 "in_ascii_order" ["signs"] spAsc g gd) (R : STxt K mg) : FnOk P w K mg base CX0 2 f fd ["conditions"] spInOrder := by
  refine F.ok scInOrder (fun vs H Q E h => ?_) (fun cdv A outer s H vs Q E hr h => ?_)
  · obtain ⟨a, ks, rfl, _⟩ := h
    rfl
  · obtain ⟨a, ks, rfl, hc, few, each, nd, k⟩ := h
    refine ⟨_, (pss_cons (ps_set (i := 4) scInOrder.nd rfl (.inl rfl) (pe_callB cr_sortedTr (by rfl) R.srt (by decide +kernel) (pa_cons (pe_lc (own := [("dx", 1), ("dy", 2), ("signs", 3)]) (g := (gTup K 3 (gCons (gName 1) (gCons (gName 2) (gCons (gName 3) gNil))))) (tt := tYes) rfl scInOrder.nd (pi_list (pv 0)) (blkOk_by (own := [("dx", 1), ("dy", 2), ("signs", 3)]) (N := nInOrder) (sc := defScope gInOrder) (by decide +kernel)) (fun _ _ _ _ _ => (pg_tup rfl (pgs_cons (pg_name (i := 1) scInOrder.nd rfl (.inl rfl)) (pgs_cons (pg_name (i := 2) scInOrder.nd rfl (.inl rfl)) (pgs_cons (pg_name (i := 3) scInOrder.nd rfl (.inl rfl)) pgs_nil))))) (fun _ _ _ _ _ => pts_nil) (fun _ _ _ _ _ => (pe_tup (pa_cons (pv 2) (pa_cons (pv 1) (pa_cons (pe_call G.ok hr (by rfl) G.gl G.kp G.bd .nil pass0 (pa_cons (pv 3) pa_nil)) pa_nil)))))) pa_nil)))
      (pss_one (ps_ret (pe_lc (own := [("dy", 2), ("dx", 1), ("signs", 3)]) (g := (gTup K 3 (gCons (gName 2) (gCons (gName 1) (gCons (gName 3) gNil))))) (tt := tYes) rfl scInOrder.nd (pi_list (pv 4)) (blkOk_by (own := [("dy", 2), ("dx", 1), ("signs", 3)]) (N := nInOrder) (sc := defScope gInOrder) (by decide +kernel)) (fun _ _ _ _ _ => (pg_tup rfl (pgs_cons (pg_name (i := 2) scInOrder.nd rfl (.inl rfl)) (pgs_cons (pg_name (i := 1) scInOrder.nd rfl (.inl rfl)) (pgs_cons (pg_name (i := 3) scInOrder.nd rfl (.inl rfl)) pgs_nil))))) (fun _ _ _ _ _ => pts_nil) (fun _ _ _ _ _ => (pe_tup (pa_cons (pv 1) (pa_cons (pv 2) (pa_cons (pv 3) pa_nil))))))))), ?_⟩
    refine ⟨.ref a, rfl, a, rfl, ⟨_, SqL.of hc.lst⟩, fun D nD => lc_list (K := K) (a := a) (xs := refC ks) (fun i G => ∃ ts : List Trip, Same H G ∧ G D = some (.lst (ts.map fun p => V.ref p.1)) ∧ (∀ p ∈ ts, G p.1 = some (TripO p)) ∧ ts.map (·.2) = (ks.take i).map fun q => (fl q.2.1, S (asc q.2.2))) ⟨[], same_upd nD, upd_same, (fun p hp => nomatch hp), rfl⟩ (fun i G _ ⟨ts, sm, _⟩ => SqL.of (sm _ _ hc.lst)) ?_ ?_⟩
    · rintro i x G hx ⟨ts, sm, hD, ht, et⟩
      obtain ⟨t, c, hi, rfl⟩ := refC_at hx
      have mq := List.mem_of_getElem? hi
      have htc := sm _ _ (hc.each _ mq)
      have li : i < ks.length := (List.getElem?_eq_some_iff.mp hi).1
      refine ⟨t, _, rfl, SqT.of htc, rfl, _, _, rfl, _, _, rfl, _, _, rfl, rfl, rfl, ?_⟩
      refine tyes (iteT ⟨_, rfl, _, rfl, _, rfl, c.2, rfl, each _ mq, fun G2 s2 => ⟨by show 3 ≤ sizeLine; decide, fun T nT => ?_⟩⟩)
      have s3 := s2.trans (same_upd (o := .tup [.int c.1.2, .int c.1.1, .str (S (asc c.2))]) nT)
      have nDT : D ≠ T := ne_of_none (s2 _ _ hD) nT
      refine ⟨ts.map fun p => V.ref p.1, s3 _ _ hD, ?_, ts ++ [(T, fl c.1, S (asc c.2))], fun b o e => ?_, ?_, fun p hp => ?_, ?_⟩
      · have := congrArg List.length et
        rw [List.length_map, List.length_map, List.length_take] at this
        rw [List.length_map]
        exact small1000 (by omega)
      · rw [upd_ne (ne_of_none e nD)]
        exact s3 _ _ (sm _ _ e)
      · rw [upd_same, List.map_append]
        rfl
      · have pD : ∀ q : Trip, upd G2 T (.tup [.int c.1.2, .int c.1.1, .str (S (asc c.2))]) q.1 = some (TripO q) → q.1 ≠ D := fun q e y => by
          rw [y, s3 _ _ hD] at e
          cases e
        rcases List.mem_append.mp hp with z | z
        · have y := s3 _ _ (ht p z)
          rw [upd_ne (pD p y)]
          exact y
        · rw [List.mem_singleton.mp z]
          rw [upd_ne nDT.symm]
          exact upd_same
      · rw [List.map_append, et, List.take_add_one, hi, List.map_append]
        rfl
    · rintro G ⟨ts, sm, hD, ht, et⟩
      rw [show (refC ks).length = ks.length from List.length_map _, List.take_of_length_le (Nat.le_refl _)] at et
      have ndt : (ts.map fun p => p.2.1).Nodup := by
        have e : ts.map (fun p => p.2.1) = (ks.map fun q => q.2.1).map fl := by
          have y := congrArg (List.map Prod.fst) et
          rw [List.map_map, List.map_map] at y
          rw [List.map_map]
          exact y
        rw [e]
        exact List.pairwise_map.mpr (nd.imp fun ne e => ne (Prod.ext (congrArg Prod.snd e) (congrArg Prod.fst e)))
      refine ⟨D, ts, rfl, SqL.of hD, ht, ndt, fun M d pm pw nd2 => ?_⟩
      have sM := same_upd (o := .lst (M.map fun p => V.ref p.1)) nd2
      have hM : ∀ p ∈ M, upd G d (.lst (M.map fun p => V.ref p.1)) p.1 = some (TripO p) := fun p hp => sM _ _ (ht p (pm.mem_iff.mp hp))
      have hd : upd G d (.lst (M.map fun p => V.ref p.1)) d = some (.lst (M.map fun p => V.ref p.1)) := upd_same
      generalize upd G d (.lst (M.map fun p => V.ref p.1)) = G1 at sM hM hd
      have s01 := sm.trans sM
      refine ⟨.ref d, rfl, d, rfl, ⟨_, SqL.of hd⟩, fun D2 nD2 => lc_list (K := K) (a := d) (xs := M.map fun p => V.ref p.1) (fun i G => ∃ ms : List (Addr × Cnd), Same G1 G ∧ G D2 = some (.lst (refC ms)) ∧ (∀ q ∈ ms, G q.1 = some (CondO q.2)) ∧ ms.map (·.2) = (M.take i).map fun p => (fl p.2.1, unS p.2.2)) ⟨[], same_upd nD2, upd_same, (fun p hp => nomatch hp), rfl⟩ (fun i G _ ⟨ms, sm, _⟩ => SqL.of (sm _ _ hd)) ?_ ?_⟩
      · rintro i x G2 hx ⟨ms, sm2, hD2, hms, em⟩
        rw [List.getElem?_map] at hx
        obtain ⟨p, hi, rfl⟩ : ∃ p, M[i]? = some p ∧ x = V.ref p.1 := by
          cases e : M[i]? with
          | none =>
            rw [e] at hx
            cases hx
          | some p =>
            rw [e] at hx
            cases hx
            exact ⟨p, rfl, rfl⟩
        have mp := List.mem_of_getElem? hi
        have htc := sm2 _ _ (hM p mp)
        refine ⟨p.1, _, rfl, SqT.of htc, rfl, _, _, rfl, _, _, rfl, _, _, rfl, rfl, rfl, ?_⟩
        refine tyes (iteT ⟨_, rfl, _, rfl, _, rfl, by show 3 ≤ sizeLine; decide, fun T nT => ?_⟩)
        have s3 := same_upd (o := .tup [.int p.2.1.2, .int p.2.1.1, .str p.2.2]) nT
        have nDT : D2 ≠ T := ne_of_none hD2 nT
        refine ⟨refC ms, s3 _ _ hD2, ?_, ms ++ [(T, fl p.2.1, unS p.2.2)], fun b o e => ?_, ?_, fun q hq => ?_, ?_⟩
        · have e1 := congrArg List.length em
          have e2 := pm.length_eq
          have e3 := congrArg List.length et
          rw [List.length_map, List.length_map, List.length_take] at e1
          rw [List.length_map, List.length_map] at e3
          rw [show (refC ms).length = ms.length from List.length_map _]
          exact small1000 (by omega)
        · rw [upd_ne (ne_of_none e nD2)]
          exact s3 _ _ (sm2 _ _ e)
        · rw [upd_same]
          unfold refC
          rw [List.map_append]
          rfl
        · rcases List.mem_append.mp hq with z | z
          · have y := s3 _ _ (hms q z)
            rw [upd_ne (fun e => ?_)]
            · exact y
            · rw [e, s3 _ _ hD2] at y
              cases y
          · rw [List.mem_singleton.mp z]
            rw [upd_ne nDT.symm, upd_same]
            show _ = some (HO.tup [.int (fl p.2.1).1, .int (fl p.2.1).2, .str (S (unS p.2.2))])
            rw [S_unS]
            rfl
        · rw [List.map_append, em, List.take_add_one, hi, List.map_append]
          rfl
      · rintro G2 ⟨ms, sm2, hD2, hms, em⟩
        rw [List.length_map, List.take_of_length_le (Nat.le_refl _)] at em
        have sAll := s01.trans sm2
        refine k D2 ms G2 sAll (back s01 nD2) ⟨hD2, hms⟩ ?_ ?_
        · rw [em]
          have y := pm.map fun p : Trip => ((fl p.2.1, unS p.2.2) : Cnd)
          have e : (ts.map fun p : Trip => ((fl p.2.1, unS p.2.2) : Cnd)) = (ks.map (·.2)).map ascC := by
            have z := congrArg (List.map fun x : (Int × Int) × Str => ((fl x.1, unS x.2) : Cnd)) et
            rw [List.map_map, List.map_map] at z
            rw [List.map_map]
            refine z.trans (List.map_congr_left fun q _ => ?_)
            show ((fl (fl q.2.1), unS (S (asc q.2.2))) : Cnd) = ascC q.2
            rw [unS_S]
            rfl
          rw [e] at y
          exact y
        · unfold Ord
          rw [em]
          exact List.pairwise_map.mpr (pw.imp fun {p q} e => e)
end
end Pm
namespace Pm
open PySem PySem.Spec PyProof.Rows L2 SX NdefX
/-! ### a def whose first statement is super().m(e, ..) -/
/-- a def of the text that closes over __class__ (the class at D), its first parameter self -/
structure FunS (prog : Program) (K : PySem.W.Frag) (x qual : Str) (st : Stmt) (D f cc cda : Addr) (fd : FuncData) : Prop where
  ex : ∃ (oc : Value) (od : Option Addr) (dV kV doc pm : Value) (an : Option Addr) (ct : Value) (osl : Array (Option Value)),
    fd = PySem.W.fnX x qual (defArgs st) (defBody st) (defScope st) [("__class__", cc)] dV kV doc pm an (.ref cda) ct ∧ K.lookup f = some ⟨oc, od, .func fd, osl⟩ ∧ PySem.W.codeIn K (.ref cda) qual = true
  cell : ∃ (cl : Value) (cld : Option Addr) (csl : Array (Option Value)), K.lookup cc = some ⟨cl, cld, .cell (some (.ref D)), csl⟩
  code : ∃ (ccl : Value) (cdd : Option Addr) (vs : Array Value) (ccs : Array (Option Value)) (file : Str) (tf : Tok), K.lookup cda = some ⟨ccl, cdd, .fields vs, ccs⟩ ∧ vs[2]? = some (.str file tf) ∧ ((prog.main.file : Str) == file) = true
  cls : ∃ cd, PySem.W.clsIn K D = some cd
  top : (prog.main.scope.names.lookup ("super" : Str)).isSome = false
  any : PySem.W.nsIn K cStatics "thirdparty.any" = some none
  arg : ∃ ar : Arg, ((defArgs st).posonlyargs ++ (defArgs st).args).head? = some ar ∧ ar.arg = "self"
/-- the class C of self: below D; super() finds m at g -/
structure SupM (K : PySem.W.Frag) (C D : Addr) (m : Str) (g : Addr) : Prop where
  sub : PySem.W.mroIn K C (.ref D) = some true
  at_ : PySem.W.ks_superIn K C D m = some (some (.ref g))
  ty : PySem.W.typeIn K (.ref g) = some (.type "function")
  fi : PySem.W.fnIn K g = true
section
variable {CX CXf : CXT} {P : Program} {w : World} {K : PySem.W.Frag} {mg : Str → Option Value} {base : Heap} {N ps ps2 : List Str} {D f g C cc cda : Addr} {k j : Nat} {x qual m : Str} {st : Stmt} {fd gd : FuncData} {sp sp2 : Sp} {p0 p1 apos pos pos2 : Pos} {e : Expr} {es : List Expr} {rest : List Stmt} {pl : Sem Bool}
abbrev supNF (x qual : Str) (st : Stmt) (cc cda : Addr) : NF := ⟨x, qual, defArgs st, defBody st, defScope st, [("__class__", cc)], cda⟩
abbrev supCx (CX : CXT) (P : Program) (w : World) (K : PySem.W.Frag) (mg : Str → Option Value) (base : Heap) (N : List Str) (x qual : Str) (st : Stmt) (f cc cda : Addr) (A : Around) (outer : List Env) (s : Shared) (H : Hp) (E : XK) : Cx := ncx CX P w K mg base N (supNF x qual st cc cda) f A outer s H E
theorem supfn_of (F : FunS P K x qual st D f cc cda fd) (S : NScope N ps ["__class__"] (defScope st)) (gm : mg "super" = none) (ks : (defScope st).names.lookup ("super" : Str) = some .globalImplicit)
    (p0s : ps[0]? = some ("self" : Str)) (hat : (m == ("__class__" : Str)) = false)
    (hb : defBody st = .Expr (.Call (.Attribute (.Call (.Name "super" p0) [] [] p1) m apos) (e :: es) [] pos) pos2 :: rest)
    (hM : SupM K C D m g) (G : FnOk P w K mg base CXf j g gd ps2 sp2) (bG : Binds K gd ps2 [])
    (len : ∀ vs H Q E, sp vs H Q E → vs.length = ps.length)
    (hbody : ∀ (A : Around) (outer : List Env) (s : Shared) (H : Hp) (vs : List V) (Q : VK) (E : XK), Room k (A.deeper (envF (supNF x qual st cc cda) f s.heap.objs.size)) → sp vs H Q E →
      ∃ (t : TA) (u : TS) (xa dx : Addr) (fs : List (Str × V)) (E2 : XK), vs[0]? = some (.ref xa) ∧ H xa = some (.ins C dx fs) ∧ Room j (A.deeper (envF (supNF x qual st cc cda) f s.heap.objs.size)) ∧
        (∀ σ, PassesAt CXf (supCx CX P w K mg base N x qual st f cc cda A outer s H E) σ E2) ∧
        PA (supCx CX P w K mg base N x qual st f cc cda A outer s H E) (e :: es) t ∧ PSs (supCx CX P w K mg base N x qual st f cc cda A outer s H E) rest u ∧
        t (startF N vs [some (.ref D)]) H (fun us H1 => sp2 (.ref xa :: us) H1 (fun _ H2 => u { nx := fun _ H' => Q .non H', rt := Q } (startF N vs [some (.ref D)]) H2) E2))
    (ht : ∀ env : Env, eval (.Call (.Attribute (.Call (.Name "super" p0) [] [] p1) m apos) (e :: es) [] pos) env = (do
      let ov ← attributeBase (.Call (.Name "super" p0) [] [] p1) m env (eval (.Call (.Name "super" p0) [] [] p1) env)
      standAt apos.atName
      let (f, first) ← holding [ov] (getMethod ov m pl)
      callWith pos f first (backTo pos (starEach (e :: es) env)) []) := by intro _; rfl)
    (hst : ∀ env : Env, starEach (e :: es) env = (false, eval e env) :: starEach es env := by intro _; rfl) (hpl : ∀ env : Env, (backTo pos (starEach es env)).any (·.1) = false := by intro _; rfl)
    (hi : ∀ env : Env, env.scope = defScope st → interactive env = false := by intro _ z; unfold interactive; rw [z]; rfl)
    (hsw : ∀ env : Env, swapsWith (.Call (.Attribute (.Call (.Name "super" p0) [] [] p1) m apos) (e :: es) [] pos) none pos2.line env = pure false := by intro _; rfl) :
    FnOk P w K mg base CX (k + 1) f fd ps sp := by
  obtain ⟨oc, od, dV, kV, doc, pm, an, ct, osl, rfl, lk, hcd⟩ := F.ex
  obtain ⟨cl, cld, csl, lc⟩ := F.cell
  obtain ⟨ccl, cdd, cvs, ccs, file, tf, lcode, hvs, hfile⟩ := F.code
  obtain ⟨cdD, hD⟩ := F.cls
  obtain ⟨ar, har, hself⟩ := F.arg
  refine ⟨len, fun A outer s H args us vs Q E hr e0 hbind r hsp => ?_⟩
  have hl := len _ _ _ _ hsp
  have KX : K.In s.heap := e0.mod.kin.keeps fun b o e => (e0.bs b o e).1
  have lim : s.heap.NoLimit := e0.mod.nolimit.keeps fun b o e => (e0.bs b o e).1
  refine codeAny_call_function hr.depth (KX _ _ lk) rfl S.co S.gen rfl (PySem.W.codeRec_of KX hcd) (hbind _ _ _ _ ?_)
  refine wpAny_newFunctionEnv S.nocell (fun ⟨n, _⟩ hy => S.par n (List.of_mem_zip hy).1) (fun h₁ hns hsb => ⟨lim.fresh _ hsb, ?_⟩) S.kind
  show codeAny _ _ (.func (defBody st) (envF (supNF x qual st cc cda) f s.heap.objs.size)) _ _
  refine ks_codeAny_funcAt ?_
  have kp : ∀ b o, s.heap.get? b = some o → h₁.get? b = some o := fun b o e => hsb.extBut b o (Nat.ne_of_lt (Heap.lt_size e)) (Heap.get?_push_of_some _ e)
  obtain ⟨t, u, xa, dx, fs, E2, hv0, hxa, hrj, hx, ha, hrest, asked⟩ := hbody A outer s H vs Q E (hr.deeper _) hsp
  have one : ∀ {y : Str} {c : Addr}, List.lookup y [(("__class__" : Str), cc)] = some c → y = "__class__" ∧ c = cc := fun {y c} z => by
    simp only [List.lookup] at z
    split at z
    · rename_i q
      exact ⟨eq_of_beq q, (Option.some.inj z).symm⟩
    · cases z
  have hcc : s.heap.IsCell cc (some (.ref D)) := ⟨_, KX _ _ lc, rfl⟩
  have C0 : CellsAt (supNF x qual st cc cda).cl ["__class__"] [some (.ref D)] s.heap H := by
    refine ⟨rfl, fun y c z => ?_, fun y y' c z z' => (one z).1.trans (one z').1.symm, fun i y hi => ?_⟩
    · rw [(one z).2]
      exact ⟨(e0.bs _ _ (e0.mod.kin _ _ lc)).2, _, hcc⟩
    · match i, hi with
      | 0, hi =>
        cases hi
        refine ⟨cc, by simp [List.lookup], fun v hv => ?_⟩
        have hv : (some (V.ref D) : Option V) = some v := by simpa using hv
        cases hv
        exact ⟨.ref D, rfl, hcc⟩
  have I : L2.Inv (supCx CX P w K mg base N x qual st f cc cda A outer s H E) [] (startF N vs [some (.ref D)]) H { s with heap := h₁, toks := s.toks + (ps.zip us).length } := inv_startN S hr.hd e0 hl r C0 hns kp
  generalize { s with heap := h₁, toks := s.toks + (ps.zip us).length } = s1 at I ⊢
  have KX1 : K.In s1.heap := I.kIn
  rw [hb]
  refine ks_wpAt_execs_cons (ks_wpAt_Expr_any (ks_wpAt_MethodCall (pl := pl) ?_ (ht _)) (hi _ rfl) (hsw _))
  -- super()
  have kc : (defScope st).names.lookup ("__class__" : Str) = some .free := S.frk _ List.mem_cons_self
  refine ks_wpAt_super_base (env := envF (supNF x qual st cc cda) f s.heap.objs.size) ks kc hat rfl (KX1 _ _ lk) rfl har rfl (KX1 _ _ lcode) rfl hvs hfile F.top ?_
  obtain ⟨mb, hb1, hb2⟩ := I.mod.blt
  have X := supCx CX P w K mg base N x qual st f cc cda A outer s H E
  refine PySem.W.ks_loadName_global S.kind ks (Calls.loadGlobal_builtin (I.mod.glob.keeps I.bk) gm (hb1.keeps I.bk) ((hb2 "super" (by decide)).trans (by first | boot_by_name | rfl | kernel_rfl)) ⟨rfl, ?_⟩)
  refine wpAny_loadName_free (c := cc) S.kind kc (by simp [List.lookup]) ⟨_, KX1 _ _ lc, rfl⟩ ?_
  rw [hself]
  obtain ⟨m0, hn0, hl0⟩ := I.loc
  have pre0 : N[0]? = some ("self" : Str) := by
    have y := congrArg (fun l => l[0]?) S.pre
    have p0 : 0 < ps.length := (List.getElem?_eq_some_iff.mp p0s).1
    rw [List.getElem?_take_of_lt (by omega), List.getElem?_append_left p0] at y
    exact y.trans p0s
  have st0 : (startF N vs [some (.ref D)])[0]? = some (some (.ref xa)) := by
    have v0 : 0 < vs.length := (List.getElem?_eq_some_iff.mp hv0).1
    unfold startF
    rw [List.getElem?_append_left (by rw [List.length_map]; exact v0), List.getElem?_map, hv0]
    rfl
  obtain ⟨u0, ru0, lu0⟩ := hl0 0 "self" (.ref xa) pre0 st0 (.inl (S.par _ (List.mem_of_getElem? p0s)))
  obtain rfl : u0 = Value.ref xa := ru0
  have ld : m0 ("self" : Str) = some (.ref xa) := by
    rcases lu0 with ⟨_, z⟩ | ⟨z, _⟩
    · exact z
    · rcases z with z | z
      · have := (S.par _ (List.mem_of_getElem? p0s)).symm.trans z
        cases this
      · have := (S.par _ (List.mem_of_getElem? p0s)).symm.trans z
        cases this
  refine wpAny_loadName_local S.kind (S.par _ (List.mem_of_getElem? p0s)) hn0 ld ?_
  obtain ⟨oD, hD1, hD2⟩ : ∃ oD, s1.heap.get? D = some oD ∧ oD.data = .cls cdD := by
    have hD' := hD
    unfold PySem.W.clsIn at hD'
    split at hD'
    · rename_i c d cd' sl ho
      cases hD'
      exact ⟨_, KX1 _ _ ho, rfl⟩
    · cases hD'
  obtain ⟨mA, O, _, _, _, _⟩ := ins_get I.hok hxa
  obtain ⟨odd, J, _⟩ := O.look
  obtain ⟨hh, gg, dd, tt, oss⟩ := s1
  refine ks_wpAny_isType_cls hD1 hD2 ⟨rfl, ?_⟩
  refine ks_wpAny_call_super hD1 hD2 J.at_ J.cls (fun c z => ?_) (PySem.W.looks_mroIn KX1 hM.sub) (fun h' hso k' => ?_)
  · have y := J.no
    unfold PySem.W.notCls at y
    rw [z] at y
    exact Bool.noConfusion y
  have I2 : L2.Inv (supCx CX P w K mg base N x qual st f cc cda A outer s H E) [] (startF N vs [some (.ref D)]) H ⟨h', gg, dd, tt, oss⟩ := I.kept (t' := tt) k'
  have KX2 : K.In h' := I2.kIn
  have J2 : ∃ ox odx, PySem.W.InstAt h' xa ox C odx := by
    obtain ⟨mA, O, _, _, _, _⟩ := ins_get I2.hok hxa
    obtain ⟨od2, J2, _⟩ := O.look
    exact ⟨_, _, J2⟩
  obtain ⟨ox2, odx2, J2⟩ := J2
  cases hc : PySem.W.clsIn K C with
  | none =>
    have z := hM.at_
    unfold PySem.W.ks_superIn at z
    rw [hc] at z
    cases z
  | some cd =>
    have hm := hM.at_
    unfold PySem.W.ks_superIn at hm
    rw [hc] at hm
    obtain ⟨of, hof, hofc⟩ : ∃ of, h'.get? g = some of ∧ of.cls = .type "function" := by
      have ht' : (K.lookup g).map (·.cls) = some (.type "function") := hM.ty
      cases z : K.lookup g with
      | none => rw [z] at ht'; cases ht'
      | some of => rw [z] at ht'; exact ⟨of, KX2 _ _ z, Option.some.inj ht'⟩
    refine ks_wpAny_getMethod_super hso (PySem.W.looks_opaque KX2 F.any) (l₀ := cd.mro) (fun A Q E s k q => wpAny_bind ((PySem.W.looks_clsIn KX2 hc) A _ E s k (wpAny_pure q))) rfl KX2 hm hof hofc (PySem.W.ks_ne KX2 J2 hc) hat ?_
    have I3 := ClX.met_new (g := g) (C := xa) I2
    refine ClX.callwith_cm (X := supCx CX P w K mg base N x qual st f cc cda A outer s H E) I3 (ClX.base_none I2 (Nat.le_refl _)) hM.fi (thn (ha.run pos _ _ _ H _ I3 asked) fun us2 s3 ⟨vs2, H2, I4, rv2, q2⟩ => ⟨⟨ClX.pin_at I4, I4.kIn⟩, ?_⟩) (hst _) (hpl _)
    have l2 : (Value.ref xa :: us2).length = ps2.length := by
      rw [← G.len _ _ _ _ q2, List.length_cons, List.length_cons, rv2.length]
    have bnd := bG s3 (.ref xa :: us2) I4.kIn (by rw [List.append_nil]; exact l2)
    rw [List.append_nil] at bnd
    refine thn (Q := EP (supCx CX P w K mg base N x qual st f cc cda A outer s H E) ((h'.objs.size, PySem.W.methodObj (.ref g) (.ref xa)) :: []) (startF N vs [some (.ref D)]) (fun _ H2 => u { nx := fun _ H' => Q .non H', rt := Q } (startF N vs [some (.ref D)]) H2))
      (wpAny_call (PySem.W.method_call (ClX.pin_at I4) (codeAny_mono (G.run (A.deeper (envF (supNF x qual st cc cda) f s.heap.objs.size)) (supCx CX P w K mg base N x qual st f cc cda A outer s H E).stack s3 H2 ⟨.ref xa :: us2, []⟩ (.ref xa :: us2) (.ref xa :: vs2) _ E2 hrj I4.env0 bnd (.cons rfl rv2) q2) fun r s' z => ?_))) fun _ s4 z => ?_
    · cases r with
      | error er => exact hx _ _ H2 s3 er s' I4 z
      | ok fl =>
        cases fl with
        | ret u => exact I4.after z
        | next => exact z.elim
        | brk => exact z.elim
        | cont => exact z.elim
    · obtain ⟨v5, H5, I5, _, q5⟩ := ClX.unpinE z
      refine wpAt_of_wpAny (wpAny_mono (hrest.run [] _ _ H5 _ I5 q5) (fun fl s' hs => ?_) fun e s' hs => hs)
      have fin : ∀ {σ' : L2.St} {H' : Hp} {v : V} {u : Value}, L2.Inv (supCx CX P w K mg base N x qual st f cc cda A outer s H E) [] σ' H' s' → L2.RelV v u → Q v H' → CE outer P w H s Q u s' :=
        fun {σ' H' v u} J rv q => ⟨v, H', J.os, J.bare, J.base, J.hok, rv, q⟩
      cases fl with
      | ret u =>
        obtain ⟨v, σ', H', J, rv, q⟩ := hs
        exact fin J rv q
      | next =>
        obtain ⟨σ', H', J, q⟩ := hs
        exact fin (v := V.non) (u := Value.none) J rfl q
      | brk =>
        obtain ⟨_, _, _, q⟩ := hs
        exact False.elim q
      | cont =>
        obtain ⟨_, _, _, q⟩ := hs
        exact False.elim q
end
end Pm
namespace Pm
open PySem PySem.Spec PyProof.Rows L2 SX NdefX
/-! ### rules -/
structure RCls (K : PySem.W.Frag) (C : Addr) : Prop where
  cl : L2.Cls K C
  nS : NoAttr K C "stone"
  nC : NoAttr K C "_conditions"
  nN : NoAttr K C "need"
def faultR (st : List Nat) (cs : List Cnd) : Option Nat := if stoneB st then fstBad 1 [] cs else some 0
theorem fst_none : ∀ {cs : List Cnd} {i : Nat} {seen : List (Int × Int)}, fstBad i seen cs = none → (cs.map (·.1)).Nodup ∧ (∀ c ∈ cs, c.1 ∉ seen) ∧ (∀ c ∈ cs, placeB c.1 = true ∧ diffB 35 c.2 = true) ∧ (cs ≠ [] → i + cs.length ≤ 9)
  | [], _, _, _ => ⟨List.nodup_nil, (fun c m => nomatch m), (fun c m => nomatch m), fun z => absurd rfl z⟩
  | c :: r, i, seen, h => by
    rw [fst_step] at h
    split at h
    · cases h
    rename_i nb
    obtain ⟨h1, h2, h3, h4⟩ := fst_none h
    unfold badAt at nb
    simp only [Bool.or_eq_true, Bool.not_eq_true', decide_eq_true_eq, not_or, Bool.not_eq_false] at nb
    obtain ⟨⟨⟨a, b⟩, c1⟩, d⟩ := nb
    refine ⟨List.nodup_cons.mpr ⟨fun m => ?_, h1⟩, fun x m => ?_, fun x m => ?_, fun _ => ?_⟩
    · obtain ⟨x, mx, e⟩ := List.mem_map.mp m
      exact h2 x mx (by rw [e]; exact List.mem_cons_self)
    · rcases List.mem_cons.mp m with e | m
      · rw [e]
        exact c1
      · exact fun y => h2 x m (List.mem_cons_of_mem _ y)
    · rcases List.mem_cons.mp m with e | m
      · rw [e]
        exact ⟨b, d⟩
      · exact h3 x m
    · by_cases e : r = []
      · rw [e, List.length_singleton]
        omega
      · have := h4 e
        rw [List.length_cons]
        omega
section
variable {P : Program} {w : World} {K : PySem.W.Frag} {mg : Str → Option Value} {base : Heap} {C CI : Addr}
/-- an error that leaves a constructor: the object at r is lost -/
def LetsB (r : Addr) (E : XK) (C : Addr) (fs : List (Str × V)) (H : Hp) : Prop := ∀ d H', H d = none → H' d = some (.xd fs) → SameBut r H H' → E (.ref C) (some d) H'
theorem LetsB.lets {r : Addr} {E : XK} {C : Addr} {fs : List (Str × V)} {H : Hp} (h : LetsB r E C fs H) : Lets E C fs H := fun d H' nd hd sg => h d H' nd hd (same_sb sg)
def spRuleInit (CI : Addr) (K : PySem.W.Frag) : Sp := fun vs H Q E => ∃ r dx C st a ks, vs = [.ref r, .str (S st), .ref a] ∧ RCls K C ∧ H r = some (.ins C dx []) ∧ CndsAt H a ks ∧ st.length ≤ 1000 ∧ ks.length ≤ 1000 ∧ (∀ q ∈ ks, q.2.2.length ≤ 1000) ∧
  (∀ p, faultR st (ks.map (·.2)) = some p → LetsB r E CI [("part", .int (p : Int))] H) ∧
  (faultR st (ks.map (·.2)) = none → ∀ H' l ms, SameBut r H H' → H l = none → H' r = some (.ins C dx [("stone", .str (S st)), ("_conditions", .ref l)]) → CndsAt H' l ms → (ms.map (·.2)).Perm ((ks.map (·.2)).map ascC) → Ord (ms.map (·.2)) → Q .non H')
theorem scRuleInit : FnScope ["self", "stone", "conditions"] ["self", "stone", "conditions"] (defScope cRuleInit) := ⟨rfl, rfl, rfl, by decide +kernel, rfl, by decide +kernel, by decide +kernel⟩
theorem ok_ruleinit {f i c o e : Addr} {fd di dc do_ ed : FuncData} (F : Fun K "__init__" "Rule.__init__" cRuleInit f fd) (Is : Cl P w K mg base CX0 1 "is_stone" ["sign"] spStone i di) (Ck : Cl P w K mg base (L2.CX P w) 3 "_check_conditions" ["conditions"] (spCheck CI) c dc) (Io : Cl P w K mg base CX0 2 "_in_order" ["conditions"] spInOrder o do_)
    (Ex : EMk P w K mg base CI "InvalidRule" ["self", "part"] (spE1 CI "part") e ed) : FnOk P w K mg base (L2.CX P w) 4 f fd ["self", "stone", "conditions"] (spRuleInit CI K) := by
  refine F.okX scRuleInit (fun vs H Q E h => ?_) (fun cdv A outer s H vs Q E hr h => ?_)
  · obtain ⟨r, dx, C, st, a, ks, rfl, _⟩ := h
    rfl
  · obtain ⟨r, dx, C, st, a, ks, rfl, T, hr0, hc, fs, few, each, bad, good⟩ := h
    have hr1 : Room 1 _ := hr.mono (by decide)
    have hr2 : Room 2 _ := hr.mono (by decide)
    refine ⟨_, (pss_cons (ps_if (pt_not (pt_val (pe_call Is.ok hr1 (by rfl) Is.gl Is.kp Is.bd .nil pass0 (pa_cons (pv 1) pa_nil)))) (pss_one (ps_raise rfl (takes_of rfl rfl rfl rfl) (pmk_oex Ex.T Ex.at_ Ex.ty Ex.ok hr2 Ex.bd .nil pass0 (by rfl) Ex.gl (pa_cons pe_int pa_nil)))) pss_nil)
      (pss_cons (ps_expr (pe_callS (E := fun _ => E) Ck.ok hr (by rfl) Ck.gl Ck.kp Ck.bd (fun σ pins H s e s' I c => passes_call (takes_of rfl rfl rfl rfl) (fun _ _ _ _ z => z) pins σ H s e s' I c) (pa_cons (pv 2) pa_nil)))
      (pss_cons (ps_fld (pv 0) (pv 1) rfl)
      (pss_one (ps_fld (pv 0) (pe_call Io.ok hr2 (by rfl) Io.gl Io.kp Io.bd .nil pass0 (pa_cons (pv 2) pa_nil)) rfl))))), ?_⟩
    refine ⟨_, rfl, st, rfl, fs, _, rfl, ?_⟩
    cases e0 : stoneB st with
    | false =>
      refine iteT ⟨by show 1 ≤ 1000; decide, fun x nx => ⟨x, _, rfl, upd_same, fun H2 d h1 h2 nd ne sb => ⟨rfl, d, _, h1, h2, ?_, ?_⟩⟩⟩
      · rwa [upd_ne ne] at nd
      · exact bad 0 (by unfold faultR; rw [e0]; rfl) d _ (by rwa [upd_ne ne] at nd) upd_same (same_sb (on_way nx nd ne sb))
    | true =>
      have ef : faultR st (ks.map (·.2)) = fstBad 1 [] (ks.map (·.2)) := by unfold faultR; rw [e0]; rfl
      refine iteF ?_
      refine ⟨_, rfl, a, ks, rfl, hc, few, each, fun p hp => (bad p (ef.trans hp)).lets, fun hn H1 s1 => ?_⟩
      have nd : (ks.map fun q => q.2.1).Nodup := by
        have y := (fst_none hn).1
        rw [List.map_map] at y
        exact y
      refine ⟨_, rfl, _, rfl, r, C, dx, [], rfl, s1 _ _ hr0, T.cl, T.nS, by show 0 < 1000; decide, ?_⟩
      have ner : ∀ b o, b ≠ r → H b = some o → upd H1 r (.ins C dx [("stone", V.str (S st))]) b = some o := fun b o nb e => by
        rw [upd_ne nb]
        exact s1 _ _ e
      have nar : a ≠ r := ne_of hc.lst hr0 (by intro z; cases z)
      have hc2 : CndsAt (upd H1 r (.ins C dx [("stone", V.str (S st))])) a ks := ⟨ner _ _ nar hc.lst, fun q hq => ner _ _ (ne_of (hc.each q hq) hr0 (by intro z; cases z)) (hc.each q hq)⟩
      refine ⟨_, rfl, a, ks, rfl, hc2, few, each, nd, fun l ms H2 s2 nl hm pm od => ?_⟩
      have hr2' : H2 r = some (.ins C dx [("stone", V.str (S st))]) := s2 _ _ upd_same
      refine ⟨_, rfl, r, C, dx, _, rfl, hr2', T.cl, T.nC, by show 1 < 1000; decide, ?_⟩
      have nl0 : H l = none := by
        cases z : H l with
        | none => rfl
        | some o =>
          have y : l ≠ r := fun e => by
            rw [e, upd_same] at nl
            cases nl
          have y2 := (ner _ _ y z).symm.trans nl
          cases y2
      have nlr : l ≠ r := ne_of hm.lst hr2' (by intro z; cases z)
      refine good (ef.trans hn) _ l ms (fun b o nb e => ?_) nl0 (by rw [upd_same]; rfl) ⟨?_, fun q hq => ?_⟩ pm od
      · rw [upd_ne nb]
        exact s2 _ _ (ner _ _ nb e)
      · rw [upd_ne nlr]
        exact hm.lst
      · rw [upd_ne (ne_of (hm.each q hq) hr2' (by intro z; cases z))]
        exact hm.each q hq
end
end Pm
namespace Pm
open PySem PySem.Spec PyProof.Rows L2 SX NdefX
/-- what a rule with a need refuses -/
def faultC (st : List Nat) (cs : List Cnd) (n : Int) : Option Nat := match faultR st cs with
  | some p => some p
  | none => if 0 ≤ n ∧ n ≤ (cs.length : Int) then none else some 0
def faultS (cs : List Cnd) (n : Int) : Option Nat := match fstBad 1 [] cs with
  | some p => some p
  | none => if 0 ≤ n ∧ n ≤ (cs.length : Int) then none else some 0
section
variable {P : Program} {w : World} {K : PySem.W.Frag} {mg : Str → Option Value} {base : Heap} {C CI D : Addr}
def spCountInit (CI C : Addr) (K : PySem.W.Frag) : Sp := fun vs H Q E => ∃ r dx st a ks n, vs = [.ref r, .str (S st), .ref a, .int n] ∧ H r = some (.ins C dx []) ∧ CndsAt H a ks ∧ st.length ≤ 1000 ∧ ks.length ≤ 1000 ∧ (∀ q ∈ ks, q.2.2.length ≤ 1000) ∧
  (∀ p, faultC st (ks.map (·.2)) n = some p → LetsB r E CI [("part", .int (p : Int))] H) ∧
  (faultC st (ks.map (·.2)) n = none → ∀ H' l ms, SameBut r H H' → H l = none → H' r = some (.ins C dx [("stone", .str (S st)), ("_conditions", .ref l), ("need", .int n)]) → CndsAt H' l ms → (ms.map (·.2)).Perm ((ks.map (·.2)).map ascC) → Ord (ms.map (·.2)) → Q .non H')
abbrev nCountInit : List Str := ["self", "stone", "conditions", "need", "__class__"]
theorem scCountInit : NScope nCountInit ["self", "stone", "conditions", "need"] ["__class__"] (defScope cCountRuleInit) := nscope_by (by decide +kernel)
theorem ok_countinit {f cc cda g c : Addr} {fd gd dc : FuncData} (F : FunS P K "__init__" "CountRule.__init__" cCountRuleInit C f cc cda fd) (gm : mg "super" = none) (hM : SupM K C C "__init__" g) (G : FnOk P w K mg base (L2.CX P w) 4 g gd ["self", "stone", "conditions"] (spRuleInit CI K)) (bG : Binds K gd ["self", "stone", "conditions"] [])
    (Nd : Cl P w K mg base (L2.CX P w) 3 "_check_need" ["need", "count"] (spNeed CI) c dc) (L : LTxt K mg) (T : RCls K C) : FnOk P w K mg base (L2.CX P w) 5 f fd ["self", "stone", "conditions", "need"] (spCountInit CI C K) := by
  refine supfn_of (k := 4) (j := 4) F scCountInit gm rfl rfl rfl rfl hM G bG (fun vs H Q E h => ?_) (fun A outer s H vs Q E hr h => ?_)
  · obtain ⟨r, dx, st, a, ks, n, rfl, _⟩ := h
    rfl
  · obtain ⟨r, dx, st, a, ks, n, rfl, hr0, hc, fs, few, each, bad, good⟩ := h
    have hr3 : Room 3 _ := hr.mono (by decide)
    refine ⟨_, _, r, dx, [], E, rfl, hr0, hr, fun σ pins H s e s' I c => passes_call (takes_of rfl rfl rfl rfl) (fun _ _ _ _ z => z) pins σ H s e s' I c, (pa_cons (pv 1) (pa_cons (pv 2) pa_nil)), (pss_cons (ps_expr (pe_callS (E := fun _ => E) Nd.ok hr3 (by rfl) Nd.gl Nd.kp Nd.bd (fun σ pins H s e s' I c => passes_call (takes_of rfl rfl rfl rfl) (fun _ _ _ _ z => z) pins σ H s e s' I c) (pa_cons (pv 3) (pa_cons (pe_callB call_len_seq (by rfl) L.len PySem.boot_len (pa_cons (pv 2) pa_nil)) pa_nil))))
      (pss_one (ps_fld (pv 0) (pv 3) rfl))), ?_⟩
    refine ⟨_, rfl, _, rfl, r, dx, C, st, a, ks, rfl, T, hr0, hc, fs, few, each, fun p hp => bad p (by unfold faultC; rw [hp]), fun hn H1 l ms s1 nl hr1 hm pm od => ?_⟩
    have nar : a ≠ r := ne_of hc.lst hr0 (by intro z; cases z)
    have len : (refC ks).length = (ks.map (·.2)).length := by unfold refC; rw [List.length_map, List.length_map]
    refine ⟨_, rfl, _, rfl, a, _, rfl, .inl (SqL.of (s1 _ _ nar hc.lst)), n, _, rfl, fun nb => ?_, fun ok => ?_⟩
    · have lt : LetsB r E CI [("part", .int 0)] H := bad 0 (by
        unfold faultC
        rw [hn]
        show (if _ then _ else _) = _
        rw [if_neg (by rw [← len]; exact nb)])
      intro d H' nd hd sg
      have nd0 : H d = none := by
        cases z : H d with
        | none => rfl
        | some o =>
          have y : d ≠ r := fun e => by
            rw [e, hr1] at nd
            cases nd
          rw [s1 _ _ y z] at nd
          cases nd
      exact lt d H' nd0 hd (sb_trans s1 (same_sb sg))
    · refine ⟨_, rfl, _, rfl, r, C, dx, _, rfl, hr1, T.cl, T.nN, by show 2 < 1000; decide, ?_⟩
      have nlr : l ≠ r := ne_of hm.lst hr1 (by intro z; cases z)
      refine good (by unfold faultC; rw [hn]; exact if_pos (by rw [← len]; exact ok)) _ l ms (fun b o nb e => ?_) nl (by rw [upd_same]; rfl) ⟨?_, fun q hq => ?_⟩ pm od
      · rw [upd_ne nb]
        exact s1 _ _ nb e
      · rw [upd_ne nlr]
        exact hm.lst
      · rw [upd_ne (ne_of (hm.each q hq) hr1 (by intro z; cases z))]
        exact hm.each q hq
end
end Pm
namespace Pm
open PySem PySem.Spec PyProof.Rows L2 SX NdefX
theorem emp_S : ("" : Str) = S [] := by decide +kernel
def alphaL : List Nat := unS alphaS
theorem alphaL_S : S alphaL = alphaS := S_unS _
theorem alphaL_len : alphaL.length = 26 := by decide +kernel
/-- pairs of ints in the heap -/
def PairO (p : Int × Int) : HO := .tup [.int p.1, .int p.2]
structure PairsAt (H : Hp) (a : Addr) (ps : List (Addr × (Int × Int))) : Prop where
  lst : H a = some (.lst (ps.map fun q => V.ref q.1))
  each : ∀ q ∈ ps, H q.1 = some (PairO q.2)
def wideC (p : Int × Int) : Cnd := (p, alphaL)
section
variable {P : Program} {w : World} {K : PySem.W.Frag} {mg : Str → Option Value} {base : Heap} {C CI D : Addr}
def spSameInit (CI C : Addr) (K : PySem.W.Frag) : Sp := fun vs H Q E => ∃ r dx a ps n, vs = [.ref r, .ref a, .int n] ∧ H r = some (.ins C dx []) ∧ PairsAt H a ps ∧ ps.length ≤ 1000 ∧
  (∀ p, faultS (ps.map fun q => wideC q.2) n = some p → LetsB r E CI [("part", .int (p : Int))] H) ∧
  (faultS (ps.map fun q => wideC q.2) n = none → ∀ H' l ms, SameBut r H H' → H l = none → H' r = some (.ins C dx [("stone", .str ""), ("need", .int n), ("_conditions", .ref l)]) → CndsAt H' l ms → (ms.map (·.2)).Perm ((ps.map fun q => wideC q.2).map ascC) → Ord (ms.map (·.2)) → Q .non H')
abbrev nSameInit : List Str := ["self", "places", "need", "conditions", "dx", "dy"]
theorem scSameInit : FnScope nSameInit ["self", "places", "need"] (defScope cSameRuleInit) := ⟨rfl, rfl, rfl, by decide +kernel, rfl, by decide +kernel, by decide +kernel⟩
theorem ok_sameinit {f c o d : Addr} {fd dc do_ dd : FuncData} (F : Fun K "__init__" "SameRule.__init__" cSameRuleInit f fd) (Ck : Cl P w K mg base (L2.CX P w) 3 "_check_conditions" ["conditions"] (spCheck CI) c dc) (Io : Cl P w K mg base CX0 2 "_in_order" ["conditions"] spInOrder o do_)
    (Nd : Cl P w K mg base (L2.CX P w) 3 "_check_need" ["need", "count"] (spNeed CI) d dd) (L : LTxt K mg) (Tx : PTxt K mg D) (T : RCls K C) : FnOk P w K mg base (L2.CX P w) 5 f fd ["self", "places", "need"] (spSameInit CI C K) := by
  refine F.okX scSameInit (fun vs H Q E h => ?_) (fun cdv A outer s H vs Q E hr h => ?_)
  · obtain ⟨r, dx, a, ps, n, rfl, _⟩ := h
    rfl
  · obtain ⟨r, dx, a, ps, n, rfl, hr0, hp, few, bad, good⟩ := h
    obtain ⟨uS, hS, rS⟩ := Tx.stones
    have hr2 : Room 2 _ := hr.mono (by decide)
    have hr3 : Room 3 _ := hr.mono (by decide)
    refine ⟨_, (pss_cons (ps_setLc (i := 3) (own := [("dx", 4), ("dy", 5)]) (g := (gTup K 2 (gCons (gName 4) (gCons (gName 5) gNil)))) (tt := tYes) rfl scSameInit.nd rfl rfl (sw_true rfl rfl rfl (by decide +kernel)) (pi_list (pv 1)) (blkOk_by (own := [("dx", 4), ("dy", 5)]) (N := nSameInit) (sc := defScope cSameRuleInit) (by decide +kernel)) (fun _ _ _ _ _ => (pg_tup rfl (pgs_cons (pg_name (i := 4) scSameInit.nd rfl (.inl rfl)) (pgs_cons (pg_name (i := 5) scSameInit.nd rfl (.inl rfl)) pgs_nil)))) (fun _ _ _ _ _ => pts_nil) (fun _ _ _ _ _ => (pe_tup (pa_cons (pv 4) (pa_cons (pv 5) (pa_cons (pe_glob (by rfl) hS rS) pa_nil))))))
      (pss_cons (ps_expr (pe_callS (E := fun _ => E) Ck.ok hr3 (by rfl) Ck.gl Ck.kp Ck.bd (fun σ pins H s e s' I c => passes_call (takes_of rfl rfl rfl rfl) (fun _ _ _ _ z => z) pins σ H s e s' I c) (pa_cons (pv 3) pa_nil)))
      (pss_cons (ps_expr (pe_callS (E := fun _ => E) Nd.ok hr3 (by rfl) Nd.gl Nd.kp Nd.bd (fun σ pins H s e s' I c => passes_call (takes_of rfl rfl rfl rfl) (fun _ _ _ _ z => z) pins σ H s e s' I c) (pa_cons (pv 2) (pa_cons (pe_callB call_len_seq (by rfl) L.len PySem.boot_len (pa_cons (pv 3) pa_nil)) pa_nil))))
      (pss_cons (ps_fld (pv 0) pe_str rfl)
      (pss_cons (ps_fld (pv 0) (pv 2) rfl)
      (pss_one (ps_fld (pv 0) (pe_call Io.ok hr2 (by rfl) Io.gl Io.kp Io.bd .nil pass0 (pa_cons (pv 3) pa_nil)) rfl))))))), ?_⟩
    refine ⟨.ref a, rfl, a, rfl, ⟨_, SqL.of hp.lst⟩, fun D nD => lc_list (K := K) (a := a) (xs := ps.map fun q => V.ref q.1) (fun i G => ∃ ks : List (Addr × Cnd), Same H G ∧ G D = some (.lst (refC ks)) ∧ (∀ q ∈ ks, G q.1 = some (CondO q.2)) ∧ ks.map (·.2) = (ps.take i).map fun q => wideC q.2) ⟨[], same_upd nD, upd_same, (fun p hp => nomatch hp), rfl⟩ (fun i G _ ⟨ts, sm, _⟩ => SqL.of (sm _ _ hp.lst)) ?_ ?_⟩
    · rintro i x G hx ⟨ks, sm, hD, hks, ek⟩
      rw [List.getElem?_map] at hx
      obtain ⟨q, hi, rfl⟩ : ∃ q, ps[i]? = some q ∧ x = V.ref q.1 := by
        cases e : ps[i]? with
        | none =>
          rw [e] at hx
          cases hx
        | some p =>
          rw [e] at hx
          cases hx
          exact ⟨p, rfl, rfl⟩
      have htc := sm _ _ (hp.each q (List.mem_of_getElem? hi))
      have li : i < ps.length := (List.getElem?_eq_some_iff.mp hi).1
      refine ⟨q.1, _, rfl, SqT.of htc, rfl, _, _, rfl, _, _, rfl, rfl, rfl, ?_⟩
      refine tyes (iteT ⟨_, rfl, _, rfl, by show 3 ≤ sizeLine; decide, fun T nT => ?_⟩)
      have s3 := same_upd (o := .tup [.int q.2.1, .int q.2.2, .str alphaS]) nT
      have nDT : D ≠ T := ne_of_none hD nT
      refine ⟨refC ks, s3 _ _ hD, ?_, ks ++ [(T, wideC q.2)], fun b o e => ?_, ?_, fun p hp => ?_, ?_⟩
      · have := congrArg List.length ek
        rw [List.length_map, List.length_map, List.length_take] at this
        rw [show (refC ks).length = ks.length from List.length_map _]
        exact small1000 (by omega)
      · rw [upd_ne (ne_of_none e nD)]
        exact s3 _ _ (sm _ _ e)
      · rw [upd_same]
        unfold refC
        rw [List.map_append]
        rfl
      · rcases List.mem_append.mp hp with z | z
        · have y := s3 _ _ (hks p z)
          rw [upd_ne (fun e => ?_)]
          · exact y
          · rw [e, s3 _ _ hD] at y
            cases y
        · rw [List.mem_singleton.mp z]
          rw [upd_ne nDT.symm, upd_same]
          show _ = some (HO.tup [.int q.2.1, .int q.2.2, .str (S alphaL)])
          rw [alphaL_S]
      · rw [List.map_append, ek, List.take_add_one, hi, List.map_append]
        rfl
    · rintro G ⟨ks, sm, hD, hks, ek⟩
      rw [List.length_map, List.take_of_length_le (Nat.le_refl _)] at ek
      have lk : ks.length = ps.length := by
        have := congrArg List.length ek
        rwa [List.length_map, List.length_map] at this
      have hcG : CndsAt G D ks := ⟨hD, hks⟩
      have each : ∀ q ∈ ks, q.2.2.length ≤ 1000 := fun q hq => by
        have m : q.2 ∈ ks.map (·.2) := List.mem_map.mpr ⟨q, hq, rfl⟩
        rw [ek] at m
        obtain ⟨p, _, e⟩ := List.mem_map.mp m
        rw [← e]
        show alphaL.length ≤ 1000
        rw [alphaL_len]
        decide
      have back2 : ∀ {G2 : Hp}, Same H G2 → ∀ p, faultS (ps.map fun q => wideC q.2) n = some p → Lets E CI [("part", .int (p : Int))] G2 := fun {G2} sg p e d H' nd hd s => bad p e d H' (back sg nd) hd (same_sb (sg.trans s))
      refine ⟨_, rfl, D, ks, rfl, hcG, by omega, each, fun p hf => back2 sm p (by unfold faultS; rw [← ek, hf]), fun hn G1 s1 => ?_⟩
      have len : (refC ks).length = (ps.map fun q => wideC q.2).length := by
        unfold refC
        rw [List.length_map, List.length_map, lk]
      have hn2 : fstBad 1 [] (ps.map fun q => wideC q.2) = none := by rw [← ek]; exact hn
      refine ⟨_, rfl, _, rfl, D, _, rfl, .inl (SqL.of (s1 _ _ hD)), n, _, rfl, fun nb => back2 (sm.trans s1) 0 ?_, fun ok => ?_⟩
      · unfold faultS
        rw [hn2]
        exact if_neg (by rw [← len]; exact nb)
      have sG1 := sm.trans s1
      have hrG := sG1 _ _ hr0
      refine ⟨_, rfl, r, C, dx, [], rfl, hrG, T.cl, T.nS, by show 0 < 1000; decide, ?_⟩
      refine ⟨_, rfl, _, rfl, r, C, dx, _, rfl, upd_same, T.cl, T.nN, by show 1 < 1000; decide, ?_⟩
      have hcU : CndsAt (upd (upd G1 r (.ins C dx [("stone", .str "")])) r (.ins C dx [("stone", .str ""), ("need", .int n)])) D ks := by
        refine ⟨?_, fun q hq => ?_⟩
        · have ne := ne_of (s1 _ _ hD) hrG (by intro z; cases z)
          rw [upd_ne ne, upd_ne ne]
          exact s1 _ _ hD
        · have y := s1 _ _ (hks q hq)
          have ne := ne_of y hrG (by intro z; cases z)
          rw [upd_ne ne, upd_ne ne]
          exact y
      have nd : (ks.map fun q => q.2.1).Nodup := by
        have y := (fst_none hn).1
        rw [List.map_map] at y
        exact y
      refine ⟨_, rfl, D, ks, rfl, hcU, by omega, each, nd, fun l ms H2 s2 nl hm pm od => ?_⟩
      have hr2' : H2 r = some (.ins C dx [("stone", .str ""), ("need", .int n)]) := s2 _ _ upd_same
      refine ⟨_, rfl, r, C, dx, _, rfl, hr2', T.cl, T.nC, by show 2 < 1000; decide, ?_⟩
      have sbU : SameBut r H (upd (upd G1 r (.ins C dx [("stone", .str "")])) r (.ins C dx [("stone", .str ""), ("need", .int n)])) := fun b o nb e => by
        rw [upd_ne nb, upd_ne nb]
        exact sG1 _ _ e
      have nl0 : H l = none := by
        cases z : H l with
        | none => rfl
        | some o =>
          have y : l ≠ r := fun e => by
            have nl2 : upd (upd G1 r (.ins C dx [("stone", .str "")])) r (.ins C dx [("stone", .str ""), ("need", .int n)]) l = none := nl
            rw [e, upd_same] at nl2
            cases nl2
          have y2 := (sbU l _ y z).symm.trans nl
          cases y2
      have nlr : l ≠ r := ne_of hm.lst hr2' (by intro z; cases z)
      refine good (by unfold faultS; rw [hn2]; exact if_pos (by rw [← len]; exact ok)) _ l ms (fun b o nb e => ?_) nl0 (by rw [upd_same]; rfl) ⟨?_, fun q hq => ?_⟩ (by rw [← ek]; exact pm) od
      · rw [upd_ne nb]
        exact s2 _ _ (sbU b o nb e)
      · rw [upd_ne nlr]
        exact hm.lst
      · rw [upd_ne (ne_of (hm.each q hq) hr2' (by intro z; cases z))]
        exact hm.each q hq
end
end Pm
namespace Pm
open PySem PySem.Spec PyProof.Rows L2 SX NdefX
def lows : List Str := ["lays", "conditions", "KIND", "slack", "clashes", "fits", "written", "_condition_words"]
/-- a rule at r: kind 0 all, 1 count, 2 same -/
def RuleAt (C : Addr) (H : Hp) (r : Addr) (κ : Nat) (st : List Nat) (need : Int) (ms : List Cnd) : Prop := ∃ dx fs l ks, H r = some (.ins C dx fs) ∧ fs.lookup ("stone" : Str) = some (.str (S st)) ∧ fs.lookup ("_conditions" : Str) = some (.ref l) ∧ (κ ≠ 0 → fs.lookup ("need" : Str) = some (.int need)) ∧
  (∀ m ∈ lows, fs.lookup m = none) ∧ CndsAt H l ks ∧ ks.map (·.2) = ms
theorem RuleAt.same {C : Addr} {H H' : Hp} {r : Addr} {κ : Nat} {st : List Nat} {need : Int} {ms : List Cnd} (h : RuleAt C H r κ st need ms) (s : Same H H') : RuleAt C H' r κ st need ms := by
  obtain ⟨dx, fs, l, ks, a, b, c, d, e, f, g⟩ := h
  exact ⟨dx, fs, l, ks, s _ _ a, b, c, d, e, f.same s, g⟩
def laysB (κ : Nat) (st z : List Nat) : Bool := if κ = 2 then stoneB z else decide (z = st)
def condsOf (κ : Nat) (z : List Nat) (ms : List Cnd) : List Cnd := if κ = 2 then ms.map fun c => (c.1, z) else ms
def slackOf (κ : Nat) (need : Int) (ms : List Cnd) : Int := if κ = 0 then 0 else (ms.length : Int) - need
section
variable {P : Program} {w : World} {K : PySem.W.Frag} {mg : Str → Option Value} {base : Heap} {C CI CW D : Addr} {κ : Nat}
theorem scEWrongStone : FnScope ["self", "stone"] ["self", "stone"] (defScope cWrongStoneInit) := ⟨rfl, rfl, rfl, by decide +kernel, rfl, by decide +kernel, by decide +kernel⟩
theorem okEWrongStone {f C : Addr} {fd : FuncData} (F : Fun K "__init__" "WrongStone.__init__" cWrongStoneInit f fd) (T : OexC K C) (nx : PySem.W.findIn K (.ref C) "stone" = some none) : FnOk P w K mg base CX0 1 f fd ["self", "stone"] (spE1 C "stone") := by
  refine F.ok scEWrongStone (fun vs H Q E h => ?_) (fun cdv A outer s H vs Q E hr h => ?_)
  · obtain ⟨a, v, rfl, _⟩ := h
    rfl
  · obtain ⟨a, v, rfl, ha, k⟩ := h
    refine ⟨_, pss_one (ps_ost (pv 0) (pv 1)), ?_⟩
    refine ⟨_, rfl, _, rfl, a, C, rfl, T, nx, .inl ⟨ha, fun dx nd ne => ?_⟩⟩
    refine k _ dx upd_same (by rw [upd_ne ne, upd_same]) nd ne fun b o nb e => ?_
    rw [upd_ne nb, upd_ne (ne_of_none e nd)]
    exact e

def spLays (C : Addr) (κ : Nat) : Sp := fun vs H Q _ => ∃ r st need ms z, vs = [.ref r, .str (S z)] ∧ RuleAt C H r κ st need ms ∧ z.length ≤ 1000 ∧ Q (.bl (laysB κ st z)) H
theorem scLays : FnScope ["self", "stone"] ["self", "stone"] (defScope cRuleLays) := ⟨rfl, rfl, rfl, by decide +kernel, rfl, by decide +kernel, by decide +kernel⟩
theorem ok_lays {f : Addr} {fd : FuncData} (F : Fun K "lays" "Rule.lays" cRuleLays f fd) (T : RCls K C) (k2 : κ ≠ 2) : FnOk P w K mg base CX0 1 f fd ["self", "stone"] (spLays C κ) := by
  refine F.ok scLays (fun vs H Q E h => ?_) (fun cdv A outer s H vs Q E hr h => ?_)
  · obtain ⟨r, st, need, ms, z, rfl, _⟩ := h
    rfl
  · obtain ⟨r, st, need, ms, z, rfl, ⟨dx, fs, l, ks, hr0, h1, _⟩, few, k⟩ := h
    refine ⟨_, (pss_one (ps_ret (pe_cmpR op_eq (pv 1) (pe_fld (pv 0) rfl) (nomark _)))), ?_⟩
    refine ⟨_, rfl, _, rfl, r, C, dx, fs, _, rfl, hr0, T.cl, T.nS, h1, rfl, ?_⟩
    have e : laysB κ st z = decide (V.str (S z) = V.str (S st)) := by
      unfold laysB
      rw [if_neg k2]
      exact decide_eq_decide.mpr ⟨fun e => by rw [e], fun e => S_inj (V.str.inj e)⟩
    rw [e] at k
    exact k
theorem scLaysS : FnScope ["self", "stone"] ["self", "stone"] (defScope cSameRuleLays) := ⟨rfl, rfl, rfl, by decide +kernel, rfl, by decide +kernel, by decide +kernel⟩
theorem ok_laysS {f i : Addr} {fd di : FuncData} (F : Fun K "lays" "SameRule.lays" cSameRuleLays f fd) (Is : Cl P w K mg base CX0 1 "is_stone" ["sign"] spStone i di) : FnOk P w K mg base CX0 2 f fd ["self", "stone"] (spLays C 2) := by
  refine F.ok scLaysS (fun vs H Q E h => ?_) (fun cdv A outer s H vs Q E hr h => ?_)
  · obtain ⟨r, st, need, ms, z, rfl, _⟩ := h
    rfl
  · obtain ⟨r, st, need, ms, z, rfl, _, few, k⟩ := h
    refine ⟨_, (pss_one (ps_ret (pe_call Is.ok hr (by rfl) Is.gl Is.kp Is.bd .nil pass0 (pa_cons (pv 1) pa_nil)))), ?_⟩
    exact ⟨_, rfl, z, rfl, few, k⟩
def spCond (C CW : Addr) (κ : Nat) : Sp := fun vs H Q E => ∃ r st need ms z, vs = [.ref r, .str (S z)] ∧ RuleAt C H r κ st need ms ∧ z.length ≤ 1000 ∧ ms.length ≤ 1000 ∧ (laysB κ st z = false → Lets E CW [("stone", .str (S z))] H) ∧
  (laysB κ st z = true → ∀ p ks H', Same H H' → H p = none → CndsAt H' p ks → ks.map (·.2) = condsOf κ z ms → Q (.ref p) H')
theorem scCond : FnScope ["self", "stone"] ["self", "stone"] (defScope cRuleConditions) := ⟨rfl, rfl, rfl, by decide +kernel, rfl, by decide +kernel, by decide +kernel⟩
theorem ok_cond {f g e : Addr} {fd gd ed : FuncData} (F : Fun K "conditions" "Rule.conditions" cRuleConditions f fd) (T : RCls K C) (k2 : κ ≠ 2) (mL : Meth K C "lays" g) (OL : FnOk P w K mg base CX0 1 g gd ["self", "stone"] (spLays C κ)) (bL : Binds K gd ["self", "stone"] [])
    (Ex : EMk P w K mg base CW "WrongStone" ["self", "stone"] (spE1 CW "stone") e ed) (L : LTxt K mg) : FnOk P w K mg base (L2.CX P w) 3 f fd ["self", "stone"] (spCond C CW κ) := by
  refine F.okX scCond (fun vs H Q E h => ?_) (fun cdv A outer s H vs Q E hr h => ?_)
  · obtain ⟨r, st, need, ms, z, rfl, _⟩ := h
    rfl
  · obtain ⟨r, st, need, ms, z, rfl, hR, few, fm, bad, good⟩ := h
    have hr1 : Room 1 _ := hr.mono (by decide)
    have hr2 : Room 2 _ := hr.mono (by decide)
    obtain ⟨dx, fs, l, ks, hr0, h1, h2, h3, h4, hc, ek⟩ := id hR
    refine ⟨_, (pss_cons (ps_if (pt_not (pt_val (pe_meth (pv 0) T.cl mL OL hr1 bL .nil pass0 (pa_cons (pv 1) pa_nil)))) (pss_one (ps_raise rfl (takes_of rfl rfl rfl rfl) (pmk_oex Ex.T Ex.at_ Ex.ty Ex.ok hr2 Ex.bd .nil pass0 (by rfl) Ex.gl (pa_cons (pv 1) pa_nil)))) pss_nil)
      (pss_one (ps_ret (pe_callTy call_list_of (by rfl) L.lst (by decide +kernel) (pa_cons (pe_fld (pv 0) rfl) pa_nil))))), ?_⟩
    refine ⟨_, rfl, r, dx, fs, rfl, hr0, h4 _ (by decide), _, rfl, r, st, need, ms, z, rfl, hR, few, _, rfl, ?_⟩
    cases e : laysB κ st z with
    | false =>
      refine iteT ⟨_, rfl, by show 1 ≤ 1000; decide, fun x nx => ⟨x, _, rfl, upd_same, fun H2 d h1 h2 nd ne sb => ⟨rfl, d, _, h1, h2, ?_, ?_⟩⟩⟩
      · rwa [upd_ne ne] at nd
      · exact bad e d _ (by rwa [upd_ne ne] at nd) upd_same (on_way nx nd ne sb)
    | true =>
      refine iteF ⟨_, rfl, r, C, dx, fs, _, rfl, hr0, T.cl, T.nC, h2, l, _, rfl, .inl (SqL.of hc.lst), fun p np => ?_⟩
      have s1 := same_upd (o := .lst (refC ks)) np
      refine good e p ks _ s1 np ⟨upd_same, fun q hq => s1 _ _ (hc.each q hq)⟩ ?_
      rw [ek]
      unfold condsOf
      rw [if_neg k2]
abbrev nCondS : List Str := ["self", "stone", "dx", "dy", "_"]
theorem scCondS : FnScope nCondS ["self", "stone"] (defScope cSameRuleConditions) := ⟨rfl, rfl, rfl, by decide +kernel, rfl, by decide +kernel, by decide +kernel⟩
theorem ok_condS {f g e : Addr} {fd gd ed : FuncData} (F : Fun K "conditions" "SameRule.conditions" cSameRuleConditions f fd) (T : RCls K C) (mL : Meth K C "lays" g) (OL : FnOk P w K mg base CX0 2 g gd ["self", "stone"] (spLays C 2)) (bL : Binds K gd ["self", "stone"] [])
    (Ex : EMk P w K mg base CW "WrongStone" ["self", "stone"] (spE1 CW "stone") e ed) (L : LTxt K mg) : FnOk P w K mg base (L2.CX P w) 3 f fd ["self", "stone"] (spCond C CW 2) := by
  refine F.okX scCondS (fun vs H Q E h => ?_) (fun cdv A outer s H vs Q E hr h => ?_)
  · obtain ⟨r, st, need, ms, z, rfl, _⟩ := h
    rfl
  · obtain ⟨r, st, need, ms, z, rfl, hR, few, fm, bad, good⟩ := h
    have hr1 : Room 2 _ := hr.mono (by decide)
    have hr2 : Room 2 _ := hr.mono (by decide)
    obtain ⟨dx, fs, l, ks, hr0, h1, h2, h3, h4, hc, ek⟩ := id hR
    refine ⟨_, (pss_cons (ps_if (pt_not (pt_val (pe_meth (pv 0) T.cl mL OL hr1 bL .nil pass0 (pa_cons (pv 1) pa_nil)))) (pss_one (ps_raise rfl (takes_of rfl rfl rfl rfl) (pmk_oex Ex.T Ex.at_ Ex.ty Ex.ok hr2 Ex.bd .nil pass0 (by rfl) Ex.gl (pa_cons (pv 1) pa_nil)))) pss_nil)
      (pss_one (ps_ret (pe_lc (own := [("dx", 2), ("dy", 3), ("_", 4)]) (g := (gTup K 3 (gCons (gName 2) (gCons (gName 3) (gCons (gName 4) gNil))))) (tt := tYes) (te := (tTup (tCons (tVar 2) (tCons (tVar 3) (tCons (tVar 1) tNil))))) rfl scCondS.nd (pi_list (pe_fld (pv 0) rfl)) (blkOk_by (own := [("dx", 2), ("dy", 3), ("_", 4)]) (N := nCondS) (sc := defScope cSameRuleConditions) (by decide +kernel)) (fun _ _ _ _ _ => (pg_tup rfl (pgs_cons (pg_name (i := 2) scCondS.nd rfl (.inl rfl)) (pgs_cons (pg_name (i := 3) scCondS.nd rfl (.inl rfl)) (pgs_cons (pg_name (i := 4) scCondS.nd rfl (.inl rfl)) pgs_nil))))) (fun _ _ _ _ _ => pts_nil) (fun _ _ _ _ _ => (pe_tup (pa_cons (pv 2) (pa_cons (pv 3) (pa_cons (pv 1) pa_nil))))))))), ?_⟩
    refine ⟨_, rfl, r, dx, fs, rfl, hr0, h4 _ (by decide), _, rfl, r, st, need, ms, z, rfl, hR, few, _, rfl, ?_⟩
    cases e : laysB 2 st z with
    | false =>
      refine iteT ⟨_, rfl, by show 1 ≤ 1000; decide, fun x nx => ⟨x, _, rfl, upd_same, fun H2 d h1 h2 nd ne sb => ⟨rfl, d, _, h1, h2, ?_, ?_⟩⟩⟩
      · rwa [upd_ne ne] at nd
      · exact bad e d _ (by rwa [upd_ne ne] at nd) upd_same (on_way nx nd ne sb)
    | true =>
      refine iteF ⟨_, rfl, r, C, dx, fs, _, rfl, hr0, T.cl, T.nC, h2, l, rfl, ⟨_, SqL.of hc.lst⟩, fun D nD => lc_list (K := K) (a := l) (xs := refC ks) (fun i G => ∃ ms : List (Addr × Cnd), Same H G ∧ G D = some (.lst (refC ms)) ∧ (∀ q ∈ ms, G q.1 = some (CondO q.2)) ∧ ms.map (·.2) = (ks.take i).map fun q => (q.2.1, z)) ⟨[], same_upd nD, upd_same, (fun p hp => nomatch hp), rfl⟩ (fun i G _ ⟨ts, sm, _⟩ => SqL.of (sm _ _ hc.lst)) ?_ ?_⟩
      · rintro i x G hx ⟨ms2, sm, hD, hms, em⟩
        obtain ⟨t, c, hi, rfl⟩ := refC_at hx
        have htc := sm _ _ (hc.each _ (List.mem_of_getElem? hi))
        have li : i < ks.length := (List.getElem?_eq_some_iff.mp hi).1
        have lk : ks.length = ms.length := by rw [← ek, List.length_map]
        refine ⟨t, _, rfl, SqT.of htc, rfl, _, _, rfl, _, _, rfl, _, _, rfl, rfl, rfl, ?_⟩
        refine tyes (iteT ⟨_, rfl, _, rfl, _, rfl, by show 3 ≤ sizeLine; decide, fun T' nT => ?_⟩)
        have s3 := same_upd (o := .tup [.int c.1.1, .int c.1.2, .str (S z)]) nT
        have nDT : D ≠ T' := ne_of_none hD nT
        refine ⟨refC ms2, s3 _ _ hD, ?_, ms2 ++ [(T', (c.1, z))], fun b o e => ?_, ?_, fun p hp => ?_, ?_⟩
        · have := congrArg List.length em
          rw [List.length_map, List.length_map, List.length_take] at this
          rw [show (refC ms2).length = ms2.length from List.length_map _]
          exact small1000 (by omega)
        · rw [upd_ne (ne_of_none e nD)]
          exact s3 _ _ (sm _ _ e)
        · rw [upd_same]
          unfold refC
          rw [List.map_append]
          rfl
        · rcases List.mem_append.mp hp with y | y
          · have y2 := s3 _ _ (hms p y)
            rw [upd_ne (fun e => ?_)]
            · exact y2
            · rw [e, s3 _ _ hD] at y2
              cases y2
          · rw [List.mem_singleton.mp y]
            rw [upd_ne nDT.symm, upd_same]
            rfl
        · rw [List.map_append, em, List.take_add_one, hi, List.map_append]
          rfl
      · rintro G ⟨ms2, sm, hD, hms, em⟩
        rw [show (refC ks).length = ks.length from List.length_map _, List.take_of_length_le (Nat.le_refl _)] at em
        refine good e D ms2 G sm nD ⟨hD, hms⟩ ?_
        rw [em, ← ek]
        unfold condsOf
        rw [if_pos rfl, List.map_map]
        rfl
def spLenR (C : Addr) (κ : Nat) : Sp := fun vs H Q _ => ∃ r st need ms, vs = [.ref r] ∧ RuleAt C H r κ st need ms ∧ Q (.int (ms.length : Int)) H
theorem scLenR : FnScope ["self"] ["self"] (defScope cRuleLen) := ⟨rfl, rfl, rfl, by decide +kernel, rfl, by decide +kernel, by decide +kernel⟩
theorem ok_lenR {f : Addr} {fd : FuncData} (F : Fun K "__len__" "Rule.__len__" cRuleLen f fd) (T : RCls K C) (L : LTxt K mg) : FnOk P w K mg base CX0 1 f fd ["self"] (spLenR C κ) := by
  refine F.ok scLenR (fun vs H Q E h => ?_) (fun cdv A outer s H vs Q E hr h => ?_)
  · obtain ⟨r, st, need, ms, rfl, _⟩ := h
    rfl
  · obtain ⟨r, st, need, ms, rfl, ⟨dx, fs, l, ks, hr0, h1, h2, h3, h4, hc, ek⟩, k⟩ := h
    refine ⟨_, (pss_one (ps_ret (pe_callB call_len_seq (by rfl) L.len PySem.boot_len (pa_cons (pe_fld (pv 0) rfl) pa_nil)))), ?_⟩
    refine ⟨_, rfl, r, C, dx, fs, _, rfl, hr0, T.cl, T.nC, h2, l, _, rfl, .inl (SqL.of hc.lst), ?_⟩
    rw [← ek, List.length_map] at k
    rw [show (refC ks).length = ks.length from List.length_map _]
    exact k
end
end Pm
namespace Pm
open PySem PySem.Spec PyProof.Rows L2 SX
/-! ### a def that is called where an error is handled, whatever error it is -/
structure FnW (P : Program) (w : World) (K : PySem.W.Frag) (mg : Str → Option Value) (base : Heap) (CXf : CXT) (k : Nat) (f : Addr) (fd : FuncData) (ps : List Str) (sp : Sp) : Prop where
  len : ∀ vs H Q E, sp vs H Q E → vs.length = ps.length
  run : ∀ (A : Around) (outer : List Env) (s : Shared) (H : Hp) (args : Args) (us : List Value) (vs : List V) (Q : VK) (E : XK) (p : Addr × Obj), L2H.RoomH k A → L2H.PinOk outer H s p → Env0 P w K mg base A outer s H →
    BindsTo s fd args (ps.zip us) → Vals vs us → sp vs H Q E → codeAny (model P w) A (.call (.ref f) args) (CR CXf outer P w H s Q E) s
theorem fnW_of {CXf : CXT} {P : Program} {w : World} {K : PySem.W.Frag} {mg : Str → Option Value} {base : Heap} {k : Nat} {x qual : Str} {st : Stmt} {f : Addr} {fd : FuncData} {N ps : List Str} {sp : Sp} (F : Fun K x qual st f fd) (S : FnScope N ps (defScope st))
    (len : ∀ vs H Q E, sp vs H Q E → vs.length = ps.length)
    (body : ∀ (cdv : Value) (A : Around) (outer : List Env) (s : Shared) (H : Hp) (vs : List V) (Q : VK) (E : XK) (p : Addr × Obj), L2H.RoomH k (A.deeper (envOfC qual (defScope st) s.heap.objs.size f cdv)) → sp vs H Q E →
      ∃ t, PSs (L2H.cxH CXf P w K mg base N qual (defScope st) f cdv A outer s H E p) (defBody st) t ∧ t { nx := fun _ G => Q .non G, rt := Q } (L2.start N vs) H) : FnW P w K mg base CXf (k + 1) f fd ps sp := by
  obtain ⟨oc, od, kV, doc, pm, an, cdv, ct, osl, rfl, lk, hcd⟩ := F.ex
  constructor
  case len => exact len
  case run =>
    intro A outer s H args us vs Q E p room pin env0 bind rv asked
    have few := len _ _ _ _ asked
    have kin : K.In s.heap := env0.mod.kin.keeps fun b o e => (env0.bs b o e).1
    have unlimited : s.heap.NoLimit := env0.mod.nolimit.keeps fun b o e => (env0.bs b o e).1
    have kinds : ∀ y ∈ ps.zip us, (defScope st).names.lookup y.1 = some .local ∨ ((defScope st).names.lookup y.1 = some .cell ∧ ((cellsFrom (s.heap.objs.size + 1) (defScope st).names []).lookup y.1).isSome = true) := by
      rintro ⟨n, v⟩ hy
      rcases S.par n (List.of_mem_zip hy).1 with q | q
      · exact Or.inl q
      · exact Or.inr ⟨q, PySem.W.cellsFrom_some _ _ _ (.inl q)⟩
    refine codeAny_call_function room.depth (kin _ _ lk) rfl S.co S.gen rfl (PySem.W.codeRec_of kin hcd) (bind _ _ _ _ (wpAny_newFunctionEnv_cells S.kind kinds fun env he s1 call => ?_))
    subst he
    refine ⟨unlimited.keeps call.toInCall.keep, codeAny_func ?_⟩
    obtain ⟨t, ht, read⟩ := body cdv A outer s H vs Q E p (room.deeper _) asked
    have I := L2H.inv_startH (CX := CXf) (E := E) S pin env0 few rv call
    refine wpAny_mono (ht.run [] s1 (L2.start N vs) H _ I read) (fun fl s2 z => ?_) fun _ _ z => z
    cases fl with
    | ret u =>
      obtain ⟨v, _, G, J, ru, q⟩ := z
      exact ⟨v, G, J.os, J.bare, J.base, J.hok, ru, q⟩
    | next =>
      obtain ⟨_, G, J, q⟩ := z
      exact ⟨V.non, G, J.os, J.bare, J.base, J.hok, rfl, q⟩
    | brk =>
      obtain ⟨_, _, _, q⟩ := z
      exact q.elim
    | cont =>
      obtain ⟨_, _, _, q⟩ := z
      exact q.elim
section
variable {X : Cx} {CXf : CXT} {k : Nat} {f : Addr} {fd : FuncData} {ps : List Str} {sp : Sp} {x : Str} {q pos : Pos} {e : Expr} {es : List Expr} {t : TA}
/-- f(e, ..) where something is pinned; nothing that is raised leaves f -/
theorem pe_callW {p : Addr × Obj} (F : FnW X.prog X.w X.K X.mg X.base CX0 k f fd ps sp) (hr : L2H.RoomH k X.A) (hp : p ∈ X.pn) (hg : Gl X x) (hm : X.mg x = some (.ref f)) (hk : PySem.W.keepIn X.K (.ref f) = true) (hb : Binds X.K fd ps []) (ha : PA X (e :: es) t)
    (dbg : (x == ("__debug__" : Str)) = false := by decide) (st : starEach (e :: es) X.env = (false, eval e X.env) :: starEach es X.env := by rfl) (pl : (backTo pos (starEach es X.env)).any (·.1) = false := by rfl) :
    PE X (.Call (.Name x q) (e :: es) [] pos) (tCall sp [] E0 t) := by
  refine ⟨fun pins s σ H Q I h => wpAny_Call_Name_kw (ld_glob I hg hm ?_ dbg)⟩
  refine PySem.W.callWith_K (h₀ := X.base) I.ok.mod.kin hk (thn (ha.run pos pins s σ H _ I h) fun us s1 ⟨vs, H1, I1, rv, asked⟩ => ⟨I1.kIn, ?_⟩) st pl
  have asked : sp (vs ++ []) H1 Q E0 := asked
  rw [List.append_nil] at asked
  show wpAny _ _ (call (.ref f) us) _ _ _
  have len : us.length = ps.length := rv.length.symm.trans (F.len _ _ _ _ asked)
  have bind := hb s1 us I1.kIn (by rw [List.append_nil]; exact len)
  rw [List.append_nil] at bind
  obtain ⟨p1, p2, p3, p4, p5⟩ := I1.pin p (List.mem_append_left _ hp)
  have pin : L2H.PinOk X.stack H1 s1 p := ⟨p1, p2, fun hm => (List.mem_cons.mp (I1.stkSub p.1 hm)).elim p3 p4, p5⟩
  refine wpAny_call (codeAny_mono (F.run X.A X.stack s1 H1 ⟨us, []⟩ us vs Q E0 p hr pin I1.env0 bind rv asked) fun r s2 z => ?_)
  cases r with
  | error er => exact z.elim
  | ok fl =>
    cases fl with
    | ret u => exact I1.after z
    | next => exact z.elim
    | brk => exact z.elim
    | cont => exact z.elim
end
end Pm
namespace Pm
open PySem PySem.Spec PyProof.Rows L2 SX
/-! ### try with several clauses «except C as e», all with the same name -/
abbrev Suites := List (Value × (Addr → Value → Option Addr → TS))
/-- what the clauses wish, one after the other; the error goes into slot i, which is empty behind the suite -/
def wClauses (K : PySem.W.Frag) (i : Nat) (Wout : WX) (D : Ends) : Suites → WX
  | [] => Wout
  | (c, ts) :: r => fun cls d σ H => ∃ b, PySem.W.exmOne K cls c = some b ∧
      (b = true → ∀ a, H a = none → ts a cls d ⟨fun σ2 H2 => D.nx (σ2.set i none) H2, D.rt, fun σ2 H2 => D.bk (σ2.set i none) H2, fun σ2 H2 => D.ct (σ2.set i none) H2⟩ (σ.set i (some (.ref a))) H) ∧ (b = false → wClauses K i Wout D r cls d σ H)
inductive Clauses (X : Cx) (n : Str) : List ExceptHandler → Suites → Prop
  | nil : Clauses X n [] []
  | cons {x : Str} {c : Value} {ts : Addr → Value → Option Addr → TS} {s0 : Stmt} {ss : List Stmt} {p1 p2 : Pos} {hds : List ExceptHandler} {l : Suites} (named : Names X x c)
      (suite : ∀ (a : Addr) (oe : Obj) (cls : Value) (d : Option Addr) (pn : List (Addr × Obj)), Zc cls d oe → (∃ vs, oe.data = .fields vs) → PSs (X.suite a ((a, oe) :: pn)) (s0 :: ss) (ts a cls d)) (rest : Clauses X n hds l) :
      Clauses X n (.ExceptHandler (some (.Name x p1)) (some n) (s0 :: ss) p2 :: hds) ((c, ts) :: l)
section
variable {X : Cx} {n : Str} {i : Nat} {body : List Stmt} {h0 : ExceptHandler} {hds : List ExceptHandler} {l : Suites} {pos : Pos} {tb : WX → TS} {Wout : WX}
theorem ps_try_clauses (stk : X.stack = X.env :: X.outer) (fr : X.env.frame = some X.env.locals) (nd : X.N.Nodup) (slot : X.N[i]? = some n) (loc : X.env.kindOf n = some .local) (out : Takes X Wout)
    (hbody : ∀ (W : WX) (pn : List (Addr × Obj)) (xe : Value → Shared → Prop), Takes (X.tr pn xe) W → PassesOwn (model X.prog X.w) X.A X.env xe → PSs (X.tr pn xe) body (tb W)) (hcl : Clauses X n (h0 :: hds) l) :
    PS X (.Try body (h0 :: hds) [] [] pos) (fun D σ H => tb (wClauses X.K i Wout D l) D σ H) := by
  constructor
  intro pins s σ H D I asked
  have good := I.ok
  have frames : X.A.frames = some (X.env :: X.outer) := by rw [good.frames, stk]
  have lc : Loc X.env.scope n := Or.inl loc
  refine wpAny_Try_except ?_
  refine wpAny_mono ((hbody (wClauses X.K i Wout D l) (X.pn ++ pins) (fun e s1 => wpAny (model X.prog X.w) X.A (noteFrame e X.env) (fun _ s2 => wpAny (model X.prog X.w) X.A (setFlight e none)
    (fun _ s3 => wpAny (model X.prog X.w) X.A (handleBy e X.env (h0 :: hds)) (SP X pins D) X.xe s3) X.xe s2) X.xe s1) (fun u s1 raised => ?_) PassesOwn.looking).run [] s σ H D (I.toTry _) asked) (fun fl s1 z => ?_) (fun _ _ z => z)
  case _ =>
    obtain ⟨a, B, sI, pins1, σ1, H1, cls, d, rfl, J0, nb, up, sky, na, os, bare, wish⟩ := raised
    have J : L2.Inv X pins σ1 H1 sI := J0.ofTry good
    show wpAny (model X.prog X.w) X.A (noteFrame (.ref a) X.env) _ _ _
    refine Sky.land Zc.steady frames fr (by rw [← stk]; exact sky) fun g fly up2 => ?_
    have J1 : L2.Inv X pins σ1 H1 { s1 with heap := g } := J.landed nb fly.1 (up.trans up2) os bare
    obtain ⟨o1, v1, at1, z1, d1⟩ := fly.there
    have outside : a ∉ frs (X.env :: X.outer) := fun m => by
      obtain ⟨_, o, eo, nf⟩ := fly.2.2.1.mem m
      rw [at1] at eo
      cases eo
      exact nf _ d1
    have notL : a ≠ X.env.locals := fun z => outside (List.mem_filterMap.mpr ⟨X.env, List.mem_cons_self, by rw [fr, z]⟩)
    have notF : a ∉ X.fs := fun m => by
      obtain ⟨e, me, y⟩ := List.mem_filterMap.mp m
      exact outside (List.mem_filterMap.mpr ⟨e, List.mem_cons_of_mem _ me, y⟩)
    have inSuite := J1.suite at1 d1 na notL notF
    have types : PySem.W.Looks (model X.prog X.w) g (typeOf (.ref a)) cls := fun A Q E s k q => wpAny_typeOf_ref (k _ _ at1) (by rw [z1.1]; exact q)
    clear asked hbody
    -- the clauses in turn
    have turn : ∀ (hd2 : List ExceptHandler) (l2 : Suites), Clauses X n hd2 l2 → wClauses X.K i Wout D l2 cls d σ1 H1 → wpAny (model X.prog X.w) X.A (handleBy (.ref a) X.env hd2) (SP X pins D) X.xe { s1 with heap := g } := by
      intro hd2 l2 cl
      induction cl with
      | nil =>
        intro wish
        refine wpAny_handleBy_nil ?_
        obtain ⟨_, _, _, oe, vs, T, oT, ts2, e1, e2, e3, e4, e5⟩ := id fly
        unfold PySem.passOn
        refine wpAny_bind (wpAny_field e1 e3 e4 ?_)
        rw [if_neg (show ¬ ((Value.ref T == Value.none) = true) from by simp)]
        have leave : wpAny (model X.prog X.w) X.A (setFlight (.ref a) X.env.frame) (fun _ s2 => wpAny (model X.prog X.w) X.A (throw (.ref a) : Sem Flow) (SP X pins D) X.xe s2) X.xe { s1 with heap := g } := by
          rw [fr]
          refine HandSPX.setFlight_upZ fly fun g2 held up3 => wpAny_throw (out _ _ ⟨a, B, sI, pins, σ1, H1, cls, d, rfl, J, nb, (up.trans up2).trans up3, .inr (.inr (by rw [stk]; exact held)), na, os, bare, wish⟩)
        first
          | exact wpAny_bind (wpAny_pure (wpAny_bind leave))
          | exact wpAny_bind leave
      | @cons x c ts s0 ss p1 p2 hd3 l3 named suite rest ih =>
        rintro ⟨b, eb, yes, no⟩
        have meets := PySem.W.exm_one (M := model X.prog X.w) J1.kIn types eb
        refine wpAny_handleBy_cons (codeAny_handlers_test ?_) (fun z => nomatch z)
        have name : ∀ {Q : Value → Shared → Prop} {E : Value → Shared → Prop}, Q c { s1 with heap := g } → wpAny (model X.prog X.w) (X.A.mark (some (.ref a))) (eval (.Name x p1) X.env) Q E { s1 with heap := g } := by
          intro Q E q
          obtain ⟨hg, dbg, hm⟩ := named
          rcases hm with hm | ⟨hm, hv, hn⟩
          · exact ld_glob (X := X.suite a ((a, o1) :: (X.pn ++ pins))) inSuite hg hm q dbg
          · exact ld_blt (X := X.suite a ((a, o1) :: (X.pn ++ pins))) inSuite hg hm hv q hn dbg
        refine name (meets.here ?_)
        cases b with
        | false => exact ih (no rfl)
        | true =>
          refine codeAny_handlers_suite_as (HandSPX.lands_againZ fly fun g2 fly2 up3 => ?_)
          have J2 : L2.Inv X pins σ1 H1 { s1 with heap := g2 } := J.landed nb fly2.1 ((up.trans up2).trans up3) os bare
          obtain ⟨o2, v2, at2, z2, d2⟩ := fly2.there
          refine store_ok (X := X.suite a ((a, o2) :: (X.pn ++ pins))) (v := .ref a) (J2.suite at2 d2 na notL notF) nd slot lc rfl (fun s2 S2 => ?_) (.inr loc)
          refine wpAny_mono ((suite a o2 cls d (X.pn ++ pins) z2 ⟨_, d2⟩).run [] s2 _ H1 _ S2 (yes rfl a na)) (fun fl s3 z => ?_) (fun _ _ z => False.elim z)
          have gone : ∀ {σ3 : L2.St} {H3 : Hp} {Q : Shared → Prop}, L2.Inv (X.suite a ((a, o2) :: (X.pn ++ pins))) [] σ3 H3 s3 → (∀ s4, L2.Inv X pins (σ3.set i none) H3 s4 → Q s4) →
              wpAny (model X.prog X.w) X.A (do bindName X.env n .none; unbindBehindTheSuite X.env n p2) (fun _ s4 => Q s4) X.xe s3 := fun S3 q => gone_ok (S3.unsuite good) nd slot loc q
          cases fl with
          | ret u =>
            obtain ⟨v, _, _, S3, rv, q⟩ := z
            exact gone S3 fun _ J4 => ⟨_, _, _, J4, rv, q⟩
          | next =>
            obtain ⟨_, _, S3, q⟩ := z
            exact gone S3 fun _ J4 => ⟨_, _, J4, q⟩
          | brk =>
            obtain ⟨_, _, S3, q⟩ := z
            exact gone S3 fun _ J4 => ⟨_, _, J4, q⟩
          | cont =>
            obtain ⟨_, _, S3, q⟩ := z
            exact gone S3 fun _ J4 => ⟨_, _, J4, q⟩
    exact turn _ _ hcl wish
  cases fl with
  | ret u =>
    obtain ⟨v, σ2, H2, J2, rv, q⟩ := z
    exact ⟨v, σ2, H2, J2.ofTry good, rv, q⟩
  | next =>
    obtain ⟨σ2, H2, J2, q⟩ := z
    exact wpAny_execs_nil ⟨σ2, H2, J2.ofTry good, q⟩
  | brk =>
    obtain ⟨σ2, H2, J2, q⟩ := z
    exact ⟨σ2, H2, J2.ofTry good, q⟩
  | cont =>
    obtain ⟨σ2, H2, J2, q⟩ := z
    exact ⟨σ2, H2, J2.ofTry good, q⟩
end
end Pm
namespace Pm
open PySem PySem.Spec PyProof.Rows L2 SX
/-! ### a text times an int -/
theorem mul_fit {x : Str} {n : Int} (hx : x.length ≤ 1000) (n0 : 0 ≤ n) (n1 : n ≤ 1000) : MulOk x n := by
  have nn : (n.toNat : Int) = n := Int.toNat_of_nonneg n0
  have hm : x.length * n.toNat ≤ 1000 * 1000 := Nat.mul_le_mul hx (by omega)
  refine ⟨?_, fun a _ => ?_, fun _ _ => ?_⟩
  · rw [decide_eq_false (by omega), decide_eq_false (by omega)]
    rfl
  · have e : (x.length : Int) * n ≤ 2 ^ 63 - 1 := by
      rw [← nn]
      have y : ((x.length * n.toNat : Nat) : Int) ≤ ((1000 * 1000 : Nat) : Int) := Int.ofNat_le.mpr hm
      rw [Int.natCast_mul] at y
      exact Int.le_trans y (by decide)
    have := Int.le_ediv_of_mul_le (by omega) e
    omega
  · show decide (x.length * n.toNat > sizeLine) = false
    refine decide_eq_false ?_
    have : (1000 * 1000 : Nat) ≤ sizeLine := by decide
    omega
theorem op_mul_str {X : Cx} : OpR X (binaryOp .Mult) (fun x y H Q => ∃ i n, x = .str i ∧ y = .int n ∧ i.length ≤ 1000 ∧ 0 ≤ n ∧ n ≤ 1000 ∧ Q (.str (Txt.mul i n)) H) := by
  intro pins s σ H x y v u Q I rx ry h
  obtain ⟨i, n, rfl, rfl, hi, n0, n1, q⟩ := h
  obtain ⟨t, rfl⟩ := rx
  obtain ⟨t2, rfl⟩ := ry
  exact SB.mul (mul_fit hi n0 n1) fun t3 tk => ⟨.str (Txt.mul i n), H, I.tok _, ⟨_, rfl⟩, q⟩
theorem mul3 {z : List Nat} (h : Pal z) : Txt.mul (S z) 3 = S (z ++ z ++ z) := by
  obtain ⟨c, d, e, rfl, _⟩ := h
  rfl
theorem mul1 (c : Nat) (n : Int) : Txt.mul (S [c]) n = S (List.replicate n.toNat c) := by
  have e := mul_one_list c n
  have y : S (Txt.mul (S [c]) n).cps.toList = Txt.mul (S [c]) n := S_tl _
  rw [← y, e]
end Pm
namespace Pm
open PySem PySem.Spec PyProof.Rows L2 SX
section
variable {P : Program} {w : World} {K : PySem.W.Frag} {mg : Str → Option Value} {base : Heap} {C CI : Addr}
theorem PicAt.same {C : Addr} {H H' : Hp} {r : Addr} {R : Rows} (h : PicAt C H r R) (s : Same H H') : PicAt C H' r R := by
  obtain ⟨dx, l, a, b⟩ := h
  exact ⟨dx, l, s _ _ a, s _ _ b⟩
theorem made_same {C : Addr} {H : Hp} {x dx : Addr} (nx : H x = none) (nd : H dx = none) : Same H (upd (upd H dx (.own x)) x (.ins C dx [])) := fun b o e => by
  rw [upd_ne (ne_of_none e nx), upd_ne (ne_of_none e nd)]
  exact e
theorem made_but {C : Addr} {H H' : Hp} {x dx : Addr} (nx : H x = none) (nd : H dx = none) (s : SameBut x (upd (upd H dx (.own x)) x (.ins C dx [])) H') : Same H H' := fun b o e => by
  have ne : b ≠ x := ne_of_none e nx
  exact s b o ne (made_same nx nd _ _ e)
theorem lets_made {E : XK} {D : Addr} {fs : List (Str × V)} {H H' : Hp} (h : Lets E D fs H) (s : Same H H') : Lets E D fs H' := fun d G nd hd sg => h d G (back s nd) hd (s.trans sg)
def spLines (C : Addr) : Sp := fun vs H Q _ => ∃ r R, vs = [.ref r] ∧ PicAt C H r R ∧ ∀ p H', Same H H' → H p = none → H' p = some (.lst (rowsV R)) → Q (.ref p) H'
theorem scLines : FnScope ["self"] ["self"] (defScope cPictureLines) := ⟨rfl, rfl, rfl, by decide +kernel, rfl, by decide +kernel, by decide +kernel⟩
theorem ok_lines {f : Addr} {fd : FuncData} (F : Fun K "lines" "Picture.lines" cPictureLines f fd) (L : LTxt K mg) (T : PCls K C) : FnOk P w K mg base CX0 1 f fd ["self"] (spLines C) := by
  refine F.ok scLines (fun vs H Q E h => ?_) (fun cdv A outer s H vs Q E hr h => ?_)
  · obtain ⟨r, R, rfl, _⟩ := h
    rfl
  · obtain ⟨r, R, rfl, ⟨dx, l, hr1, hl⟩, k⟩ := h
    refine ⟨_, pss_one (ps_ret (pe_callTy call_list_of (by rfl) L.lst (by decide +kernel) (pa_cons (pe_fld (pv 0) rfl) pa_nil))), ?_⟩
    refine ⟨_, rfl, r, C, dx, _, _, rfl, hr1, T.cl, T.nR, rfl, l, _, rfl, .inl (SqL.of hl), fun p np => k p _ (same_upd np) np upd_same⟩
/-! ### contains -/
def inB (R : Rows) (x y : Int) : Bool := decide (0 ≤ x ∧ x < wideOf R) && decide (0 ≤ y ∧ y < (R.length : Int))
def spContains (C : Addr) : Sp := fun vs H Q _ => ∃ r R x y, vs = [.ref r, .int x, .int y] ∧ PicAt C H r R ∧ Q (.bl (inB R x y)) H
theorem scContains : FnScope ["self", "x", "y"] ["self", "x", "y"] (defScope cPictureContains) := ⟨rfl, rfl, rfl, by decide +kernel, rfl, by decide +kernel, by decide +kernel⟩
theorem ok_contains {f : Addr} {fd : FuncData} (F : Fun K "contains" "Picture.contains" cPictureContains f fd) (T : PCls K C) : FnOk P w K mg base CX0 1 f fd ["self", "x", "y"] (spContains C) := by
  refine F.ok scContains (fun vs H Q E h => ?_) (fun cdv A outer s H vs Q E hr h => ?_)
  · obtain ⟨r, R, x, y, rfl, _⟩ := h
    rfl
  · obtain ⟨r, R, x, y, rfl, ⟨dx, l, h1, h2⟩, k⟩ := h
    refine ⟨_, pss_one (ps_ret (pe_and (pe_chain op_le op_lt pe_int (pv 1) (pe_fld (pv 0) rfl)) (pe_one (pe_chain op_le op_lt pe_int (pv 2) (pe_fld (pv 0) rfl))))), ?_⟩
    have second : inB R x y = decide (0 ≤ y ∧ y < (R.length : Int)) → tChain (rI0 fun i j => .bl (decide (i ≤ j))) (rI0 fun i j => .bl (decide (i < j))) (tC (.int 0)) (tVar 2) (tFld K (tVar 0) "height") (L2.start ["self", "x", "y"] [.ref r, .int x, .int y]) H Q := fun e => by
      rw [e] at k
      refine ⟨_, rfl, _, _, rfl, rfl, _, rfl, ite2 (fun a => ?_) (fun a => ?_)⟩
      · have a := of_decide_eq_true a
        refine ⟨_, rfl, r, C, dx, _, _, rfl, h1, T.cl, T.nH, rfl, _, _, rfl, rfl, ?_⟩
        have e2 : decide (0 ≤ y ∧ y < (R.length : Int)) = decide (y < (R.length : Int)) := decide_eq_decide.mpr ⟨fun z => z.2, fun z => ⟨a, z⟩⟩
        rw [e2] at k
        exact k
      · have a : ¬ 0 ≤ y := fun z => a (decide_eq_true z)
        rw [decide_eq_false (fun z => a z.1)] at k
        exact k
    refine ⟨_, rfl, _, _, rfl, rfl, _, rfl, ite2 (fun a => ?_) (fun a => ?_)⟩
    · have a := of_decide_eq_true a
      refine ⟨_, rfl, r, C, dx, _, _, rfl, h1, T.cl, T.nW, rfl, _, _, rfl, rfl, _, rfl, ite2 (fun b => ?_) (fun b => ?_)⟩
      · have b := of_decide_eq_true b
        refine second ?_
        unfold inB
        rw [decide_eq_true (show 0 ≤ x ∧ x < wideOf R from ⟨a, b⟩), Bool.true_and]
      · have b : ¬ x < wideOf R := fun z => b (decide_eq_true z)
        unfold inB at k
        rw [decide_eq_false (fun z => b z.2), Bool.false_and] at k
        exact k
    · have a : ¬ 0 ≤ x := fun z => a (decide_eq_true z)
      unfold inB at k
      rw [decide_eq_false (fun z => a z.1), Bool.false_and] at k
      exact ⟨_, rfl, iteF k⟩
end
end Pm
namespace Pm
open PySem PySem.Spec PyProof.Rows L2 SX
/-! ### rows as data -/
/-- no sign is far out, none ends a line -/
def Low (R : Rows) : Prop := ∀ r ∈ R, ∀ c ∈ r, c < 256 ∧ c ≠ 10
def dR (r : List Nat) : PyData := .str (S r)
theorem dR_eqv (r q : List Nat) : PyData.eqv (dR r) (dR q) = decide (r = q) := by
  show (S r == S q) = _
  exact S_beq_eq
theorem dRs_lay : ∀ {M : Rows}, Low M → PyData.canLayAll0 (M.map dR) = true
  | [], _ => rfl
  | r :: M, h => by
    have e1 := dRs_lay (M := M) fun q m => h q (List.mem_cons_of_mem _ m)
    have e2 : PyData.strOk (S r) = true := by
      show (S r).cps.all (· < 0x110000) = true
      rw [Array.all_eq_true]
      intro i hi
      have m := h r List.mem_cons_self _ (List.getElem_mem (l := r) (n := i) (by simpa using hi))
      exact decide_eq_true (Nat.lt_of_lt_of_le (by simpa using m.1) (by decide))
    show (PyData.strOk (S r) && PyData.canLayAll0 (M.map dR)) = true
    rw [e1, e2]
    rfl
theorem dRs_depth : ∀ M : Rows, PyData.depthAll (M.map dR) = 0
  | [] => by simp [PyData.depthAll]
  | c :: M => by
    have := dRs_depth M
    simp [PyData.depthAll, dR, PyData.depth, this]
theorem dRs_shaped {M : Rows} (h : Low M) : SeqAt.shaped (.list (M.map dR)) = true := by
  have z := dRs_depth M
  have y := dRs_lay h
  simp [SeqAt.shaped, PyData.canLay0, PyData.depth, y, z]
theorem dRs_eqvAll : ∀ M N : Rows, PyData.eqvAll (M.map dR) (N.map dR) = decide (M = N)
  | [], N => by cases N <;> simp [PyData.eqvAll]
  | r :: M, [] => by simp [PyData.eqvAll]
  | r :: M, q :: N => by
    rw [List.map_cons, List.map_cons]
    show (PyData.eqv (dR r) (dR q) && PyData.eqvAll (M.map dR) (N.map dR)) = _
    rw [dR_eqv, dRs_eqvAll M N]
    simp
theorem dRs_eqv (M N : Rows) : PyData.eqv (.list (M.map dR)) (.list (N.map dR)) = decide (M = N) := by
  simp [PyData.eqv, dRs_eqvAll]
theorem dp_rows {K : PySem.W.Frag} {H : Hp} : ∀ R : Rows, DpAll K H (rowsV R) (R.map dR)
  | [] => .nil
  | r :: R => .cons (.str _) (dp_rows R)
theorem dp_list {K : PySem.W.Frag} {H : Hp} {a : Addr} {R : Rows} (h : H a = some (.lst (rowsV R))) : Dp K H (.ref a) (.list (R.map dR)) := .lst (SqL.of h) (dp_rows R)
theorem Low.nil : Low [] := fun r m => nomatch m
end Pm
namespace Pm
open PySem PySem.Spec PyProof.Rows L2 SX
/-! ### grids that change -/
def rowAt (R : Rows) (j : Nat) : List Nat := R.getD j []
def putR (R : Rows) (i j : Nat) (z : List Nat) : Rows := R.set j ((rowAt R j).take i ++ z ++ (rowAt R j).drop (i + 1))
theorem good_low {c : Nat} (h : Good c) : c < 256 ∧ c ≠ 10 := by
  unfold Good Let at h
  omega
theorem line_good {r : List Nat} {R : Rows} (ok : ∀ (j : Nat) y, j < 8 → (r :: R)[j]? = some y → okB (r.length : Int) y = true) : lineOf (r :: R) = if 8 < (r :: R).length then 9 else 0 := by
  rw [lineOf_cons, find_none fun j y hy => by
    rw [List.getElem?_take] at hy
    by_cases a : j < 8
    · rw [if_pos a] at hy
      rw [ok j y a hy]
      rfl
    · rw [if_neg a] at hy
      cases hy]
theorem Grid.line {R : Rows} {n : Nat} (g : Grid R n) : lineOf R = 0 := by
  have h1 := g.h1
  have h8 := g.h8
  have w1 := g.w1
  have w8 := g.w8
  match R, g, h1, h8 with
  | r :: R, g, h1, h8 =>
    have ok : ∀ z ∈ r :: R, okB (r.length : Int) z = true := fun z m => by
      have e1 := g.row z m
      have e2 := g.row r List.mem_cons_self
      have e3 : (z.all fun c => decide (Good c)) = true := List.all_eq_true.mpr fun c mc => decide_eq_true (g.sgn z m c mc)
      unfold okB
      rw [e3, decide_eq_true (show 1 ≤ z.length by omega), decide_eq_true (show z.length ≤ 8 by omega), decide_eq_true (show (z.length : Int) = (r.length : Int) by omega)]
      rfl
    rw [line_good fun j y _ hy => ok y (List.mem_of_getElem? hy), if_neg (by omega)]
theorem Grid.wide {R : Rows} {n : Nat} (g : Grid R n) : wideOf R = (n : Int) := by
  match R, g, g.h1 with
  | r :: R, g, _ =>
    show (r.length : Int) = _
    rw [g.row r List.mem_cons_self]
theorem Grid.at {R : Rows} {n : Nat} (g : Grid R n) {j : Nat} (hj : j < R.length) : R[j]? = some (rowAt R j) ∧ rowAt R j ∈ R ∧ (rowAt R j).length = n := by
  have e : R[j]? = some R[j] := List.getElem?_eq_getElem hj
  have y : rowAt R j = R[j] := by
    unfold rowAt
    rw [List.getD_eq_getElem?_getD, e]
    rfl
  rw [y]
  exact ⟨e, List.getElem_mem hj, g.row _ (List.getElem_mem hj)⟩
theorem Grid.inside {R : Rows} {n : Nat} (g : Grid R n) {x y : Int} (h : inB R x y = true) : ∃ i j : Nat, x = (i : Int) ∧ y = (j : Int) ∧ i < n ∧ j < R.length := by
  unfold inB at h
  obtain ⟨a, b⟩ := Bool.and_eq_true_iff.mp h
  have a := of_decide_eq_true a
  have b := of_decide_eq_true b
  rw [g.wide] at a
  exact ⟨x.toNat, y.toNat, by omega, by omega, by omega, by omega⟩
theorem goodB_one {z : List Nat} (h : goodB z = true) : ∃ c, z = [c] ∧ Good c := by
  match z, h with
  | [c], h => exact ⟨c, rfl, of_decide_eq_true h⟩
theorem Grid.put {R : Rows} {n i j c : Nat} (g : Grid R n) (hi : i < n) (hj : j < R.length) (hc : Good c) : Grid (putR R i j [c]) n := by
  obtain ⟨_, m, l⟩ := g.at hj
  have new : ((rowAt R j).take i ++ [c] ++ (rowAt R j).drop (i + 1)).length = n := by
    simp only [List.length_append, List.length_take, List.length_drop, List.length_cons, List.length_nil]
    omega
  refine ⟨g.w1, g.w8, by unfold putR; rw [List.length_set]; exact g.h1, by unfold putR; rw [List.length_set]; exact g.h8, fun z mz => ?_, fun z mz d md => ?_⟩
  · rcases List.mem_or_eq_of_mem_set mz with a | a
    · exact g.row z a
    · rw [a, new]
  · rcases List.mem_or_eq_of_mem_set mz with a | a
    · exact g.sgn z a d md
    · rw [a] at md
      rcases List.mem_append.mp md with y | y
      · rcases List.mem_append.mp y with y | y
        · exact g.sgn _ m d (List.mem_of_mem_take y)
        · rw [List.mem_singleton.mp y]
          exact hc
      · exact g.sgn _ m d (List.mem_of_mem_drop y)
theorem Grid.plain {n m c : Nat} (n1 : 1 ≤ n) (n8 : n ≤ 8) (m1 : 1 ≤ m) (m8 : m ≤ 8) (hc : Good c) : Grid (List.replicate m (List.replicate n c)) n := by
  refine ⟨n1, n8, by rw [List.length_replicate]; exact m1, by rw [List.length_replicate]; exact m8, fun z mz => ?_, fun z mz d md => ?_⟩
  · rw [(List.mem_replicate.mp mz).2, List.length_replicate]
  · rw [(List.mem_replicate.mp mz).2] at md
    rw [(List.mem_replicate.mp md).2]
    exact hc
theorem put_back {R : Rows} {n i j : Nat} {c d : Nat} (g : Grid R n) (hi : i < n) (hj : j < R.length) (hd : (rowAt R j)[i]? = some d) : putR (putR R i j [c]) i j [d] = R := by
  obtain ⟨e, m, l⟩ := g.at hj
  have e1 : rowAt (putR R i j [c]) j = (rowAt R j).take i ++ [c] ++ (rowAt R j).drop (i + 1) := by
    unfold rowAt putR
    rw [List.getD_eq_getElem?_getD, List.getElem?_set_self (by simpa using hj)]
    rfl
  have li : ((rowAt R j).take i).length = i := by rw [List.length_take]; omega
  unfold putR at e1 ⊢
  rw [e1, List.set_set]
  have t : ((rowAt R j).take i ++ [c] ++ (rowAt R j).drop (i + 1)).take i = (rowAt R j).take i := by
    rw [List.append_assoc, List.take_append_of_le_length (by omega), List.take_of_length_le (by omega)]
  have u : ((rowAt R j).take i ++ [c] ++ (rowAt R j).drop (i + 1)).drop (i + 1) = (rowAt R j).drop (i + 1) := by
    have lc : ((rowAt R j).take i ++ [c]).length = i + 1 := by rw [List.length_append, li]; rfl
    rw [← lc, List.drop_left]
  rw [t, u]
  have w : (rowAt R j).take i ++ [d] ++ (rowAt R j).drop (i + 1) = rowAt R j := by
    obtain ⟨h1, h2⟩ := List.getElem?_eq_some_iff.mp hd
    rw [List.append_assoc, List.singleton_append, ← h2, List.getElem_cons_drop, List.take_append_drop]
  rw [w]
  obtain ⟨h1, h2⟩ := List.getElem?_eq_some_iff.mp e
  rw [← h2, List.set_getElem_self]
section
variable {P : Program} {w : World} {K : PySem.W.Frag} {mg : Str → Option Value} {base : Heap} {C CI CO CG : Addr}
theorem gone {z : Prop} {E : XK} {D : Addr} {fs : List (Str × V)} {H : Hp} (n : ¬ z) : z → Lets E D fs H := fun y => absurd y n
/-! ### str -/
theorem nl_S : ("\n" : Str) = S [10] := by decide +kernel
def spStr (C : Addr) : Sp := fun vs H Q _ => ∃ r R n, vs = [.ref r] ∧ PicAt C H r R ∧ Grid R n ∧ Q (.str (S (TL.joinL [10] R))) H
theorem scStr : FnScope ["self"] ["self"] (defScope cPictureStr) := ⟨rfl, rfl, rfl, by decide +kernel, rfl, by decide +kernel, by decide +kernel⟩
theorem sum_le (n : Nat) : ∀ R : Rows, (∀ z ∈ R, z.length ≤ n) → (R.map (·.length)).sum ≤ R.length * n
  | [], _ => by simp
  | z :: R, h => by
    have e := sum_le n R fun y m => h y (List.mem_cons_of_mem _ m)
    have e1 := h z List.mem_cons_self
    simp only [List.map_cons, List.sum_cons, List.length_cons]
    rw [Nat.add_mul]
    omega
theorem strs_rows (R : Rows) : (R.map S).map V.str = rowsV R := by
  rw [List.map_map]
  rfl
theorem join_fit {R : Rows} {n : Nat} (g : Grid R n) : ((R.map S).map (·.length)).sum + (R.map S).length * ("\n" : Str).length ≤ 16777216 := by
  have e2 : ((R.map S).map (·.length)) = R.map (·.length) := lens R
  have e3 := sum_le 8 R fun z m => by rw [g.row z m]; exact g.w8
  have h8 := g.h8
  rw [e2, nl_S, len_S, List.length_map]
  show (R.map (·.length)).sum + R.length * 1 ≤ 16777216
  omega
theorem ok_str {f : Addr} {fd : FuncData} (F : Fun K "__str__" "Picture.__str__" cPictureStr f fd) (T : PCls K C) : FnOk P w K mg base CX0 1 f fd ["self"] (spStr C) := by
  refine F.ok scStr (fun vs H Q E h => ?_) (fun cdv A outer s H vs Q E hr h => ?_)
  · obtain ⟨r, R, n, rfl, _⟩ := h
    rfl
  · obtain ⟨r, R, n, rfl, ⟨dx, l, h1, h2⟩, g, k⟩ := h
    refine ⟨_, pss_one (ps_ret (pe_join pe_str (pe_fld (pv 0) rfl))), ?_⟩
    refine ⟨⟨_, rfl⟩, _, rfl, r, C, dx, _, _, rfl, h1, T.cl, T.nR, rfl, ("\n" : Str), l, R.map S, rfl, rfl, .inl (by rw [strs_rows]; exact SqL.of h2), join_fit g, ?_⟩
    rw [nl_S, join_S [10] R]
    exact k
end
/-! ### str(picture) -/
structure OwnM (K : PySem.W.Frag) (C : Addr) (m : Str) (f : Addr) : Prop where
  at_ : PySem.W.findIn K (.ref C) m = some (some (.ref f))
  fn : PySem.W.isFn K (.ref f) = true
section
variable {X : Cx} {CXf : CXT} {k : Nat} {f C : Addr} {fd : FuncData} {ps : List Str} {sp : Sp} {E : XK} {pins : List (Addr × Obj)} {σ : L2.St} {H : Hp} {s : Shared}
/-- a def called from any place around, with the caller's frames -/
theorem run_at {A : Around} {Q : VK} {us : List Value} {vs : List V} (F : FnOk X.prog X.w X.K X.mg X.base CXf k f fd ps sp) (hr : Room k A) (fr : A.frames = X.A.frames) (hb : Binds X.K fd ps []) (hx : Passes CXf X E) (I : L2.Inv X pins σ H s)
    (r : Vals vs us) (h : sp vs H Q E) : wpAny (model X.prog X.w) A (call (.ref f) us) (EP X pins σ Q) X.xe s := by
  have e0 : Env0 X.prog X.w X.K X.mg X.base A X.stack s H := by
    have e := I.env0
    exact ⟨by rw [fr]; exact e.frames, e.mod, e.bs, e.bsz, e.funs, e.frf, e.hok, e.bare⟩
  have hl := F.len _ _ _ _ h
  refine wpAny_call (codeAny_mono (F.run A X.stack s H ⟨us, []⟩ us vs _ E hr e0 (by
    have := hb s us I.kIn (by rw [List.append_nil, ← r.length]; exact hl)
    simpa using this) r h) fun q s' hq => ?_)
  cases q with
  | error e => exact hx pins σ H s e s' I hq
  | ok fl =>
    cases fl with
    | ret u => exact I.after hq
    | next => exact False.elim hq
    | brk => exact False.elim hq
    | cont => exact False.elim hq
theorem pic_inst {r : Addr} {R : Rows} (I : L2.Inv X pins σ H s) (h : PicAt C H r R) : ∃ ox od, PySem.W.InstAt s.heap r ox C od := by
  obtain ⟨dx, l, h1, _⟩ := h
  obtain ⟨mA, J, _⟩ := ins_get I.hok h1
  obtain ⟨od, J, _⟩ := J.look
  exact ⟨_, _, J⟩
def rStrP (C : Addr) : List V → Hp → VK → Prop := fun xs H Q => ∃ r R n, xs = [.ref r] ∧ PicAt C H r R ∧ Grid R n ∧ Q (.str (S (TL.joinL [10] R))) H
theorem call_strP (O : FnOk X.prog X.w X.K X.mg X.base CX0 k f fd ["self"] (spStr C)) (hr : Room (k + 2) X.A) (b : Binds X.K fd ["self"] []) (m : OwnM X.K C "__str__" f) : CallR X (.type "str") (rStrP C) := by
  intro pins s σ H xs us Q I r h
  obtain ⟨r0, R, n, rfl, hp, g, q⟩ := h
  match r with
  | .cons rx .nil =>
    cases rx
    obtain ⟨ox, od, J⟩ := pic_inst I hp
    refine PySem.W.kso_call (hr.in1.in1.units0) I.kIn J m.at_ m.fn ?_
    refine wpAny_mono (run_at (Q := fun v H' => v = .str (S (TL.joinL [10] R)) ∧ H' = H) (E := E0) (vs := [.ref r0]) O hr.in1.in1 rfl b pass0 I (.cons rfl .nil) ⟨r0, R, n, rfl, hp, g, rfl, rfl⟩) (fun v s' z => ?_) fun _ _ z => z
    obtain ⟨v', H', I', rv, rfl, rfl⟩ := z
    obtain ⟨t, rfl⟩ := rv
    exact ⟨.str _, _, I', ⟨_, rfl⟩, q⟩
end
theorem ixN_nat {n j : Nat} (h : j < n) : ixN n (j : Int) = some j := by
  unfold ixN
  rw [if_pos (by omega), if_pos (by omega)]
  rfl
theorem cut_from (xs : List V) (n : Nat) : cutV xs (some (n : Int)) none = xs.drop n := by
  unfold cutV
  rw [HT.sIx_none, HT.sIx_nat]
  rcases Nat.le_total n xs.length with h | h
  · rw [Nat.min_eq_left h, List.take_of_length_le (by rw [List.length_drop]; omega)]
  · rw [Nat.min_eq_right h, Nat.sub_self, List.take_zero, List.drop_of_length_le h]
def signAt (R : Rows) (x y : Int) : List Nat := if inB R x y = true then [(rowAt R y.toNat).getD x.toNat 0] else [35]
def LowR (z : List Nat) : Prop := ∀ c ∈ z, c < 256 ∧ c ≠ 10
theorem Grid.low {R : Rows} {n : Nat} (g : Grid R n) : Low R := fun r m c mc => good_low (g.sgn r m c mc)
theorem inB_out {R : Rows} {n : Nat} (g : Grid R n) {x y : Int} (h : y < 0 ∨ (R.length : Int) ≤ y ∨ x < 0 ∨ (n : Int) ≤ x) : inB R x y = false := by
  unfold inB
  rw [g.wide]
  by_cases a : 0 ≤ x ∧ x < (n : Int)
  · rw [decide_eq_false (show ¬ (0 ≤ y ∧ y < (R.length : Int)) by omega), Bool.and_false]
  · rw [decide_eq_false a, Bool.false_and]
theorem inB_in {R : Rows} {n : Nat} (g : Grid R n) {x y : Int} (a : 0 ≤ x) (b : x < (n : Int)) (c : 0 ≤ y) (d : y < (R.length : Int)) : inB R x y = true := by
  unfold inB
  rw [g.wide, decide_eq_true (show 0 ≤ x ∧ x < (n : Int) from ⟨a, b⟩), decide_eq_true (show 0 ≤ y ∧ y < (R.length : Int) from ⟨c, d⟩)]
  rfl
theorem rowsV_get {R : Rows} {n j : Nat} (g : Grid R n) (hj : j < R.length) : (rowsV R)[j]? = some (.str (S (rowAt R j))) := by
  unfold rowsV
  rw [List.getElem?_map, (g.at hj).1]
  rfl
theorem rows_ok {R : Rows} {n : Nat} (g : Grid R n) : SeqAt.shaped (.list (R.map dR)) = true ∧ PyData.eqv (.list (R.map dR)) (.list (R.map dR)) = true := ⟨dRs_shaped g.low, by rw [dRs_eqv]; exact decide_eq_true rfl⟩
theorem rows_ne {H : Hp} {b l q : Addr} {R : Rows} (h : BagL H b l) (hq : H q = some (.lst (rowsV R))) : q ≠ b := fun e => by
  obtain ⟨ns, i, p, r, hb, _⟩ := h
  rw [e, hb] at hq
  match R, hq with
  | [_, _, _, _], hq => simp [rowsV] at hq
theorem PicAt.but {C : Addr} {H H' : Hp} {r b l : Addr} {R : Rows} (h : PicAt C H r R) (hb : BagL H b l) (s : SameBut b H H') : PicAt C H' r R := by
  obtain ⟨dx, q, h1, h2⟩ := h
  have nb : r ≠ b := fun e => by
    obtain ⟨xs, e2⟩ := bag_b hb
    rw [e, e2] at h1
    cases h1
  exact ⟨dx, q, s _ _ nb h1, s _ _ (rows_ne hb h2) h2⟩
theorem bag_same {H H' : Hp} {b l : Addr} (h : BagL H b l) (s : Same H H') : BagL H' b l := by
  obtain ⟨ns, i, q, r, e1, e2, e3⟩ := h
  exact ⟨ns, i, q, r, s _ _ e1, s _ _ e2, e3⟩
end Pm
namespace Pm
open PySem PySem.Spec PyProof.Rows L2 PpSet
/-! ### sets of at most 64 pairs -/
/-- a set of pairs of which only this is kept: its rows, and that they can be collected -/
structure Full (P : Program) (w : World) (h : Heap) (a : Addr) (L : List (Addr × List Int)) : Prop where
  at_ : ∃ (es : Array (Int × Value)) (ep : Nat) (t : SetTable) (o : Obj), (h.get? a = some o ∧ o.cls = .type "set" ∧ o.data = .set es ep t) ∧ es.toList.map (·.2) = (L.map fun q => Value.ref q.1) ∧ t.fits es.size = true ∧ Ris t.place.toList ∧ (t.led = true ∨ w.params.followText "set-order" = true)
  nd : (L.map (·.2)).Nodup
  len : L.length ≤ 64
def FullO (P : Program) (w : World) (a : Addr) (L : List (Addr × List Int)) : HO := .ext fun h => Full P w h a L
/-- as long as more can come, else full -/
def SetQ (P : Program) (w : World) (a : Addr) (L : List (Addr × List Int)) : HO := if L.length < 64 then SetTO P w a L else FullO P w a L
theorem setQ_few {P : Program} {w : World} {a : Addr} {L : List (Addr × List Int)} (h : L.length < 64) : SetQ P w a L = SetTO P w a L := if_pos h
theorem full_ok {P : Program} {w : World} {H : Hp} {h : Heap} {a : Addr} {L : List (Addr × List Int)} (R : Full P w h a L) : ObjOk P w H h a (FullO P w a L) := by
  have ⟨es, ep, t, o, ⟨ho, hc⟩, q⟩ := R.at_
  refine ⟨R, ⟨o, ho⟩, fun h1 h2 p k => ?_⟩
  have ⟨es', ep', t', o', ⟨ho', hc'⟩, q'⟩ := Full.at_ p
  exact ⟨⟨es', ep', t', o', ⟨k o' ho', hc'⟩, q'⟩, Full.nd p, Full.len p⟩
theorem full_of {P : Program} {w : World} {h : Heap} {a : Addr} {L : List (Addr × List Int)} (R : SetT0 P w h a L) (tp : ∀ p ∈ L, L2.IsT P w h p.2 p.1) : Full P w h a L := by
  obtain ⟨es, ep, t, R⟩ := R.full tp
  obtain ⟨o, ho, hx, hd⟩ := R.ob
  have ft : t.fits es.size = true := SetTR.fits (s := { heap := h }) R
  refine ⟨⟨es, ep, t, o, ⟨ho, hx.1, hd⟩, ?_, ft, R.tab.ris, R.led.symm⟩, R.nd, Nat.le_of_lt R.few⟩
  rw [R.rows, rowsOf, List.map_map]
  rfl
section
variable {P : Program} {w : World} {A : Around} {E : Value → Shared → Prop} {s : Shared} {a : Addr} {L : List (Addr × List Int)} {es : Array (Int × Value)} {ep : Nat} {t : SetTable}
/-- the last that a table of this size can take without a new table -/
theorem add_last (R : SetTR P w s.heap a L es ep t) {x : Addr} {k : List Int} (hx : L2.IsT P w s.heap k x) (hu : A.units < cLine) (l63 : L.length = 63) {Q : Bool → Shared → Prop}
    (old : k ∈ L.map (·.2) → Q false s)
    (new : k ∉ L.map (·.2) → ∀ h' L', Heap.SameBut a s.heap h' → Full P w h' a L' → L'.Perm ((x, k) :: L) → Q true { s with heap := h' }) :
    wpAny (model P w) A (setAddHashed a (.ref x) (thash P w k)) Q E s := by
  obtain ⟨o, ho, hex, hd⟩ := R.ob
  have room := R.room
  have m127 : t.mask = 127 := by
    rcases R.tab.mok with e | e | e
    · omega
    · omega
    · exact e
  unfold setAddHashed
  refine wpAny_holding ?_
  rw [show (100000 : Nat) = 99999 + 1 from rfl, setAddHashedIn_succ]
  refine wpAny_bind (wpAny_setState_of ho hd R.fits ?_)
  dsimp only
  refine wp_if_neg (by simp [byScan, Value.scannable]) ?_
  try refine wpAny_bind (wpAny_pure ?_)
  refine wpAny_bind (search_at R hx hu (fun hm => ?_) fun K hm hK hb => ?_)
  · dsimp only
    exact wpAny_pure (old hm)
  · dsimp only
    refine wpAny_bind (wpAny_setState_of ho hd R.fits ?_)
    dsimp only
    obtain ⟨q1, q2, q3, q4, q5, q6, q7, q8, q9⟩ := R.tab.put hK hb
    have pl1 : (t.put (way t.mask (thash P w k) K)).1.plain = true := q6.trans R.plain
    generalize et : t.put (way t.mask (thash P w k) K) = pt at q1 q3 q4 q5 q6 q7 q8 q9 pl1 ⊢
    obtain ⟨t1, p⟩ := pt
    dsimp only at q1 q3 q4 q5 q6 q7 q8 q9 pl1 ⊢
    subst q1
    first
      | (refine wpAny_bind ?_; refine wp_if_pos pl1 ?_; refine hashBy_tup hx ?_)
      | refine wp_if_pos pl1 (wpAny_bind (hashBy_tup hx ?_))
    simp only [if_true]
    have rws : (SetTable.insertAt es (SetTable.below t.place (way t.mask (thash P w k) K)) (thash P w k, Value.ref x)).toList = rowsOf P w (L.take (SetTable.below t.place (way t.mask (thash P w k) K)) ++ (x, k) :: L.drop (SetTable.below t.place (way t.mask (thash P w k) K))) := by
      rw [SetTable.toList_insertAt, rows_put, R.rows]
    generalize SetTable.below t.place (way t.mask (thash P w k) K) = p at q2 q3 rws ⊢
    have pm := put_perm L p (x, k)
    have l64 : (L.take p ++ (x, k) :: L.drop p).length = 64 := by rw [pm.length_eq, List.length_cons, l63]
    have hhs : (L.take p ++ (x, k) :: L.drop p).map (fun p => thash P w p.2) = (L.map fun p => thash P w p.2).take p ++ thash P w k :: (L.map fun p => thash P w p.2).drop p := by
      rw [List.map_append, List.map_cons, List.map_take, List.map_drop]
    rw [← hhs] at q3
    have nd1 : ((L.take p ++ (x, k) :: L.drop p).map (·.2)).Nodup := (pm.map (·.2)).nodup_iff.mpr (by
      rw [List.map_cons]
      exact List.nodup_cons.mpr ⟨hm, R.nd⟩)
    have sz : (SetTable.insertAt es p (thash P w k, Value.ref x)).size = 64 := by
      have z := congrArg List.length rws
      unfold rowsOf at z
      rw [Array.length_toList, List.length_map, l64] at z
      exact z
    generalize SetTable.insertAt es p (thash P w k, Value.ref x) = es1 at rws sz ⊢
    generalize L.take p ++ (x, k) :: L.drop p = L1 at pm l64 q3 nd1 rws
    refine wpAny_bind (wpAny_storeSet_of ho hd ?_ (by rw [sz, sizeLine_eq]; omega))
    have sb : Heap.SameBut a s.heap (s.heap.update a (Obj.putSet es1 t1)) := Heap.SameBut.update ..
    have ho1 := store_at (es' := es1) (t' := t1) ho hd
    generalize s.heap.update a (Obj.putSet es1 t1) = h1 at sb ho1 ⊢
    have nf : ¬ t1.tooFull = true := fun z => by
      unfold SetTable.tooFull at z
      rw [decide_eq_true_eq, q9, List.length_map, q4, m127] at z
      omega
    have sz1 : t1.place.size = es1.size := by
      have z := q3.sz
      rw [List.length_map, l64] at z
      rw [z, sz]
    have fit : t1.fits es1.size = true := by
      have z := q9
      rw [List.length_map] at z
      unfold SetTable.fits
      rw [z, Bool.and_eq_true, beq_iff_eq, decide_eq_true_eq, q4, m127]
      exact ⟨sz1, by omega⟩
    have got : Full P w h1 a L1 := ⟨⟨es1, ep + 1, t1, _, ⟨ho1, hex.1, rfl⟩, by rw [rws, rowsOf, List.map_map]; rfl, fit, q3.ris, by rw [q5]; exact R.led.symm⟩, nd1, Nat.le_of_eq l64⟩
    first
      | refine wp_if_neg (by simp [nf]) ?_
      | (refine wpAny_bind ?_; refine wp_if_neg (by simp [nf]) ?_; refine wpAny_pure ?_)
    exact wpAny_pure (new hm h1 L1 sb got pm)
end
section
variable {X : Cx} {pins : List (Addr × Obj)} {σ : L2.St} {H : Hp} {s : Shared}
/-- D.add(t), t a tuple of ints -/
theorem put_tup {E : Value → Shared → Prop} {D t : Addr} {k : List Int} {L : List (Addr × List Int)} {Q : Value → Shared → Prop} (J : Inv X pins σ H s) (hD : H D = some (SetTO X.prog X.w D L))
    (hL : ∀ p ∈ L, SqT X.K H p.1 (p.2.map V.int)) (ht : SqT X.K H t (k.map V.int)) (few : L.length < 64) (hu : X.A.units + 1 < cLine)
    (go : ∀ L' s', (k ∈ L.map (·.2) → L' = L) → (k ∉ L.map (·.2) → L'.Perm ((t, k) :: L)) → Inv X pins σ (upd H D (SetQ X.prog X.w D L')) s' → Q .none s') :
    wpAny (model X.prog X.w) X.A (call (.builtin "set.add") [.ref D, .ref t]) Q E s := by
  have R0 : SetT0 X.prog X.w s.heap D L := (J.hok D _ hD).1
  obtain ⟨es, ep, tb, R⟩ := R0.full fun p hp => J.isT (hL p hp)
  have hk : L2.IsT X.prog X.w s.heap k t := J.isT ht
  have hT : s.TypeIs (.ref D) "set" := by
    obtain ⟨o, ho, hx, _⟩ := R.ob
    exact ⟨o, ho, hx.1⟩
  refine wpAny_call_entry F.slot_set_add hT F.entry_set_add ?_ (F.args_set_add_2 _ _)
  unfold Builtin.«set.add» Builtin.Frozenset.oneOther
  simp only [bind_assoc, List.isEmpty_nil]
  unfold setAdd Builtin.Frozenset.addrOf
  refine wpAny_bind (wpAny_pure ?_)
  try dsimp only
  refine wpAny_bind (wpAny_pure ?_)
  try dsimp only
  refine wpAny_bind (wpAny_holding (wpAny_bind (wpAny_pyHash_tuple hu hk ?_)))
  rcases Nat.lt_or_ge (L.length + 1) 64 with lt | ge
  case inr =>
    refine add_last (s := { s with toks := s.toks + (k.length + 1) }) R hk hu (by omega) (fun hm => ?_) fun hm h' L' sb R2 pm => ?_
    · show wpAny _ _ (ret Value.none) _ _ _
      have there : ∃ u, s.heap.get? D = some u := by
        obtain ⟨o, ho, _⟩ := R.ob
        exact ⟨o, ho⟩
      refine wpAny_pure ⟨_, rfl, go L _ (fun _ => rfl) (fun z => absurd hm z) (J.write (e := D) (t' := s.toks + (k.length + 1)) (by rw [hD]; trivial) (.inl rfl) (fun b u hb q => q) there ?_)⟩
      rw [setQ_few few]
      exact setTO_new R0
    · show wpAny _ _ (ret Value.none) _ _ _
      have there : ∃ u, h'.get? D = some u := by
        obtain ⟨_, _, _, o, ⟨ho, _⟩, _⟩ := R2.at_
        exact ⟨o, ho⟩
      refine wpAny_pure ⟨_, rfl, go L' _ (fun z => absurd z hm) (fun _ => pm) (J.write (e := D) (t' := s.toks + (k.length + 1)) (by rw [hD]; trivial) (.inl rfl) (fun b u hb q => (sb.2 b hb).trans q) there ?_)⟩
      have l64 : ¬ L'.length < 64 := by rw [pm.length_eq, List.length_cons]; omega
      rw [show SetQ X.prog X.w D L' = FullO X.prog X.w D L' from if_neg l64]
      exact full_ok R2
  refine add_at (s := { s with toks := s.toks + (k.length + 1) }) R hk hu lt fun b h' L' es' ep' t' sb R2 c1 c2 => ?_
  show wpAny _ _ (ret Value.none) _ _ _
  have there : ∃ u, h'.get? D = some u := by
    obtain ⟨o, ho, _⟩ := R2.ob
    exact ⟨o, ho⟩
  exact wpAny_pure ⟨_, rfl, go L' _ c1 c2 (J.write (e := D) (t' := s.toks + (k.length + 1)) (by rw [hD]; trivial) (.inl rfl) (fun b u hb q => (sb.2 b hb).trans q) there (by rw [setQ_few R2.few]; exact setTO_new R2.t0))⟩
/-- {elt for target in iter}, elt a tuple of ints: D the new set; L its members, each with its address -/
def tSct (P : Program) (w : World) (K : PySem.W.Frag) (walk : TI) (g : TG) (tt : TT) (te : TE) (vs : List Nat) : TE := fun σ H Q => walk σ H fun J H1 => ∀ D, H1 D = none →
  ∃ W : Nat → Nat → Hp → Prop, (∃ m, W 0 m (upd H1 D (SetTO P w D []))) ∧ ∀ i m G, W i m G →
    (J.stop i G ∧ Q (.ref D) G) ∨ (J.go i G ∧ ∃ Nx : Hp → Prop, (∀ G', Nx G' → ∃ m', m' < m ∧ W (i + 1) m' G') ∧
      ∀ x G1, J.yld i G x G1 → g x (wipe σ vs) G1 fun σ2 G2 => wipe σ2 vs = wipe σ vs ∧ tt σ2 G2 fun b G3 => if b = true then te σ2 G3 fun y G4 =>
        ∃ (t : Addr) (k : List Int) (L : List (Addr × List Int)), y = .ref t ∧ SqT K G4 t (k.map V.int) ∧ G4 D = some (SetTO P w D L) ∧ (∀ p ∈ L, SqT K G4 p.1 (p.2.map V.int)) ∧ L.length < 64 ∧
          ∀ L', (k ∈ L.map (·.2) → L' = L) → (k ∉ L.map (·.2) → L'.Perm ((t, k) :: L)) → Nx (upd G4 D (SetQ P w D L')) else Nx G3)
/-- the set that a comprehension begins with -/
abbrev noSet (w : World) : Obj := { cls := .type "set", dict := none, data := .set #[] 0 (.fresh 0 0 (!w.params.followText "set-order")) }
theorem pe_sct {elt tg iter : Expr} {ifs : List Expr} {scope : Scope} {own : List (PySem.Str × Nat)} {pos : Pos} {walk : TI} {g : TG} {tt : TT} {te : TE} (calm : X.calm = true) (hu : X.A.units + 1 < cLine) (nd : X.N.Nodup) (hi : PI X tg iter walk)
    (ok : BlkOk X.N X.env.scope scope own)
    (hg : ∀ (s0 : Shared) (H0 : Hp) (C : Addr) (cl : List (PySem.Str × Addr)) (fp : List Addr), PG (X.blk s0 H0 scope (compEnvC scope cl C X.env) fp) tg g)
    (ht : ∀ (s0 : Shared) (H0 : Hp) (C : Addr) (cl : List (PySem.Str × Addr)) (fp : List Addr), PTs (X.blk s0 H0 scope (compEnvC scope cl C X.env) fp) ifs tt)
    (he : ∀ (s0 : Shared) (H0 : Hp) (C : Addr) (cl : List (PySem.Str × Addr)) (fp : List Addr), PE (X.blk s0 H0 scope (compEnvC scope cl C X.env) fp) elt te)
    (plain : ∀ x, foldedSetIterable iter X.env x = pure x := by intro _; rfl) :
    PE X (.SetComp elt [⟨tg, iter, ifs, 0⟩] scope pos) (tSct X.prog X.w X.K walk g tt te (own.map (·.2))) := by
  refine ⟨fun pins s σ H Q J0 h => ?_⟩
  rw [eval_SetComp]
  have frees : ∀ y ∈ scope.names, y.2 = .free → ∃ c, X.env.cells.lookup y.1 = some c := fun y hy e => (ok.free y hy e).elim (fun z => J0.ok.has _ (.inl z)) fun z => J0.ok.has _ (.inr z)
  refine wpAny_comprehension_free rfl plain (closure_ok frees) ok.kind (fun y hy e => by rw [ok.uniq y hy, e]) (thn (hi.run pins s σ H _ J0 h) fun xv sa hx => thn hx fun itv sb h2 => ?_)
  obtain ⟨it, fp, tn, J, Ha, e, Ia, T, sta, fa, q⟩ := h2
  subst e
  refine newSet_ok (newEnv_comp ?_)
  generalize eD : sb.heap.objs.size = D
  obtain ⟨W, ⟨m0, w0⟩, turn⟩ := q D (Ia.hok.fresh (Nat.le_of_eq eD))
  generalize es1 : ({ sb with heap := sb.heap.push (noSet X.w) } : Shared) = s1
  have hp1 : s1.heap = sb.heap.push (noSet X.w) := by rw [← es1]
  have I1 : L2.Inv X pins σ (upd Ha D (SetTO X.prog X.w D [])) s1 := by
    rw [← es1]
    refine Ia.laid (t' := sb.toks) (fun b o z => Heap.get?_push_of_some _ z) (Nat.le_of_eq eD) (setTO_new (SetTR.t0 (es := #[]) (ep := 0) (setTR_fresh ?_)))
    rw [← eD]
    exact Heap.get?_push_size _ rfl
  have fpOk : ∀ b ∈ fp, FpOk X pins (upd Ha D (SetTO X.prog X.w D [])) b ∧ b < s1.heap.objs.size := fun b hb => by
    obtain ⟨o, z, _⟩ := T.obj _ _ sta b hb
    have lt := Heap.lt_size z
    refine ⟨⟨?_, (fa b hb).2⟩, by rw [hp1, Heap.size_push]; exact Nat.lt_succ_of_lt lt⟩
    rw [upd_ne (by rw [← eD]; exact Nat.ne_of_lt lt)]
    exact (fa b hb).1
  have st1 : tn 0 s1.heap := T.keep _ _ _ sta fun b _ o z => by
    rw [hp1]
    exact Heap.get?_push_of_some _ z
  have I2 := block_start I1 ok nd fpOk
  have rg := hg s1 (upd Ha D (SetTO X.prog X.w D [])) s1.heap.objs.size (cellsFrom (s1.heap.objs.size + 1) scope.names (cloFrom X.env.cells scope.names [])) fp
  have rt := ht s1 (upd Ha D (SetTO X.prog X.w D [])) s1.heap.objs.size (cellsFrom (s1.heap.objs.size + 1) scope.names (cloFrom X.env.cells scope.names [])) fp
  have re := he s1 (upd Ha D (SetTO X.prog X.w D [])) s1.heap.objs.size (cellsFrom (s1.heap.objs.size + 1) scope.names (cloFrom X.env.cells scope.names [])) fp
  show codeAny _ _ (.compStart (.SetComp elt [⟨tg, iter, ifs, 0⟩] scope pos) 0 (.ref it) (.ref D) (compEnvC scope (cellsFrom (s1.heap.objs.size + 1) scope.names (cloFrom X.env.cells scope.names [])) s1.heap.objs.size X.env))
    (compPost (model X.prog X.w) X.A X.xe none (EP X pins σ Q) (.ref D) s1.heap.objs.size) { s1 with heap := pushCells (s1.heap.push { cls := .type "dict", data := .dict #[] }) scope.names }
  have nofp : ∀ b ∈ fp, (upd Ha D (SetTO X.prog X.w D [])) b = none := fun b hb => (fpOk b hb).1.1
  generalize ece : compEnvC scope (cellsFrom (s1.heap.objs.size + 1) scope.names (cloFrom X.env.cells scope.names [])) s1.heap.objs.size X.env = ce at I2 rg rt re ⊢
  have cL : ce.locals = s1.heap.objs.size := by subst ece; rfl
  generalize eHb : upd Ha D (SetTO X.prog X.w D []) = Hb at I1 I2 rg rt re w0 nofp fpOk
  generalize es2 : ({ s1 with heap := pushCells (s1.heap.push { cls := .type "dict", data := .dict #[] }) scope.names } : Shared) = s2 at I2 ⊢
  have st2 : tn 0 s2.heap := T.keep _ _ _ st1 fun b _ o z => by
    rw [← es2]
    exact pushCells_keeps _ _ _ _ (Heap.get?_push_of_some _ z)
  have fpB : ∀ {σ' : L2.St} {H' : Hp} {s' : Shared}, L2.Inv (X.blk s1 Hb scope ce fp) [] σ' H' s' → (∀ b ∈ fp, H' b = none) → ∀ b ∈ fp, FpOk (X.blk s1 Hb scope ce fp) [] H' b := fun {σ' H' s'} I' hn b hb =>
    ⟨hn b hb, (I'.ok.exf b hb).1, I'.ok.exfs b hb, .inl hb, fun x c z => (I'.ok.exf b hb).2 x c z, fun p hp => absurd (show p ∈ ([] : List (Addr × Obj)) ++ [] from hp) (by simp)⟩
  have loop : codeAny (model X.prog X.w) X.A (.compLoop (.SetComp elt [⟨tg, iter, ifs, 0⟩] scope pos) 0 (.ref it) (.ref D) ce) (compPost (model X.prog X.w) X.A X.xe none (EP X pins σ Q) (.ref D) s1.heap.objs.size) s2 := by
    refine compLoopS_any (fun n z => ∃ i G, L2.Inv (X.blk s1 Hb scope ce fp) [] (wipe σ (own.map (·.2))) G z ∧ tn i z.heap ∧ (∀ b ∈ fp, G b = none) ∧ W i n G) ?_ m0 ⟨0, Hb, I2, st2, nofp, w0⟩
    rintro n s3 ⟨i, G, I3, st3, n3, w3⟩
    rcases turn i n G w3 with ⟨stop, qq⟩ | ⟨go, Nx, hNx, step⟩
    · refine thnF (T.done (X.blk s1 Hb scope ce fp) rfl rfl rfl calm i [] s3 _ G (fun _ _ => False) I3 (fpB I3 n3) st3 stop) fun r s4 ⟨hr, I4⟩ => ?_
      subst hr
      have I5 : L2.Inv X pins σ G s4 := I1.call' (ch := fp) I4.os I4.base I4.hok I4.bare fun b hb => ⟨(fpOk b hb).1.2.2.2.1, (fpOk b hb).1.2.1, (fpOk b hb).1.2.2.2.2.1, (fpOk b hb).1.2.2.2.2.2⟩
      have nC : G s1.heap.objs.size = none := by
        have z : G ce.locals = none := I4.free
        rw [cL] at z
        exact z
      obtain ⟨mm, hn, _⟩ := I4.loc
      have hn' : s4.heap.Ns ce.locals mm := hn
      rw [cL] at hn'
      refine ⟨mm, hn', fun h'' sbt => ?_⟩
      obtain ⟨f0, f1, f2, f3, f4, f5⟩ := I1.fpOk (Nat.le_refl _) nC
      exact ⟨.ref D, G, I5.turned (t' := s4.toks) (fun b o hb z => (sbt.2 b hb).trans z) f0 f1 f3 f4 f5, rfl, qq⟩
    · refine thnF (T.item (X.blk s1 Hb scope ce fp) rfl rfl rfl calm i [] s3 _ G (fun _ _ => False) I3 (fpB I3 n3) st3 go) fun r s4 ⟨u, hr, h4⟩ => ?_
      subst hr
      refine thnF h4 fun _ s5 ⟨x, G1, I5, r5, y5, st5, n5⟩ => ?_
      refine thnF (rg.run _ s5 _ G1 x u _ (I5.pinned (fpB I5 n5) (T.obj _ _ st5)) r5 (step x G1 y5)) fun _ s6 ⟨σ6, G2, I6, hw, q6⟩ => ?_
      refine thnF (rt.run _ s6 σ6 G2 _ I6 q6) fun b s7 ⟨G3, I7, q7⟩ => ?_
      have fin : ∀ {s' : Shared} {G' : Hp}, L2.Inv (X.blk s1 Hb scope ce fp) ([] ++ pinsAt fp s5.heap) σ6 G' s' → Nx G' → ∃ m, m < n ∧ ∃ i G, L2.Inv (X.blk s1 Hb scope ce fp) [] (wipe σ (own.map (·.2))) G s' ∧ tn i s'.heap ∧ (∀ b ∈ fp, G b = none) ∧ W i m G := fun {s' G'} I' nx => by
        obtain ⟨m', hm, w'⟩ := hNx G' nx
        have pn : ∀ b ∈ fp, ∀ o, s5.heap.get? b = some o → s'.heap.get? b = some o ∧ G' b = none := fun b hb o z =>
          let y := I'.pin (b, o) (List.mem_append_right _ (List.mem_append_right _ (mem_pinsAt hb z)))
          ⟨y.1, y.2.1⟩
        refine ⟨m', hm, i + 1, G', (I'.unpinned (pins := [])).weak (by rw [← hw, wipe_length]) (fun j v z => ?_), T.keep _ _ _ st5 fun b hb o z => (pn b hb o z).1, fun b hb => ?_, w'⟩
        · rw [← hw] at z
          exact (wipe_some z).1
        · obtain ⟨o, z, _⟩ := T.obj _ _ st5 b hb
          exact (pn b hb o z).2
      cases b with
      | false =>
        simp only [if_false, Bool.false_eq_true] at q7 ⊢
        exact fin I7 q7
      | true =>
        simp only [if_true] at q7 ⊢
        refine thnF (re.run _ s7 σ6 G3 _ I7 q7) fun z s8 ⟨yv, G4, I8, r8, t, k, L, ey, htk, hD, hL, few, nx⟩ => ?_
        subst ey
        cases (show z = Value.ref t from r8)
        exact put_tup (X := X.blk s1 Hb scope ce fp) I8 hD hL htk few hu fun L' s9 c1 c2 I9 => fin I9 (nx L' c1 c2)
  exact codeAny_compStart_set loop (T.self X.A 0 _ _ _ st2 loop)
end
end Pm
namespace Pm
open PySem PySem.Spec PyProof.Rows L2 PpSet SrtO
/-! ### sorted of a set of pairs -/
def pr (l : List Int) : Int × Int := (l.getD 0 0, l.getD 1 0)
section
variable {P : Program} {w : World} {A : Around} {E : Value → Shared → Prop} {s : Shared}
theorem pair_of {h : Heap} {b : Addr} {k : List Int} (x : L2.IsT P w h k b) (hl : k.length = 2) : Srt.IsPair h (.ref b) (pr k).1 (pr k).2 := by
  obtain ⟨a, xs, e, ⟨o, ho, hc, n, hd⟩, i⟩ := tupInts_of x
  injection e with e
  subst e
  obtain ⟨u, v, rfl⟩ : ∃ u v, k = [u, v] := match k, hl with | [u, v], _ => ⟨u, v, rfl⟩
  generalize exs : xs.toList = l at i
  cases i with
  | cons _ t1 i =>
    cases i with
    | cons _ t2 i =>
      cases i
      have ex : xs = #[Value.int u t1, Value.int v t2] := by
        rw [← Array.toArray_toList (xs := xs), exs]
      subst ex
      exact ⟨_, o, _, _, n, rfl, ho, hc, hd⟩
variable {a : Addr} {L : List (Addr × List Int)}
theorem sorted_setP {Q : Value → Shared → Prop} (R : Full P w s.heap a L) (tp : ∀ p ∈ L, L2.IsT P w s.heap p.2 p.1) (hh : A.handled = none) (two : ∀ p ∈ L, p.2.length = 2)
    (go : ∀ s' p (out : Array Value) (c : Nat) (M : List (Addr × List Int)), (∀ b o, s.heap.get? b = some o → s'.heap.get? b = some o) → s'.gens = s.gens → s'.os = s.os → s.heap.objs.size ≤ p → s'.heap.get? p = some (seqObj "list" out c) →
      out.toList = M.map (fun q => Value.ref q.1) → M.Perm L → M.Pairwise (fun q r => lexB (pr r.2) (pr q.2) = false) → Q (.ref p) s') :
    wpAny (model P w) A (call (.builtin "sorted") [.ref a]) Q E s := by
  obtain ⟨es, ep, t, o, ⟨ho, hcl, hd⟩, rows, ft, ris, led⟩ := R.at_
  have few := R.len
  have sz : es.size = L.length := by
    have z := congrArg List.length rows
    rw [List.length_map, List.length_map, Array.length_toList] at z
    exact z
  refine Calls.call_function_entry kind_sorted plain_sorted entry_sorted (args_sorted1 _) ?_
  unfold Builtin.«sorted»
  refine wpAny_bind (m := checkCount "sorted" 1 1 _) (wpAny_pure (wpAny_bind ?_))
  refine collect_set (A := A.in1) hh ⟨o, ho, hcl, hd⟩ ft (by unfold scanBound; omega) ris led.symm fun s1 vs k1 hz g1 o1 pm => ?_
  rw [rows] at pm
  have lv : vs.length ≤ 64 := by
    rw [pm.length_eq, List.length_map]
    exact few
  refine wpAny_bind (wpAny_newList ?_ (by rw [sizeLine_eq]; omega))
  have hoL : (s1.heap.push (seqObj "list" vs.toArray 0)).get? s1.heap.objs.size = some (seqObj "list" vs.toArray 0) := Heap.get?_push_size _ rfl
  have tk : ∀ q ∈ L, L2.IsT P w (s1.heap.push (seqObj "list" vs.toArray 0)) q.2 q.1 := fun q hq => isT_keep (tp q hq) fun b u e => Heap.get?_push_of_some _ (k1 b u e)
  generalize eh : s1.heap.push (seqObj "list" vs.toArray 0) = h1 at hoL tk
  have fromL : ∀ v ∈ vs, ∃ q ∈ L, v = Value.ref q.1 := fun v hv => by
    obtain ⟨q, hq, e⟩ := List.mem_map.mp (pm.mem_iff.mp hv)
    exact ⟨q, hq, e.symm⟩
  have isP : ∀ v ∈ vs, Srt.IsPair h1 v (pr (TS.intsOf h1 v)).1 (pr (TS.intsOf h1 v)).2 := fun v hv => by
    obtain ⟨q, hq, e⟩ := fromL v hv
    rw [e, (tupInts_of (tk q hq)).ints]
    exact pair_of (tk q hq) (two q hq)
  refine wpAny_bind (wpAny_holding (wpAny_call_entry slot_list_sort ⟨_, hoL, rfl⟩ entry_list_sort (list_sort_ord (s := { s1 with heap := h1 }) (swo_lex fun v => pr (TS.intsOf h1 v)) hoL (by rw [sizeLine_eq]; omega)
    (fun h2 => pairs_sortableO (by omega) isP fun o e => ?_) fun out hs hb => ⟨_, rfl, ?_⟩) (args_list_sort _)))
  · have e' : some o = some (seqObj "list" vs.toArray 0) := e.symm.trans hoL
    cases e'
    intro c
    exact absurd (Value.type.inj c) (by decide)
  · -- the rows behind the values
    have pick : ∀ us : List Value, (∀ v ∈ us, ∃ q ∈ L, v = Value.ref q.1) → ∃ M : List (Addr × List Int), us = M.map (fun q => Value.ref q.1) ∧ ∀ q ∈ M, q ∈ L := by
      intro us
      induction us with
      | nil => exact fun _ => ⟨[], rfl, fun q hq => nomatch hq⟩
      | cons v us ih =>
        intro hv
        obtain ⟨q, hq, e⟩ := hv v List.mem_cons_self
        obtain ⟨M, e1, hM⟩ := ih fun u hu => hv u (List.mem_cons_of_mem _ hu)
        exact ⟨q :: M, by rw [e, e1, List.map_cons], fun r hr => (List.mem_cons.mp hr).elim (fun z => z ▸ hq) (hM r)⟩
    have same : ∀ q ∈ L, ∀ r ∈ L, q.1 = r.1 → q = r := fun q hq r hr e => by
      have a1 := tp q hq
      rw [e] at a1
      exact Prod.ext e (a1.inj (tp r hr))
    obtain ⟨M, eM, hM⟩ := pick out fun v hv => fromL v (hb.perm.mem_iff.mp hv)
    have pmM : (M.map fun q => Value.ref q.1).Perm (L.map fun q => Value.ref q.1) := by
      rw [← eM]
      exact hb.perm.trans pm
    have nL : L.Nodup := nodup_of_map R.nd
    have nR : (L.map fun q => Value.ref q.1).Nodup := List.pairwise_map.mpr (List.Pairwise.imp_of_mem (fun {q r} hq hr hne e => by
      injection e with e
      exact hne (same q hq r hr e)) nL)
    have nM : M.Nodup := nodup_of_map (pmM.nodup_iff.mpr nR)
    have pL : M.Perm L := (List.perm_ext_iff_of_nodup nM nL).mpr fun q => ⟨hM q, fun hq => by
      obtain ⟨r, hr, e⟩ := List.mem_map.mp (pmM.mem_iff.mpr (List.mem_map.mpr ⟨q, hq, rfl⟩))
      injection e with e
      rw [← same r (hM r hr) q hq e]
      exact hr⟩
    have pw : M.Pairwise (fun q r => lexB (pr r.2) (pr q.2) = false) := by
      have z : List.Pairwise (fun x y => lexB (pr (TS.intsOf h1 y)) (pr (TS.intsOf h1 x)) = false) out := hs
      rw [eM] at z
      refine List.Pairwise.imp_of_mem (fun {q r} hq hr c => ?_) (List.pairwise_map.mp z)
      rw [(tupInts_of (tk q (hM q hq))).ints, (tupInts_of (tk r (hM r hr))).ints] at c
      exact c
    obtain ⟨c, hc⟩ := sortedHeap_at (vs := vs) (out := out.toArray) hoL
    refine wpAny_pure ⟨_, rfl, go _ s1.heap.objs.size out.toArray c M (fun b u e => ?_) g1 o1 hz hc (by rw [List.toList_toArray]; exact eM) pL pw⟩
    have q := k1 b u e
    have lt := Heap.lt_size q
    show (sortedHeap h1 s1.heap.objs.size vs out.toArray).get? b = some u
    have sz1 : h1.objs.size = s1.heap.objs.size + 1 := by rw [← eh, size_push']
    rw [sortedHeap_old (Nat.ne_of_lt lt) (by rw [sz1]; exact Nat.lt_succ_of_lt lt), ← eh]
    exact Heap.get?_push_of_some _ q
end
/-- sorted(set) of pairs: a new list, ascending by the first int, then by the second -/
def rSortedSP (K : PySem.W.Frag) (P : Program) (w : World) : List V → Hp → VK → Prop := fun vs H Q => ∃ (a : Addr) (L : List (Addr × List Int)), vs = [V.ref a] ∧ (H a = some (SetTO P w a L) ∨ H a = some (FullO P w a L)) ∧ (∀ p ∈ L, SqT K H p.1 (p.2.map V.int) ∧ p.2.length = 2) ∧
  ∀ (M : List (Addr × List Int)) (p : Addr), M.Perm L → (M.map (·.2)).Nodup → M.Pairwise (fun q r => lexB (pr r.2) (pr q.2) = false) → H p = none → Q (.ref p) (upd H p (.lst (M.map fun q => V.ref q.1)))
theorem cr_sortedSP {X : Cx} (calm : X.calm = true) : CallR X (.builtin "sorted") (rSortedSP X.K X.prog X.w) := by
  intro pins s σ H vs us Q I r h
  obtain ⟨a, L, rfl, ha, hk, q⟩ := h
  have tp : ∀ p ∈ L, L2.IsT X.prog X.w s.heap p.2 p.1 := fun p hp => I.isT (hk p hp).1
  have R : Full X.prog X.w s.heap a L := ha.elim (fun z => full_of (I.hok a _ z).1 tp) fun z => (I.hok a _ z).1
  rw [Vals.ref1 r]
  refine sorted_setP R tp (I.ok.hd calm) (fun p hp => (hk p hp).2) fun s' p out c M kp g o hp hg hout pm pw => ?_
  have lM : (M.map fun q => V.ref q.1).length ≤ sizeLine := by
    have := R.len
    rw [List.length_map, sizeLine_eq, pm.length_eq]
    omega
  have hn : H p = none := I.hok.fresh hp
  have hv : Vals (M.map fun q => V.ref q.1) out.toList := by
    rw [hout]
    exact vals_of_refs M
  have J : L2.Inv X pins σ (upd H p (.lst (M.map fun q => V.ref q.1))) { s with heap := s'.heap, gens := s'.gens, drawn := s'.drawn, toks := s'.toks } :=
    I.call (ch := []) (Un.laid kp hp hn) (I.hok.laid kp hp ⟨lM, out.toList, c, hv, hg⟩) (by rw [g]; exact I.bare) (fun _ z => nomatch z)
  have e : s' = { s with heap := s'.heap, gens := s'.gens, drawn := s'.drawn, toks := s'.toks } := by
    cases s'
    cases s
    cases o
    rfl
  rw [e]
  exact ⟨.ref p, _, J, rfl, q M p pm ((pm.map (·.2)).nodup_iff.mpr R.nd) pw hn⟩
end Pm
namespace Pm
open PySem PySem.Spec PyProof.Rows L2 PpSet
/-! ### dict comprehensions whose keys are tuples -/
abbrev noDict : Obj := { cls := .type "dict", data := .dict #[] }
section
variable {X : Cx} {pins : List (Addr × Obj)} {σ : L2.St} {H : Hp} {s : Shared}
/-- D[t] = v by a comprehension, t a tuple -/
theorem put_dt {E : Value → Shared → Prop} {D t : Addr} {k : List L2.Key} {kvs : List (List L2.Key × V)} {v : V} {r : Value} {Q : Unit → Shared → Prop} (J : Inv X pins σ H s) (hD : H D = some (.dT kvs)) (ht : H t = some (.tup (k.map kV)))
    (few : kvs.length < sizeLine) (hu : X.A.units + 1 < cLine) (rv : RelV v r) (go : ∀ s', Inv X pins σ (upd H D (.dT (putK kvs k v))) s' → Q () s') :
    wpAny (model X.prog X.w) X.A (dictSet D (.ref t) r) Q E s := by
  obtain ⟨z, hd, xs, rel, dd⟩ := dt_of J.hok hD
  have lk : (putK kvs k v).length ≤ sizeLine := by
    have := length_putK kvs k v
    omega
  refine wpAny_dictSet_heap (hsz := by rw [← Paired.length rel]; exact z) (show X.A.units < cLine by omega) (key_of J.hok ht) dd fun h' dd' sb => go _ ?_
  obtain ⟨q, es, ep, hq, h2, h3, h4, _, h5⟩ := dd'
  refine d_write J (by rw [hD]; trivial) sb ⟨q, hq⟩ ⟨lk, hd, _, (rel.put k ht rv).keeps fun c ys ec => ?_, q, es, ep, hq, h2, h3, h4, h5⟩
  rw [upd_ne (ne_of ec hD (fun y => nomatch y))]
  exact ec
/-- {k: v for target in iter}, k a tuple: D the new dict -/
def tDct (walk : TI) (g : TG) (tt : TT) (tk te : TE) (vs : List Nat) : TE := fun σ H Q => walk σ H fun J H1 => ∀ D, H1 D = none →
  ∃ W : Nat → Nat → Hp → Prop, (∃ m, W 0 m (upd H1 D (.dT []))) ∧ ∀ i m G, W i m G →
    (J.stop i G ∧ Q (.ref D) G) ∨ (J.go i G ∧ ∃ Nx : Hp → Prop, (∀ G', Nx G' → ∃ m', m' < m ∧ W (i + 1) m' G') ∧
      ∀ x G1, J.yld i G x G1 → g x (wipe σ vs) G1 fun σ2 G2 => wipe σ2 vs = wipe σ vs ∧ tt σ2 G2 fun b G3 => if b = true then tk σ2 G3 fun y G4 => te σ2 G4 fun v G5 =>
        ∃ (t : Addr) (k : List L2.Key) (kvs : List (List L2.Key × V)), y = .ref t ∧ G5 t = some (.tup (k.map kV)) ∧ G5 D = some (.dT kvs) ∧ kvs.length < sizeLine ∧ Nx (upd G5 D (.dT (putK kvs k v))) else Nx G3)
theorem pe_dct {kx vx tg iter : Expr} {ifs : List Expr} {scope : Scope} {own : List (PySem.Str × Nat)} {pos : Pos} {walk : TI} {g : TG} {tt : TT} {tk te : TE} (calm : X.calm = true) (hu : X.A.units + 1 < cLine) (nd : X.N.Nodup) (hi : PI X tg iter walk)
    (ok : BlkOk X.N X.env.scope scope own)
    (hg : ∀ (s0 : Shared) (H0 : Hp) (C : Addr) (cl : List (PySem.Str × Addr)) (fp : List Addr), PG (X.blk s0 H0 scope (compEnvC scope cl C X.env) fp) tg g)
    (ht : ∀ (s0 : Shared) (H0 : Hp) (C : Addr) (cl : List (PySem.Str × Addr)) (fp : List Addr), PTs (X.blk s0 H0 scope (compEnvC scope cl C X.env) fp) ifs tt)
    (hk : ∀ (s0 : Shared) (H0 : Hp) (C : Addr) (cl : List (PySem.Str × Addr)) (fp : List Addr), PE (X.blk s0 H0 scope (compEnvC scope cl C X.env) fp) kx tk)
    (he : ∀ (s0 : Shared) (H0 : Hp) (C : Addr) (cl : List (PySem.Str × Addr)) (fp : List Addr), PE (X.blk s0 H0 scope (compEnvC scope cl C X.env) fp) vx te)
    (plain : ∀ x, foldedSetIterable iter X.env x = pure x := by intro _; rfl) :
    PE X (.DictComp kx vx [⟨tg, iter, ifs, 0⟩] scope pos) (tDct walk g tt tk te (own.map (·.2))) := by
  refine ⟨fun pins s σ H Q J0 h => ?_⟩
  rw [arm_eval_DictComp]
  have frees : ∀ y ∈ scope.names, y.2 = .free → ∃ c, X.env.cells.lookup y.1 = some c := fun y hy e => (ok.free y hy e).elim (fun z => J0.ok.has _ (.inl z)) fun z => J0.ok.has _ (.inr z)
  refine wpAny_comprehension_free rfl plain (closure_ok frees) ok.kind (fun y hy e => by rw [ok.uniq y hy, e]) (thn (hi.run pins s σ H _ J0 h) fun xv sa hx => thn hx fun itv sb h2 => ?_)
  obtain ⟨it, fp, tn, J, Ha, e, Ia, T, sta, fa, q⟩ := h2
  subst e
  refine wpAny_newObj_type (newEnv_comp ?_)
  generalize eD : sb.heap.objs.size = D
  obtain ⟨W, ⟨m0, w0⟩, turn⟩ := q D (Ia.hok.fresh (Nat.le_of_eq eD))
  generalize es1 : ({ sb with heap := sb.heap.push (noDict) } : Shared) = s1
  have hp1 : s1.heap = sb.heap.push (noDict) := by rw [← es1]
  have I1 : L2.Inv X pins σ (upd Ha D (.dT [])) s1 := by
    rw [← es1]
    refine Ia.laid (t' := sb.toks) (fun b o z => Heap.get?_push_of_some _ z) (Nat.le_of_eq eD) ?_
    rw [← eD]
    exact dt_empty sb.heap Ia.big
  have fpOk : ∀ b ∈ fp, FpOk X pins (upd Ha D (.dT [])) b ∧ b < s1.heap.objs.size := fun b hb => by
    obtain ⟨o, z, _⟩ := T.obj _ _ sta b hb
    have lt := Heap.lt_size z
    refine ⟨⟨?_, (fa b hb).2⟩, by rw [hp1, Heap.size_push]; exact Nat.lt_succ_of_lt lt⟩
    rw [upd_ne (by rw [← eD]; exact Nat.ne_of_lt lt)]
    exact (fa b hb).1
  have st1 : tn 0 s1.heap := T.keep _ _ _ sta fun b _ o z => by
    rw [hp1]
    exact Heap.get?_push_of_some _ z
  have I2 := block_start I1 ok nd fpOk
  have rg := hg s1 (upd Ha D (.dT [])) s1.heap.objs.size (cellsFrom (s1.heap.objs.size + 1) scope.names (cloFrom X.env.cells scope.names [])) fp
  have rt := ht s1 (upd Ha D (.dT [])) s1.heap.objs.size (cellsFrom (s1.heap.objs.size + 1) scope.names (cloFrom X.env.cells scope.names [])) fp
  have rk := hk s1 (upd Ha D (.dT [])) s1.heap.objs.size (cellsFrom (s1.heap.objs.size + 1) scope.names (cloFrom X.env.cells scope.names [])) fp
  have re := he s1 (upd Ha D (.dT [])) s1.heap.objs.size (cellsFrom (s1.heap.objs.size + 1) scope.names (cloFrom X.env.cells scope.names [])) fp
  show codeAny _ _ (.compStart (.DictComp kx vx [⟨tg, iter, ifs, 0⟩] scope pos) 0 (.ref it) (.ref D) (compEnvC scope (cellsFrom (s1.heap.objs.size + 1) scope.names (cloFrom X.env.cells scope.names [])) s1.heap.objs.size X.env))
    (compPost (model X.prog X.w) X.A X.xe none (EP X pins σ Q) (.ref D) s1.heap.objs.size) { s1 with heap := pushCells (s1.heap.push { cls := .type "dict", data := .dict #[] }) scope.names }
  have nofp : ∀ b ∈ fp, (upd Ha D (.dT [])) b = none := fun b hb => (fpOk b hb).1.1
  generalize ece : compEnvC scope (cellsFrom (s1.heap.objs.size + 1) scope.names (cloFrom X.env.cells scope.names [])) s1.heap.objs.size X.env = ce at I2 rg rt rk re ⊢
  have cL : ce.locals = s1.heap.objs.size := by subst ece; rfl
  generalize eHb : upd Ha D (.dT []) = Hb at I1 I2 rg rt rk re w0 nofp fpOk
  generalize es2 : ({ s1 with heap := pushCells (s1.heap.push { cls := .type "dict", data := .dict #[] }) scope.names } : Shared) = s2 at I2 ⊢
  have st2 : tn 0 s2.heap := T.keep _ _ _ st1 fun b _ o z => by
    rw [← es2]
    exact pushCells_keeps _ _ _ _ (Heap.get?_push_of_some _ z)
  have fpB : ∀ {σ' : L2.St} {H' : Hp} {s' : Shared}, L2.Inv (X.blk s1 Hb scope ce fp) [] σ' H' s' → (∀ b ∈ fp, H' b = none) → ∀ b ∈ fp, FpOk (X.blk s1 Hb scope ce fp) [] H' b := fun {σ' H' s'} I' hn b hb =>
    ⟨hn b hb, (I'.ok.exf b hb).1, I'.ok.exfs b hb, .inl hb, fun x c z => (I'.ok.exf b hb).2 x c z, fun p hp => absurd (show p ∈ ([] : List (Addr × Obj)) ++ [] from hp) (by simp)⟩
  have loop : codeAny (model X.prog X.w) X.A (.compLoop (.DictComp kx vx [⟨tg, iter, ifs, 0⟩] scope pos) 0 (.ref it) (.ref D) ce) (compPost (model X.prog X.w) X.A X.xe none (EP X pins σ Q) (.ref D) s1.heap.objs.size) s2 := by
    refine compLoop_anyD (fun n z => ∃ i G, L2.Inv (X.blk s1 Hb scope ce fp) [] (wipe σ (own.map (·.2))) G z ∧ tn i z.heap ∧ (∀ b ∈ fp, G b = none) ∧ W i n G) ?_ m0 ⟨0, Hb, I2, st2, nofp, w0⟩
    rintro n s3 ⟨i, G, I3, st3, n3, w3⟩
    rcases turn i n G w3 with ⟨stop, qq⟩ | ⟨go, Nx, hNx, step⟩
    · refine thnF (T.done (X.blk s1 Hb scope ce fp) rfl rfl rfl calm i [] s3 _ G (fun _ _ => False) I3 (fpB I3 n3) st3 stop) fun r s4 ⟨hr, I4⟩ => ?_
      subst hr
      have I5 : L2.Inv X pins σ G s4 := I1.call' (ch := fp) I4.os I4.base I4.hok I4.bare fun b hb => ⟨(fpOk b hb).1.2.2.2.1, (fpOk b hb).1.2.1, (fpOk b hb).1.2.2.2.2.1, (fpOk b hb).1.2.2.2.2.2⟩
      have nC : G s1.heap.objs.size = none := by
        have z : G ce.locals = none := I4.free
        rw [cL] at z
        exact z
      obtain ⟨mm, hn, _⟩ := I4.loc
      have hn' : s4.heap.Ns ce.locals mm := hn
      rw [cL] at hn'
      refine ⟨mm, hn', fun h'' sbt => ?_⟩
      obtain ⟨f0, f1, f2, f3, f4, f5⟩ := I1.fpOk (Nat.le_refl _) nC
      exact ⟨.ref D, G, I5.turned (t' := s4.toks) (fun b o hb z => (sbt.2 b hb).trans z) f0 f1 f3 f4 f5, rfl, qq⟩
    · refine thnF (T.item (X.blk s1 Hb scope ce fp) rfl rfl rfl calm i [] s3 _ G (fun _ _ => False) I3 (fpB I3 n3) st3 go) fun r s4 ⟨u, hr, h4⟩ => ?_
      subst hr
      refine thnF h4 fun _ s5 ⟨x, G1, I5, r5, y5, st5, n5⟩ => ?_
      refine thnF (rg.run _ s5 _ G1 x u _ (I5.pinned (fpB I5 n5) (T.obj _ _ st5)) r5 (step x G1 y5)) fun _ s6 ⟨σ6, G2, I6, hw, q6⟩ => ?_
      refine thnF (rt.run _ s6 σ6 G2 _ I6 q6) fun b s7 ⟨G3, I7, q7⟩ => ?_
      have fin : ∀ {s' : Shared} {G' : Hp}, L2.Inv (X.blk s1 Hb scope ce fp) ([] ++ pinsAt fp s5.heap) σ6 G' s' → Nx G' → ∃ m, m < n ∧ ∃ i G, L2.Inv (X.blk s1 Hb scope ce fp) [] (wipe σ (own.map (·.2))) G s' ∧ tn i s'.heap ∧ (∀ b ∈ fp, G b = none) ∧ W i m G := fun {s' G'} I' nx => by
        obtain ⟨m', hm, w'⟩ := hNx G' nx
        have pn : ∀ b ∈ fp, ∀ o, s5.heap.get? b = some o → s'.heap.get? b = some o ∧ G' b = none := fun b hb o z =>
          let y := I'.pin (b, o) (List.mem_append_right _ (List.mem_append_right _ (mem_pinsAt hb z)))
          ⟨y.1, y.2.1⟩
        refine ⟨m', hm, i + 1, G', (I'.unpinned (pins := [])).weak (by rw [← hw, wipe_length]) (fun j v z => ?_), T.keep _ _ _ st5 fun b hb o z => (pn b hb o z).1, fun b hb => ?_, w'⟩
        · rw [← hw] at z
          exact (wipe_some z).1
        · obtain ⟨o, z, _⟩ := T.obj _ _ st5 b hb
          exact (pn b hb o z).2
      cases b with
      | false =>
        simp only [if_false, Bool.false_eq_true] at q7 ⊢
        exact fin I7 q7
      | true =>
        simp only [if_true] at q7 ⊢
        refine thnF (rk.run _ s7 σ6 G3 _ I7 q7) fun z s8 ⟨yk, G4, I8, r8, q8⟩ => ?_
        refine thnF (re.run _ s8 σ6 G4 _ I8 q8) fun z2 s9 ⟨yv, G5, I9, r9, t, k, kvs, ey, htk, hD, few, nx⟩ => ?_
        subst ey
        cases (show z = Value.ref t from r8)
        exact put_dt (X := X.blk s1 Hb scope ce fp) I9 hD htk few hu r9 fun s10 J10 => fin J10 nx
  exact codeAny_compStart_dict loop (T.self X.A 0 _ _ _ st2 loop)
end
end Pm
namespace Pm
open PySem L2 SrtO
/-! ### reading order -/
abbrev Cell := Int × Int
/-- c stands before d in reading order -/
def bef (c d : Cell) : Prop := c.2 < d.2 ∨ (c.2 = d.2 ∧ c.1 < d.1)
theorem bef_irr (c : Cell) : ¬ bef c c := fun h => by
  unfold bef at h
  omega
theorem bef_tr {a b c : Cell} (h : bef a b) (k : bef b c) : bef a c := by
  unfold bef at *
  omega
theorem bef_tot {a b : Cell} (h : a ≠ b) : bef a b ∨ bef b a := by
  unfold bef
  obtain ⟨x, y⟩ := a
  obtain ⟨u, v⟩ := b
  by_cases e : y = v
  · by_cases e2 : x = u
    · exact absurd (by rw [e, e2]) h
    · show (y < v ∨ y = v ∧ x < u) ∨ (v < y ∨ v = y ∧ u < x)
      omega
  · show (y < v ∨ y = v ∧ x < u) ∨ (v < y ∨ v = y ∧ u < x)
    omega
/-- M: the cells of cs, each once, in reading order -/
structure Reading (cs M : List Cell) : Prop where
  asc : M.Pairwise bef
  mem : ∀ c, c ∈ M ↔ c ∈ cs
theorem asc_uniq : ∀ {M N : List Cell}, M.Pairwise bef → N.Pairwise bef → (∀ c, c ∈ M ↔ c ∈ N) → M = N
  | [], [], _, _, _ => rfl
  | [], c :: N, _, _, h => absurd ((h c).mpr List.mem_cons_self) (by simp)
  | c :: M, [], _, _, h => absurd ((h c).mp List.mem_cons_self) (by simp)
  | c :: M, d :: N, hM, hN, h => by
    obtain ⟨m1, m2⟩ := List.pairwise_cons.mp hM
    obtain ⟨n1, n2⟩ := List.pairwise_cons.mp hN
    have e : c = d := by
      rcases List.mem_cons.mp ((h c).mp List.mem_cons_self) with z | z
      · exact z
      · rcases List.mem_cons.mp ((h d).mpr List.mem_cons_self) with y | y
        · exact y.symm
        · exact absurd (bef_tr (n1 c z) (m1 d y)) (bef_irr d)
    subst e
    have r : M = N := asc_uniq m2 n2 fun x => by
      constructor
      · intro hx
        rcases List.mem_cons.mp ((h x).mp (List.mem_cons_of_mem _ hx)) with z | z
        · subst z
          exact absurd (m1 x hx) (bef_irr x)
        · exact z
      · intro hx
        rcases List.mem_cons.mp ((h x).mpr (List.mem_cons_of_mem _ hx)) with z | z
        · subst z
          exact absurd (n1 x hx) (bef_irr x)
        · exact z
    rw [r]
theorem Reading.uniq {cs ds M N : List Cell} (h : Reading cs M) (k : Reading ds N) (e : ∀ c, c ∈ cs ↔ c ∈ ds) : M = N := asc_uniq h.asc k.asc fun c => (h.mem c).trans ((e c).trans (k.mem c).symm)
theorem Reading.nodup {cs M : List Cell} (h : Reading cs M) : M.Nodup := List.Pairwise.imp (fun {a b} (hb : bef a b) => show a ≠ b from fun e => bef_irr b (by rw [e] at hb; exact hb)) h.asc
/-- flipped pairs, ascending and different, are cells in reading order -/
theorem flip_asc : ∀ {l : List (Int × Int)}, l.Nodup → l.Pairwise (fun p q => lexB q p = false) → (l.map fun p => ((p.2, p.1) : Cell)).Pairwise bef
  | [], _, _ => List.Pairwise.nil
  | p :: l, hn, hp => by
    obtain ⟨n1, n2⟩ := List.nodup_cons.mp hn
    obtain ⟨p1, p2⟩ := List.pairwise_cons.mp hp
    rw [List.map_cons]
    refine List.pairwise_cons.mpr ⟨fun c hc => ?_, flip_asc n2 p2⟩
    obtain ⟨q, hq, rfl⟩ := List.mem_map.mp hc
    have h1 := lexB_no.mp (p1 q hq)
    have ne : p ≠ q := fun e => n1 (by rw [e]; exact hq)
    obtain ⟨a, b⟩ := p
    obtain ⟨u, v⟩ := q
    show a < u ∨ (a = u ∧ b < v)
    simp only at h1
    by_cases e : a = u
    · by_cases e2 : b = v
      · exact absurd (by rw [e, e2]) ne
      · omega
    · omega
/-! ### dicts of cells -/
def keyC (c : Cell) : List L2.Key := [.inl c.1, .inl c.2]
def memO (M : List Cell) : HO := .dT (M.map fun c => (keyC c, V.bl true))
theorem keyC_inj {c d : Cell} (h : keyC c = keyC d) : c = d := by
  obtain ⟨x, y⟩ := c
  obtain ⟨u, v⟩ := d
  injection h with h1 h2
  injection h2 with h2 _
  injection h1 with h1
  injection h2 with h2
  exact Prod.ext h1 h2
theorem keyC_kV (c : Cell) : (keyC c).map kV = [.int c.1, .int c.2] := rfl
theorem put_new {M : List Cell} {c : Cell} (h : c ∉ M) : putK (M.map fun c => (keyC c, V.bl true)) (keyC c) (V.bl true) = (M ++ [c]).map fun c => (keyC c, V.bl true) := by
  unfold putK
  have e : ((M.map fun c => (keyC c, V.bl true)).any fun kv => decide (kv.1 = keyC c)) = false := by
    rw [List.any_eq_false]
    intro p hp
    obtain ⟨d, hd, rfl⟩ := List.mem_map.mp hp
    intro z
    exact h (by rw [← keyC_inj (of_decide_eq_true z)]; exact hd)
  rw [e]
  simp
theorem val_mem (M : List Cell) (c : Cell) : (valV (M.map fun c => (keyC c, V.bl true)) (keyC c)).isSome = decide (c ∈ M) := by
  unfold valV
  rw [Option.isSome_map]
  by_cases h : c ∈ M
  · rw [decide_eq_true h, List.find?_isSome]
    exact ⟨(keyC c, V.bl true), List.mem_map.mpr ⟨c, h, rfl⟩, decide_eq_true rfl⟩
  · rw [decide_eq_false h]
    have z : ((M.map fun c => (keyC c, V.bl true)).find? fun kv => decide (kv.1 = keyC c)) = none := by
      rw [List.find?_eq_none]
      intro p hp
      obtain ⟨d, hd, rfl⟩ := List.mem_map.mp hp
      intro y
      exact h (by rw [← keyC_inj (of_decide_eq_true y)]; exact hd)
    rw [z]
    rfl
end Pm
namespace Pm
open PySem PySem.Spec PyProof.Rows L2 PpSet
/-! ### comprehensions over a list -/
theorem sct_list {P : Program} {w : World} {K : PySem.W.Frag} {a : Addr} {xs : List V} {g : TG} {tt : TT} {te : TE} {vs : List Nat} {σ : L2.St} {H1 : Hp} {D : Addr} {Qd : Hp → Prop} (Pv : Nat → Hp → Prop)
    (h0 : Pv 0 (upd H1 D (SetTO P w D []))) (hl : ∀ i H, i ≤ xs.length → Pv i H → SqL K H a xs)
    (hs : ∀ i x H, xs[i]? = some x → Pv i H → g x (wipe σ vs) H fun σ2 G2 => wipe σ2 vs = wipe σ vs ∧ tt σ2 G2 fun b G3 => if b = true then te σ2 G3 fun y G4 =>
        ∃ (t : Addr) (k : List Int) (L : List (Addr × List Int)), y = .ref t ∧ SqT K G4 t (k.map V.int) ∧ G4 D = some (SetTO P w D L) ∧ (∀ p ∈ L, SqT K G4 p.1 (p.2.map V.int)) ∧ L.length < 64 ∧
          ∀ L', (k ∈ L.map (·.2) → L' = L) → (k ∉ L.map (·.2) → L'.Perm ((t, k) :: L)) → Pv (i + 1) (upd G4 D (SetQ P w D L')) else Pv (i + 1) G3)
    (hd : ∀ H, Pv xs.length H → Qd H) :
    ∃ W : Nat → Nat → Hp → Prop, (∃ m, W 0 m (upd H1 D (SetTO P w D []))) ∧ ∀ i m G, W i m G →
      ((Itl K a).stop i G ∧ Qd G) ∨ ((Itl K a).go i G ∧ ∃ Nx : Hp → Prop, (∀ G', Nx G' → ∃ m', m' < m ∧ W (i + 1) m' G') ∧
        ∀ x G1, (Itl K a).yld i G x G1 → g x (wipe σ vs) G1 fun σ2 G2 => wipe σ2 vs = wipe σ vs ∧ tt σ2 G2 fun b G3 => if b = true then te σ2 G3 fun y G4 =>
          ∃ (t : Addr) (k : List Int) (L : List (Addr × List Int)), y = .ref t ∧ SqT K G4 t (k.map V.int) ∧ G4 D = some (SetTO P w D L) ∧ (∀ p ∈ L, SqT K G4 p.1 (p.2.map V.int)) ∧ L.length < 64 ∧
            ∀ L', (k ∈ L.map (·.2) → L' = L) → (k ∉ L.map (·.2) → L'.Perm ((t, k) :: L)) → Nx (upd G4 D (SetQ P w D L')) else Nx G3) := by
  refine ⟨fun i m G => m = xs.length - i ∧ i ≤ xs.length ∧ Pv i G, ⟨xs.length, Nat.sub_zero _ |>.symm, Nat.zero_le _, h0⟩, ?_⟩
  rintro i m G ⟨rfl, hi, p⟩
  have q := hl i G hi p
  rcases Nat.lt_or_ge i xs.length with lt | ge
  · refine .inr ⟨⟨xs, xs[i], q, List.getElem?_eq_getElem lt⟩, Pv (i + 1), fun G' p' => ⟨xs.length - (i + 1), by omega, rfl, lt, p'⟩, fun x G1 y => ?_⟩
    obtain ⟨rfl, y⟩ := y
    exact hs i x _ (y xs q) p
  · obtain rfl : i = xs.length := by omega
    exact .inl ⟨⟨xs, q, Nat.le_refl _⟩, hd G p⟩
theorem dct_list {K : PySem.W.Frag} {a : Addr} {xs : List V} {g : TG} {tt : TT} {tk te : TE} {vs : List Nat} {σ : L2.St} {H1 : Hp} {D : Addr} {Qd : Hp → Prop} (Pv : Nat → Hp → Prop)
    (h0 : Pv 0 (upd H1 D (.dT []))) (hl : ∀ i H, i ≤ xs.length → Pv i H → SqL K H a xs)
    (hs : ∀ i x H, xs[i]? = some x → Pv i H → g x (wipe σ vs) H fun σ2 G2 => wipe σ2 vs = wipe σ vs ∧ tt σ2 G2 fun b G3 => if b = true then tk σ2 G3 fun y G4 => te σ2 G4 fun v G5 =>
        ∃ (t : Addr) (k : List L2.Key) (kvs : List (List L2.Key × V)), y = .ref t ∧ G5 t = some (.tup (k.map kV)) ∧ G5 D = some (.dT kvs) ∧ kvs.length < sizeLine ∧ Pv (i + 1) (upd G5 D (.dT (putK kvs k v))) else Pv (i + 1) G3)
    (hd : ∀ H, Pv xs.length H → Qd H) :
    ∃ W : Nat → Nat → Hp → Prop, (∃ m, W 0 m (upd H1 D (.dT []))) ∧ ∀ i m G, W i m G →
      ((Itl K a).stop i G ∧ Qd G) ∨ ((Itl K a).go i G ∧ ∃ Nx : Hp → Prop, (∀ G', Nx G' → ∃ m', m' < m ∧ W (i + 1) m' G') ∧
        ∀ x G1, (Itl K a).yld i G x G1 → g x (wipe σ vs) G1 fun σ2 G2 => wipe σ2 vs = wipe σ vs ∧ tt σ2 G2 fun b G3 => if b = true then tk σ2 G3 fun y G4 => te σ2 G4 fun v G5 =>
          ∃ (t : Addr) (k : List L2.Key) (kvs : List (List L2.Key × V)), y = .ref t ∧ G5 t = some (.tup (k.map kV)) ∧ G5 D = some (.dT kvs) ∧ kvs.length < sizeLine ∧ Nx (upd G5 D (.dT (putK kvs k v))) else Nx G3) := by
  refine ⟨fun i m G => m = xs.length - i ∧ i ≤ xs.length ∧ Pv i G, ⟨xs.length, Nat.sub_zero _ |>.symm, Nat.zero_le _, h0⟩, ?_⟩
  rintro i m G ⟨rfl, hi, p⟩
  have q := hl i G hi p
  rcases Nat.lt_or_ge i xs.length with lt | ge
  · refine .inr ⟨⟨xs, xs[i], q, List.getElem?_eq_getElem lt⟩, Pv (i + 1), fun G' p' => ⟨xs.length - (i + 1), by omega, rfl, lt, p'⟩, fun x G1 y => ?_⟩
    obtain ⟨rfl, y⟩ := y
    exact hs i x _ (y xs q) p
  · obtain rfl : i = xs.length := by omega
    exact .inl ⟨⟨xs, q, Nat.le_refl _⟩, hd G p⟩
/-! ### cells in a list, a region -/
/-- a list of cells at a: each with its address -/
abbrev CL := List (Addr × Cell)
def refs (ks : CL) : List V := ks.map fun p => V.ref p.1
def cellsOf (ks : CL) : List Cell := ks.map (·.2)
def CellO (c : Cell) : HO := .tup [.int c.1, .int c.2]
def Tups (H : Hp) (ks : CL) : Prop := ∀ p ∈ ks, H p.1 = some (CellO p.2)
theorem Tups.same {H H' : Hp} {ks : CL} (t : Tups H ks) (s : Same H H') : Tups H' ks := fun p hp => s _ _ (t p hp)
/-- the region at r has the cells M -/
def RegAt (C : Addr) (H : Hp) (r : Addr) (M : List Cell) : Prop := ∃ dx d, H r = some (.ins C dx [("_members", .ref d)]) ∧ H d = some (memO M) ∧ M.Pairwise bef ∧ M.length ≤ 64
def spRInit (K : PySem.W.Frag) (C : Addr) : Sp := fun vs H Q _ => ∃ (r dx a : Addr) (ks : CL), vs = [.ref r, .ref a] ∧ H r = some (.ins C dx []) ∧ SqL K H a (refs ks) ∧ Tups H ks ∧ ks.length ≤ 64 ∧
  ∀ H' M, Reading (cellsOf ks) M → RegAt C H' r M → SameBut r H H' → Q .non H'
abbrev nRInit : List Str := ["self", "cells", "flipped", "y", "x"]
theorem scRInit : FnScope nRInit ["self", "cells"] (defScope cRegionInit) := ⟨rfl, rfl, rfl, by decide +kernel, rfl, by decide +kernel, by decide +kernel⟩
theorem setQ_or {P : Program} {w : World} {H : Hp} {a : Addr} {L : List (Addr × List Int)} (h : H a = some (SetQ P w a L)) : H a = some (SetTO P w a L) ∨ H a = some (FullO P w a L) := by
  unfold SetQ at h
  split at h
  · exact .inl h
  · exact .inr h
theorem refs_at {ks : CL} {i : Nat} {x : V} (h : (refs ks)[i]? = some x) : ∃ t c, ks[i]? = some (t, c) ∧ x = .ref t := by
  unfold refs at h
  rw [List.getElem?_map] at h
  cases e : ks[i]? with
  | none =>
    rw [e] at h
    cases h
  | some p =>
    rw [e] at h
    cases h
    exact ⟨p.1, p.2, rfl, rfl⟩
theorem pr_two {l : List Int} (h : l.length = 2) : l = [(pr l).1, (pr l).2] := match l, h with | [_, _], _ => rfl
theorem pr_inj {l m : List Int} (hl : l.length = 2) (hm : m.length = 2) (e : pr l = pr m) : l = m := by
  rw [pr_two hl, pr_two hm, e]
structure RTxt (K : PySem.W.Frag) (mg : Str → Option Value) (C : Addr) : Prop where
  cl : Cls K C
  nM : NoAttr K C "_members"
  mgC : mg "Region" = some (.ref C)
  srt : mg "sorted" = none
  lst : mg "list" = none
section
variable {P : Program} {w : World} {K : PySem.W.Frag} {mg : Str → Option Value} {base : Heap}
theorem ok_rinit {f C : Addr} {fd : FuncData} (F : Fun K "__init__" "Region.__init__" cRegionInit f fd) (T : RTxt K mg C) : FnOk P w K mg base CX0 1 f fd ["self", "cells"] (spRInit K C) := by
  refine F.ok scRInit (fun vs H Q E h => ?_) (fun cdv A outer s H vs Q E hr h => ?_)
  · obtain ⟨r, dx, a, ks, rfl, _⟩ := h
    rfl
  · obtain ⟨r, dx, a, ks, rfl, hr0, ha, ht, few, k⟩ := h
    have hu : A.units + 1 + 3 < cLine := by
      have := hr.un
      have : A.units + 3 + 16 * 0 + 200 < cLine := this
      omega
    refine ⟨_, pss_cons (ps_set (i := 2) scRInit.nd rfl (.inl rfl) (pe_callB (cr_sortedSP rfl) (by rfl) T.srt (by decide +kernel) (pa_cons
        (pe_sct (own := [("x", 4), ("y", 3)]) (g := gTup K 2 (gCons (gName 4) (gCons (gName 3) gNil))) (tt := tYes) rfl (hu_of hr) scRInit.nd (pi_list (pv 1)) (blkOk_by (own := [("x", 4), ("y", 3)]) (N := nRInit) (sc := defScope cRegionInit) (by decide +kernel)) (fun _ _ _ _ _ => pg_tup rfl (pgs_cons (pg_name (i := 4) scRInit.nd rfl (.inl rfl)) (pgs_cons (pg_name (i := 3) scRInit.nd rfl (.inl rfl)) pgs_nil)))
          (fun _ _ _ _ _ => pts_nil) (fun _ _ _ _ _ => pe_tup (pa_cons (pv 3) (pa_cons (pv 4) pa_nil)))) pa_nil)))
      (pss_one (ps_fld (pv 0) (pe_dct (own := [("y", 3), ("x", 4)]) (g := gTup K 2 (gCons (gName 3) (gCons (gName 4) gNil))) (tt := tYes) rfl (hu_of hr) scRInit.nd (pi_list (pv 2)) (blkOk_by (own := [("y", 3), ("x", 4)]) (N := nRInit) (sc := defScope cRegionInit) (by decide +kernel)) (fun _ _ _ _ _ => pg_tup rfl (pgs_cons (pg_name (i := 3) scRInit.nd rfl (.inl rfl)) (pgs_cons (pg_name (i := 4) scRInit.nd rfl (.inl rfl)) pgs_nil)))
          (fun _ _ _ _ _ => pts_nil) (fun _ _ _ _ _ => pe_tup (pa_cons (pv 4) (pa_cons (pv 3) pa_nil))) (fun _ _ _ _ _ => pe_bl)) rfl)), ?_⟩
    -- the set
    refine ⟨.ref a, rfl, a, rfl, ⟨_, ha⟩, fun D nD => sct_list (K := K) (a := a) (xs := refs ks) (fun i G => ∃ L : List (Addr × List Int), Same H G ∧ G D = some (SetQ P w D L) ∧ (∀ p ∈ L, G p.1 = some (.tup (p.2.map V.int)) ∧ p.2.length = 2) ∧
      (∀ k : List Int, k ∈ L.map (fun p => p.2) ↔ ∃ c ∈ (cellsOf ks).take i, k = [c.2, c.1]) ∧ L.length ≤ i) ⟨[], same_upd nD, upd_same, (fun p hp => nomatch hp), (fun k => ⟨fun z => (nomatch z), fun ⟨c, hc, _⟩ => (nomatch hc)⟩), Nat.zero_le _⟩ (fun i G _ ⟨L, sm, _⟩ => sm.seq ha) ?_ ?_⟩
    · rintro i x G hx ⟨L, sm, hD, hL, hk, hl⟩
      obtain ⟨t, c, hi, rfl⟩ := refs_at hx
      have htc : G t = some (CellO c) := sm _ _ (ht _ (List.mem_of_getElem? hi))
      have hi2 : i < ks.length := (List.getElem?_eq_some_iff.mp hi).1
      have few' : L.length < 64 := by omega
      refine ⟨t, [.int c.1, .int c.2], rfl, SqT.of htc, rfl, _, _, rfl, _, _, rfl, rfl, rfl, ?_⟩
      refine tyes (iteT ⟨_, rfl, _, rfl, (by show 2 ≤ sizeLine; decide), fun T' nT => ?_⟩)
      have sT : Same G (upd G T' (.tup [.int c.2, .int c.1])) := same_upd nT
      refine ⟨T', [c.2, c.1], L, rfl, SqT.of upd_same, by rw [← setQ_few few']; exact sT _ _ hD, fun p hp => SqT.of (sT _ _ (hL p hp).1), by omega, fun L' c1 c2 => ?_⟩
      have nDT : D ≠ T' := ne_of_none hD nT
      have sD : ∀ b o, b ≠ D → G b = some o → (upd (upd G T' (.tup [.int c.2, .int c.1])) D (SetQ P w D L')) b = some o := fun b o hb e => by
        rw [upd_ne hb]
        exact sT _ _ e
      have nd : ∀ p ∈ L, p.1 ≠ D := fun p hp e => by
        have z := (hL p hp).1
        rw [e, hD, setQ_few few'] at z
        cases z
      have takes : ∀ k : List Int, (∃ d ∈ (cellsOf ks).take (i + 1), k = [d.2, d.1]) ↔ (k = [c.2, c.1] ∨ ∃ d ∈ (cellsOf ks).take i, k = [d.2, d.1]) := fun k => by
        have e : (cellsOf ks)[i]? = some c := by
          unfold cellsOf
          rw [List.getElem?_map, hi]
          rfl
        rw [List.take_add_one, e]
        constructor
        · rintro ⟨d, hd, ek⟩
          rcases List.mem_append.mp hd with z | z
          · exact .inr ⟨d, z, ek⟩
          · have : d = c := by simpa using z
            rw [this] at ek
            exact .inl ek
        · rintro (ek | ⟨d, hd, ek⟩)
          · exact ⟨c, List.mem_append_right _ (by simp), ek⟩
          · exact ⟨d, List.mem_append_left _ hd, ek⟩
      by_cases hm : [c.2, c.1] ∈ L.map (·.2)
      · have eL := c1 hm
        subst eL
        refine ⟨L', fun b o e => ?_, upd_same, fun p hp => ⟨?_, (hL p hp).2⟩, fun k => ?_, by omega⟩
        · exact sD b o (fun z => by rw [z, nD] at e; cases e) (sm _ _ e)
        · rw [upd_ne (nd p hp)]
          exact sT _ _ (hL p hp).1
        · rw [takes, hk k]
          exact ⟨.inr, fun z => z.elim (fun z => by rw [z]; exact (hk _).mp hm) id⟩
      · have pm := c2 hm
        refine ⟨L', fun b o e => ?_, upd_same, fun p hp => ?_, fun k => ?_, by rw [pm.length_eq, List.length_cons]; omega⟩
        · exact sD b o (fun z => by rw [z, nD] at e; cases e) (sm _ _ e)
        · rcases List.mem_cons.mp (pm.mem_iff.mp hp) with z | z
          · subst z
            refine ⟨?_, rfl⟩
            rw [upd_ne nDT.symm]
            exact upd_same
          · refine ⟨?_, (hL p z).2⟩
            rw [upd_ne (nd p z)]
            exact sT _ _ (hL p z).1
        · rw [takes, ← hk k, (pm.map (·.2)).mem_iff, List.map_cons, List.mem_cons]
    · -- sorted
      rintro G ⟨L, sm, hD, hL, hk, hl⟩
      refine ⟨D, L, rfl, setQ_or hD, fun p hp => ⟨SqT.of (hL p hp).1, (hL p hp).2⟩, fun M0 q pm nd asc nq => ?_⟩
      have sq : Same G (upd G q (.lst (M0.map fun p => V.ref p.1))) := same_upd nq
      have hM0 : ∀ p ∈ M0, G p.1 = some (.tup (p.2.map V.int)) ∧ p.2.length = 2 := fun p hp => hL p (pm.mem_iff.mp hp)
      have ndP : (M0.map fun p => pr p.2).Nodup := by
        refine List.pairwise_map.mpr (List.Pairwise.imp_of_mem (fun {p r} hp hr hne => ?_) (List.pairwise_map.mp nd))
        obtain ⟨_, l1⟩ := hM0 p hp
        obtain ⟨_, l2⟩ := hM0 r hr
        exact fun e => hne (pr_inj l1 l2 e)
      generalize eM : (M0.map fun p => pr p.2).map (fun z => ((z.2, z.1) : Cell)) = M
      have ascM : M.Pairwise bef := by
        rw [← eM]
        exact flip_asc ndP (List.pairwise_map.mpr asc)
      have lenM : M.length = M0.length := by rw [← eM, List.length_map, List.length_map]
      have lenL : M0.length ≤ 64 := by
        have l2 : (refs ks).length = ks.length := List.length_map _
        rw [pm.length_eq]
        omega
      have ndM : M.Nodup := List.Pairwise.imp (fun {x y} (hb : bef x y) => show x ≠ y from fun e => bef_irr y (by rw [e] at hb; exact hb)) ascM
      have memM : ∀ c, c ∈ M ↔ c ∈ cellsOf ks := fun c => by
        have lks : (cellsOf ks).take (refs ks).length = cellsOf ks := List.take_of_length_le (by
          unfold cellsOf refs
          rw [List.length_map, List.length_map]
          exact Nat.le_refl _)
        have h1 := hk [c.2, c.1]
        rw [lks] at h1
        rw [← eM]
        constructor
        · intro hc
          obtain ⟨z, hz, rfl⟩ := List.mem_map.mp hc
          obtain ⟨p, hp, rfl⟩ := List.mem_map.mp hz
          obtain ⟨_, l1⟩ := hM0 p hp
          have e1 : p.2 = [(pr p.2).1, (pr p.2).2] := pr_two l1
          obtain ⟨d, hd, e2⟩ := h1.mp (List.mem_map.mpr ⟨p, pm.mem_iff.mp hp, e1⟩)
          injection e2 with e3 e4
          injection e4 with e4 _
          have : ((pr p.2).2, (pr p.2).1) = d := Prod.ext e4 e3
          rw [this]
          exact hd
        · intro hc
          obtain ⟨p, hp, e1⟩ := List.mem_map.mp (h1.mpr ⟨c, hc, rfl⟩)
          refine List.mem_map.mpr ⟨(c.2, c.1), List.mem_map.mpr ⟨p, pm.mem_iff.mpr hp, ?_⟩, rfl⟩
          rw [e1]
          rfl
      -- the dict
      refine ⟨.ref q, rfl, q, rfl, ⟨_, SqL.of upd_same⟩, fun d nd2 => dct_list (K := K) (a := q) (xs := M0.map fun p => V.ref p.1) (fun i G2 => Same (upd G q (.lst (M0.map fun p => V.ref p.1))) G2 ∧ G2 d = some (memO (M.take i)))
        ⟨same_upd nd2, upd_same⟩ (fun i G2 _ ⟨s2, _⟩ => SqL.of (s2 _ _ upd_same)) ?_ ?_⟩
      · rintro i x G2 hx ⟨s2, hd⟩
        have hp := hx
        rw [List.getElem?_map] at hp
        cases ep : M0[i]? with
        | none =>
          rw [ep] at hp
          cases hp
        | some p =>
          rw [ep] at hp
          cases hp
          obtain ⟨h1, l1⟩ := hM0 p (List.mem_of_getElem? ep)
          have e1 : p.2 = [(pr p.2).1, (pr p.2).2] := pr_two l1
          have g1 : G2 p.1 = some (.tup [.int (pr p.2).1, .int (pr p.2).2]) := by
            have z := s2 _ _ (sq _ _ h1)
            rw [e1] at z
            exact z
          have eMi : M[i]? = some ((pr p.2).2, (pr p.2).1) := by
            rw [← eM, List.getElem?_map, List.getElem?_map, ep]
            rfl
          refine ⟨p.1, [.int (pr p.2).1, .int (pr p.2).2], rfl, SqT.of g1, rfl, _, _, rfl, _, _, rfl, rfl, rfl, ?_⟩
          refine tyes (iteT ⟨_, rfl, _, rfl, (by show 2 ≤ sizeLine; decide), fun T' nT => ?_⟩)
          have nin : ((pr p.2).2, (pr p.2).1) ∉ M.take i := fun z => by
            have e2 : M = M.take i ++ M.drop i := (List.take_append_drop i M).symm
            have e3 : M.drop i = ((pr p.2).2, (pr p.2).1) :: M.drop (i + 1) := by
              have lt : i < M.length := (List.getElem?_eq_some_iff.mp eMi).1
              rw [List.drop_eq_getElem_cons lt]
              rw [List.getElem?_eq_getElem lt] at eMi
              rw [Option.some.inj eMi]
            rw [e2, e3] at ndM
            exact (List.nodup_append.mp ndM).2.2 _ z _ List.mem_cons_self rfl
          refine ⟨T', keyC ((pr p.2).2, (pr p.2).1), _, rfl, upd_same, (same_upd nT) _ _ hd, ?_, fun b o e => ?_, ?_⟩
          · rw [List.length_map, sizeLine_eq, List.length_take]
            omega
          · have nbd : b ≠ d := ne_of_none e nd2
            rw [upd_ne nbd]
            exact (same_upd nT) _ _ (s2 _ _ e)
          · rw [put_new nin, List.take_add_one, eMi, upd_same]
            rfl
      · rintro G2 ⟨s2, hd⟩
        have hdM : G2 d = some (memO M) := by
          rw [hd, List.take_of_length_le]
          rw [List.length_map, lenM]
          exact Nat.le_refl _
        have hr2 : G2 r = some (.ins C dx []) := s2 _ _ (sq _ _ (sm _ _ hr0))
        have ndr : d ≠ r := ne_of hdM hr2 (by intro z; cases z)
        refine ⟨_, rfl, r, C, dx, [], rfl, hr2, T.cl, T.nM, (by show 0 < 1000; decide), ?_⟩
        refine k _ M ⟨ascM, memM⟩ ⟨dx, d, upd_same, ?_, ascM, by omega⟩ fun b o hb e => ?_
        · rw [upd_ne ndr]
          exact hdM
        · rw [upd_ne hb]
          exact s2 _ _ (sq _ _ (sm _ _ e))
end
end Pm
namespace Pm
open PySem PySem.Spec PyProof.Rows L2 ClX
/-- what the text says further of the class -/
structure RCTxt (K : PySem.W.Frag) (mg : Str → Option Value) (C : Addr) : Prop where
  t : RTxt K mg C
  isi : mg "isinstance" = none
  ca : PySem.W.findIn K (.ref C) "__class__" = some (some (.builtin "object.__class__"))
  cn : PySem.W.specialIn K (.builtin "object.__class__") "__get__" = some (some (.builtin "getset_descriptor.__get__"))
  ct : PySem.W.takesIn K (.builtin "object.__class__") = some true
  cm : PySem.W.mroIn K C (.type "object") = some true
  kk : PySem.W.kitOne K (.ref C) (.ref C) = some true
theorem RCTxt.ty {K : PySem.W.Frag} {mg : Str → Option Value} {C : Addr} (T : RCTxt K mg C) {H : Hp} {r : Addr} {M : List Cell} (h : RegAt C H r M) : TyX K H (.ref r) (.ref C) := by
  obtain ⟨dx, d, hr, _⟩ := h
  exact .base (.ins hr T.t.cl T.ca T.cn T.ct T.cm)
theorem RegAt.same {C : Addr} {H H' : Hp} {r : Addr} {M : List Cell} (h : RegAt C H r M) (s : Same H H') : RegAt C H' r M := by
  obtain ⟨dx, d, hr, hd, x⟩ := h
  exact ⟨dx, d, s _ _ hr, s _ _ hd, x⟩
theorem keys_cl {H : Hp} : ∀ {M : List Cell} {bs : List Addr}, IsKeys H (M.map fun c => (keyC c, V.bl true)) bs → ∃ ks : CL, refs ks = bs.map V.ref ∧ cellsOf ks = M ∧ Tups H ks
  | [], [], _ => ⟨[], rfl, rfl, fun p hp => nomatch hp⟩
  | c :: M, b :: bs, h => by
    cases h with
    | cons h1 h2 =>
      obtain ⟨ks, e1, e2, t⟩ := keys_cl (M := M) (bs := bs) h2
      refine ⟨(b, c) :: ks, ?_, ?_, fun p hp => ?_⟩
      · show V.ref b :: refs ks = V.ref b :: bs.map V.ref
        rw [e1]
      · show c :: cellsOf ks = c :: M
        rw [e2]
      · rcases List.mem_cons.mp hp with z | z
        · rw [z]
          exact h1
        · exact t p z
section
variable {P : Program} {w : World} {K : PySem.W.Frag} {mg : Str → Option Value} {base : Heap}
/-! ### cells() -/
def spRCs (C : Addr) : Sp := fun vs H Q _ => ∃ r M, vs = [.ref r] ∧ RegAt C H r M ∧ ∀ p ks H', Same H H' → H p = none → H' p = some (.lst (refs ks)) → Tups H' ks → cellsOf ks = M → Q (.ref p) H'
theorem scRCs : FnScope ["self"] ["self"] (defScope cRegionCells) := ⟨rfl, rfl, rfl, by decide +kernel, rfl, by decide +kernel, by decide +kernel⟩
theorem ok_rcells {f C : Addr} {fd : FuncData} (F : Fun K "cells" "Region.cells" cRegionCells f fd) (T : RCTxt K mg C) : FnOk P w K mg base CX0 1 f fd ["self"] (spRCs C) := by
  refine F.ok scRCs (fun vs H Q E h => ?_) (fun cdv A outer s H vs Q E hr h => ?_)
  · obtain ⟨r, M, rfl, _⟩ := h
    rfl
  · obtain ⟨r, M, rfl, ⟨dx, d, hr0, hd, asc, few⟩, k⟩ := h
    refine ⟨_, pss_one (ps_ret (pe_callTy (call_list_dT rfl) (by rfl) T.t.lst (by decide +kernel) (pa_cons (pe_fld (pv 0) rfl) pa_nil))), ?_⟩
    refine ⟨_, rfl, r, C, dx, _, _, rfl, hr0, T.t.cl, T.t.nM, rfl, d, _, rfl, .inl hd, fun p bs np hk => ?_⟩
    obtain ⟨ks, e1, e2, t⟩ := keys_cl hk
    have sp := same_upd (o := .lst (bs.map V.ref)) np
    exact k p ks _ sp np (by rw [upd_same, e1]) (t.same sp) e2
end
def dC (c : Cell) : PyData := .tuple [.int c.1, .int c.2]
theorem dC_eqv (c d : Cell) : PyData.eqv (dC c) (dC d) = decide (c = d) := by
  obtain ⟨x, y⟩ := c
  obtain ⟨u, v⟩ := d
  simp [dC, PyData.eqv, PyData.eqvAll]
  rfl
theorem dC_shaped (c : Cell) : SeqAt.shaped (dC c) = true := by
  simp [dC, SeqAt.shaped, PyData.canLay0, PyData.canLayAll0, PyData.depth, PyData.depthAll]
theorem dCs_lay : ∀ M : List Cell, PyData.canLayAll0 (M.map dC) = true
  | [] => rfl
  | c :: M => by simp [PyData.canLayAll0, dC, PyData.canLay0, dCs_lay M]
theorem dCs_depth : ∀ M : List Cell, PyData.depthAll (M.map dC) ≤ 1
  | [] => by simp [PyData.depthAll]
  | c :: M => by
    have := dCs_depth M
    simp [PyData.depthAll, dC, PyData.depth]
    omega
theorem dCs_shaped (M : List Cell) : SeqAt.shaped (.list (M.map dC)) = true := by
  have := dCs_depth M
  simp [SeqAt.shaped, PyData.canLay0, dCs_lay M, PyData.depth]
  omega
theorem dCs_eqv : ∀ M N : List Cell, PyData.eqv (.list (M.map dC)) (.list (N.map dC)) = decide (M = N) := by
  have all : ∀ M N : List Cell, PyData.eqvAll (M.map dC) (N.map dC) = decide (M = N) := by
    intro M
    induction M with
    | nil =>
      intro N
      cases N <;> simp [PyData.eqvAll]
    | cons c M ih =>
      intro N
      cases N with
      | nil => simp [PyData.eqvAll]
      | cons d N =>
        rw [List.map_cons, List.map_cons]
        show (PyData.eqv (dC c) (dC d) && PyData.eqvAll (M.map dC) (N.map dC)) = _
        rw [dC_eqv, ih]
        simp
  intro M N
  simp [PyData.eqv, all]
theorem dp_cell {K : PySem.W.Frag} {H : Hp} {t : Addr} {c : Cell} (h : H t = some (CellO c)) : Dp K H (.ref t) (dC c) := .tup (SqT.of h) (.cons (.int _) (.cons (.int _) .nil))
theorem dp_cells {K : PySem.W.Frag} {H : Hp} : ∀ {ks : CL}, Tups H ks → DpAll K H (refs ks) ((cellsOf ks).map dC)
  | [], _ => .nil
  | p :: ks, t => .cons (dp_cell (t p List.mem_cons_self)) (dp_cells fun q hq => t q (List.mem_cons_of_mem _ hq))
theorem dp_cl {K : PySem.W.Frag} {H : Hp} {a : Addr} {ks : CL} (h : SqL K H a (refs ks)) (t : Tups H ks) : Dp K H (.ref a) (.list ((cellsOf ks).map dC)) := .lst h (dp_cells t)
structure BTxt (K : PySem.W.Frag) (mg : Str → Option Value) : Prop where
  isi : mg "isinstance" = none
  bool : mg "bool" = none
  tup : mg "tuple" = none
  int : mg "int" = none
  lst : mg "list" = none
  len : mg "len" = none
section
variable {P : Program} {w : World} {K : PySem.W.Frag} {mg : Str → Option Value} {base : Heap}
def spIsInt : Sp := fun vs H Q _ => ∃ n, vs = [.int n] ∧ Q (.bl true) H
theorem scIsInt : FnScope ["_law_value"] ["_law_value"] (defScope lIsInt) := ⟨rfl, rfl, rfl, by decide +kernel, rfl, by decide +kernel, by decide +kernel⟩
theorem ok_isint {f : Addr} {fd : FuncData} (F : Fun K "_law_is_int" "_law_is_int" lIsInt f fd) (T : BTxt K mg) : FnOk P w K mg base CX0 1 f fd ["_law_value"] spIsInt := by
  refine F.ok scIsInt (fun vs H Q E h => ?_) (fun cdv A outer s H vs Q E hr h => ?_)
  · obtain ⟨n, rfl, _⟩ := h
    rfl
  · obtain ⟨n, rfl, q⟩ := h
    refine ⟨_, pss_one (ps_ret (pe_and (pe_callB call_isi (by rfl) T.isi (by decide +kernel) (pa_cons (pv 0) (pa_cons (pe_bltn (v := .ty "int") (by rfl) T.int (by decide +kernel) rfl) pa_nil)))
      (pe_one (pe_not (pe_callB call_isi (by rfl) T.isi (by decide +kernel) (pa_cons (pv 0) (pa_cons (pe_bltn (v := .ty "bool") (by rfl) T.bool (by decide +kernel) rfl) pa_nil))))))), ?_⟩
    refine ⟨_, rfl, .int n, .ty "int", .type "int", .type "int", true, rfl, .ty _, .base (.int n), kit_ty (by decide +kernel), true, rfl, ?_⟩
    exact ⟨_, rfl, .int n, .ty "bool", .type "int", .type "bool", false, rfl, .ty _, .base (.int n), kit_ty (by decide +kernel), false, rfl, q⟩
def spIsCell : Sp := fun vs H Q _ => ∃ t c, vs = [.ref t] ∧ H t = some (CellO c) ∧ Q (.bl true) H
theorem scIsCell : FnScope ["_law_value"] ["_law_value"] (defScope lIsCell) := ⟨rfl, rfl, rfl, by decide +kernel, rfl, by decide +kernel, by decide +kernel⟩
theorem ok_iscell {f g : Addr} {fd gd : FuncData} (F : Fun K "_law_is_cell" "_law_is_cell" lIsCell f fd) (G : Fun K "_law_is_int" "_law_is_int" lIsInt g gd) (bG : Binds K gd ["_law_value"] []) (gG : mg "_law_is_int" = some (.ref g)) (T : BTxt K mg) :
    FnOk P w K mg base CX0 2 f fd ["_law_value"] spIsCell := by
  have OG : FnOk P w K mg base CX0 1 g gd ["_law_value"] spIsInt := ok_isint G T
  refine F.ok scIsCell (fun vs H Q E h => ?_) (fun cdv A outer s H vs Q E hr h => ?_)
  · obtain ⟨t, c, rfl, _⟩ := h
    rfl
  · obtain ⟨t, c, rfl, ht, q⟩ := h
    refine ⟨_, pss_one (ps_ret (pe_and (pe_callB call_isi (by rfl) T.isi (by decide +kernel) (pa_cons (pv 0) (pa_cons (pe_bltn (v := .ty "tuple") (by rfl) T.tup (by decide +kernel) rfl) pa_nil)))
      (pe_and (pe_cmpR op_eq (pe_callB call_len_seq (by rfl) T.len PySem.boot_len (pa_cons (pv 0) pa_nil)) pe_int (nomark _))
      (pe_and (pe_call OG hr (by rfl) gG G.kp bG .nil pass0 (pa_cons (pe_ix ix_tup (pv 0) pe_int (fun _ _ => rfl)) pa_nil))
      (pe_one (pe_call OG hr (by rfl) gG G.kp bG .nil pass0 (pa_cons (pe_ix ix_tup (pv 0) pe_int (fun _ _ => rfl)) pa_nil))))))), ?_⟩
    refine ⟨_, rfl, .ref t, .ty "tuple", .type "tuple", .type "tuple", true, rfl, .ty _, .base (.tup ht), kit_ty (by decide +kernel), true, rfl, ?_⟩
    refine ⟨_, rfl, t, _, rfl, .inr (SqT.of ht), rfl, true, rfl, ?_⟩
    refine ⟨_, rfl, t, _, 0, _, rfl, rfl, SqT.of ht, rfl, _, rfl, true, rfl, ?_⟩
    exact ⟨_, rfl, t, _, 1, _, rfl, rfl, SqT.of ht, rfl, _, rfl, q⟩
def spIsCells : Sp := fun vs H Q _ => ∃ a ks, vs = [.ref a] ∧ H a = some (.lst (refs ks)) ∧ Tups H ks ∧ Q (.bl true) H
theorem scIsCells : FnScope ["_law_value", "_law_cell"] ["_law_value"] (defScope lIsCells) := ⟨rfl, rfl, rfl, by decide +kernel, rfl, by decide +kernel, by decide +kernel⟩
theorem ok_iscells {f g : Addr} {fd gd : FuncData} (F : Fun K "_law_is_cells" "_law_is_cells" lIsCells f fd) (G : Fun K "_law_is_cell" "_law_is_cell" lIsCell g gd) (OG : FnOk P w K mg base CX0 2 g gd ["_law_value"] spIsCell) (bG : Binds K gd ["_law_value"] [])
    (gG : mg "_law_is_cell" = some (.ref g)) (T : BTxt K mg) : FnOk P w K mg base CX0 3 f fd ["_law_value"] spIsCells := by
  refine F.ok scIsCells (fun vs H Q E h => ?_) (fun cdv A outer s H vs Q E hr h => ?_)
  · obtain ⟨a, ks, rfl, _⟩ := h
    rfl
  · obtain ⟨a, ks, rfl, ha, ht, q⟩ := h
    refine ⟨_, pss_cons (ps_if (pt_not (pt_val (pe_callB call_isi (by rfl) T.isi (by decide +kernel) (pa_cons (pv 0) (pa_cons (pe_bltn (v := .ty "list") (by rfl) T.lst (by decide +kernel) rfl) pa_nil))))) (pss_one (ps_ret pe_bl)) pss_nil)
      (pss_cons (ps_for PassesOwn.never rfl (pi_list (pv 0)) (pg_name (i := 1) scIsCells.nd rfl (.inl rfl))
        (pss_one (ps_if (pt_not (pt_val (pe_call OG hr (by rfl) gG G.kp bG .nil pass0 (pa_cons (pv 1) pa_nil)))) (pss_one (ps_ret pe_bl)) pss_nil)))
      (pss_one (ps_ret pe_bl))), ?_⟩
    refine ⟨_, rfl, .ref a, .ty "list", .type "list", .type "list", true, rfl, .ty _, .base (.lst ha), kit_ty (by decide +kernel), true, rfl, iteF ?_⟩
    refine ⟨_, rfl, a, rfl, ⟨_, SqL.of ha⟩, for_list (K := K) (a := a) (xs := refs ks) (fun i σ G => ∃ y, σ = [some (.ref a), y] ∧ G = H) ⟨_, rfl, rfl⟩ (fun i σ G _ ⟨_, _, e⟩ => by rw [e]; exact SqL.of ha) ?_ ?_⟩
    · rintro i x σ G hx ⟨y, rfl, rfl⟩
      obtain ⟨t, c, hi, rfl⟩ := refs_at hx
      exact ⟨_, rfl, t, c, rfl, ht _ (List.mem_of_getElem? hi), true, rfl, iteF ⟨_, rfl, rfl⟩⟩
    · rintro σ G ⟨y, rfl, rfl⟩
      exact q
/-! ### a region is as due -/
def spRegIs (K : PySem.W.Frag) (C : Addr) : Sp := fun vs H Q _ => ∃ r a M ks, vs = [.ref r, .ref a] ∧ RegAt C H r M ∧ SqL K H a (refs ks) ∧ Tups H ks ∧ cellsOf ks = M ∧ ∀ H', Same H H' → Q (.bl true) H'
theorem scRegIs : FnScope ["_law_region", "_law_due_here", "_law_told"] ["_law_region", "_law_due_here"] (defScope lRegionIs) := ⟨rfl, rfl, rfl, by decide +kernel, rfl, by decide +kernel, by decide +kernel⟩
theorem ok_regis {f g c C : Addr} {fd gd cd : FuncData} (F : Fun K "_law_region_is" "_law_region_is" lRegionIs f fd) (OG : FnOk P w K mg base CX0 3 g gd ["_law_value"] spIsCells) (kG : PySem.W.keepIn K (.ref g) = true) (bG : Binds K gd ["_law_value"] [])
    (gG : mg "_law_is_cells" = some (.ref g)) (OC : FnOk P w K mg base CX0 1 c cd ["self"] (spRCs C)) (mC : Meth K C "cells" c) (bC : Binds K cd ["self"] []) (T : RCTxt K mg C) : FnOk P w K mg base CX0 4 f fd ["_law_region", "_law_due_here"] (spRegIs K C) := by
  refine F.ok scRegIs (fun vs H Q E h => ?_) (fun cdv A outer s H vs Q E hr h => ?_)
  · obtain ⟨r, a, M, ks, rfl, _⟩ := h
    rfl
  · obtain ⟨r, a, M, ks, rfl, hM, ha, ht, eM, k⟩ := h
    have hr1 : Room 1 _ := hr.mono (by decide)
    refine ⟨_, pss_cons (ps_if (pt_not (pt_val (pe_callB call_isi (by rfl) T.isi (by decide +kernel) (pa_cons (pv 0) (pa_cons (pe_glob (v := .ref C) (by rfl) T.t.mgC rfl) pa_nil))))) (pss_one (ps_ret pe_bl)) pss_nil)
      (pss_cons (ps_set (i := 2) scRegIs.nd rfl (.inl rfl) (pe_meth0 (pv 0) T.t.cl mC OC hr1 bC .nil pass0))
      (pss_one (ps_ret (pe_and (pe_call OG hr (by rfl) gG kG bG .nil pass0 (pa_cons (pv 2) pa_nil)) (pe_one (pe_cmpR (op_eqD hr.units) (pv 2) (pv 1) (nomark _))))))), ?_⟩
    refine ⟨_, rfl, .ref r, .ref C, .ref C, .ref C, true, rfl, .own C, T.ty hM, T.kk, true, rfl, iteF ?_⟩
    obtain ⟨dx, d, hr0, _⟩ := id hM
    refine ⟨_, rfl, r, dx, _, rfl, hr0, rfl, r, M, rfl, hM, fun p ms H1 s1 np hp hms em => ?_⟩
    refine ⟨_, rfl, p, ms, rfl, hp, hms, true, rfl, ?_⟩
    refine ⟨_, rfl, _, rfl, _, _, dp_cl (SqL.of hp) hms, dp_cl (s1.seq ha) (ht.same s1), dCs_shaped _, dCs_shaped _, ?_⟩
    rw [em, eM, dCs_eqv, decide_eq_true rfl]
    exact k H1 s1
end
end Pm
namespace Pm
open PySem PySem.Spec PyProof.Rows L2 SX
/-! ### o[i], o of a class with an own __getitem__ -/
section
variable {X : Cx} {C f : Addr} {fd : FuncData} {k : Nat} {ps : List Str} {sp : Sp} {a b : Expr} {ta tb : TE} {pos : Pos}
def rItem (C : Addr) (sp : Sp) : R2 := fun x y H Q => ∃ r dx fs, x = .ref r ∧ H r = some (.ins C dx fs) ∧ sp [x, y] H Q E0
theorem pe_item (F : FnOk X.prog X.w X.K X.mg X.base CX0 k f fd ps sp) (hr : Room (k + 1) X.A) (hb : Binds X.K fd ps []) (m : OwnM X.K C "__getitem__" f) (fi : PySem.W.fnIn X.K f = true) (pa : PE X a ta) (pb : PE X b tb)
    (hs : ∀ o i, subscripted b true o i = runValue (.builtin "lifetime.subscript" ⟨[o, i], []⟩) := by intro _ _; rfl) : PE X (.Subscript a b pos) (tOp (rItem C sp) ta tb) := by
  refine ⟨fun pins s σ H Q I h => ?_⟩
  refine Subscript_ (binT pa pb I h fun v u s2 x y H2 I2 rx ry q => ?_)
  obtain ⟨r, dx, fs, rfl, hr0, q⟩ := q
  obtain rfl : v = Value.ref r := rx
  obtain ⟨mA, J, _⟩ := ins_get I2.hok hr0
  obtain ⟨od, J, _⟩ := J.look
  obtain ⟨mm, hF⟩ := I2.fr
  exact PySem.W.sub_K hF I2.ok.mod.kin J m.at_ fi m.fn (run_at (vs := [.ref r, y]) F hr.in1 rfl hb pass0 I2 (.cons rfl (.cons ry .nil)) q) (hs _ _)
end
/-! ### all cells of a grid -/
def rowC (n j : Nat) : List Cell := (List.range n).map fun (i : Nat) => (((i : Nat) : Int), (j : Int))
def allC (n : Nat) : Nat → List Cell
  | 0 => []
  | j + 1 => allC n j ++ rowC n j
theorem rowC_succ (n j : Nat) : rowC (n + 1) j = rowC n j ++ [((n : Int), (j : Int))] := by
  unfold rowC
  rw [List.range_succ, List.map_append]
  rfl
theorem rowC_len (n j : Nat) : (rowC n j).length = n := by
  unfold rowC
  rw [List.length_map, List.length_range]
theorem allC_len (n : Nat) : ∀ m, (allC n m).length = m * n
  | 0 => by simp [allC]
  | m + 1 => by
    show (allC n m ++ rowC n m).length = _
    rw [List.length_append, allC_len n m, rowC_len, Nat.add_mul]
    omega
theorem rowC_mem {n j : Nat} {c : Cell} : c ∈ rowC n j ↔ ∃ i : Nat, i < n ∧ c = ((i : Int), (j : Int)) := by
  unfold rowC
  rw [List.mem_map]
  constructor
  · rintro ⟨i, hi, rfl⟩
    exact ⟨i, List.mem_range.mp hi, rfl⟩
  · rintro ⟨i, hi, rfl⟩
    exact ⟨i, List.mem_range.mpr hi, rfl⟩
theorem allC_mem {n : Nat} {c : Cell} : ∀ {m : Nat}, c ∈ allC n m ↔ ∃ i j : Nat, i < n ∧ j < m ∧ c = ((i : Int), (j : Int))
  | 0 => ⟨fun h => (nomatch h), fun ⟨_, _, _, h, _⟩ => absurd h (Nat.not_lt_zero _)⟩
  | m + 1 => by
    show c ∈ allC n m ++ rowC n m ↔ _
    rw [List.mem_append, allC_mem, rowC_mem]
    constructor
    · rintro (⟨i, j, a, b, e⟩ | ⟨i, a, e⟩)
      · exact ⟨i, j, a, Nat.lt_succ_of_lt b, e⟩
      · exact ⟨i, m, a, Nat.lt_succ_self _, e⟩
    · rintro ⟨i, j, a, b, e⟩
      rcases Nat.lt_or_ge j m with c | c
      · exact .inl ⟨i, j, a, c, e⟩
      · exact .inr ⟨i, a, by rw [e, show j = m by omega]⟩
theorem rowC_asc (j : Nat) : ∀ n, (rowC n j).Pairwise bef
  | 0 => (.nil : ([] : List Cell).Pairwise bef)
  | n + 1 => by
    rw [rowC_succ]
    refine List.pairwise_append.mpr ⟨rowC_asc j n, List.pairwise_singleton _ _, fun a ha b hb => ?_⟩
    obtain ⟨i, hi, rfl⟩ := rowC_mem.mp ha
    rw [List.mem_singleton.mp hb]
    exact .inr ⟨rfl, by show (i : Int) < n; omega⟩
theorem allC_asc (n : Nat) : ∀ m, (allC n m).Pairwise bef
  | 0 => (.nil : ([] : List Cell).Pairwise bef)
  | m + 1 => by
    show (allC n m ++ rowC n m).Pairwise bef
    refine List.pairwise_append.mpr ⟨allC_asc n m, rowC_asc m n, fun a ha b hb => ?_⟩
    obtain ⟨i, j, _, hj, rfl⟩ := allC_mem.mp ha
    obtain ⟨i2, _, rfl⟩ := rowC_mem.mp hb
    exact .inl (by show (j : Int) < m; omega)
section
variable {P : Program} {w : World} {K : PySem.W.Frag} {mg : Str → Option Value} {base : Heap} {C CI CO CG : Addr}
def spEvery (C : Addr) : Sp := fun vs H Q _ => ∃ r R n, vs = [.ref r] ∧ PicAt C H r R ∧ Grid R n ∧ ∀ p ks H', Same H H' → H p = none → H' p = some (.lst (refs ks)) → Tups H' ks → cellsOf ks = allC n R.length → Q (.ref p) H'
abbrev nEvery : List Str := ["self", "y", "x"]
theorem scEvery : FnScope nEvery ["self"] (defScope cPictureEveryCell) := ⟨rfl, rfl, rfl, by decide +kernel, rfl, by decide +kernel, by decide +kernel⟩
theorem ok_every {f : Addr} {fd : FuncData} (F : Fun K "every_cell" "Picture.every_cell" cPictureEveryCell f fd) (L : LTxt K mg) (T : PCls K C) : FnOk P w K mg base CX0 1 f fd ["self"] (spEvery C) := by
  refine F.ok scEvery (fun vs H Q E h => ?_) (fun cdv A outer s H vs Q E hr h => ?_)
  · obtain ⟨r, R, n, rfl, _⟩ := h
    rfl
  · obtain ⟨r, R, n, rfl, ⟨dx, l, h1, h2⟩, g, k⟩ := h
    refine ⟨_, pss_one (ps_ret (pe_lc2 (own := [("y", 1), ("x", 2)]) (vs1 := [2]) (g := gName 1) (g1 := gName 2) (tt := tYes) (tt1 := tYes) (wi1 := iRng1 (tCons (tFld K (tVar 0) "width") tNil)) rfl scEvery.nd (pi_range1 (by rfl) L.rng (pa_cons (pe_fld (pv 0) rfl) pa_nil)) (blkOk_by (own := [("y", 1), ("x", 2)]) (N := nEvery) (sc := defScope cPictureEveryCell) (by decide +kernel)) (by decide)
      (fun _ _ _ _ _ => pg_name (i := 1) scEvery.nd rfl (.inl rfl)) (fun _ _ _ _ _ => pts_nil) (fun _ _ _ _ _ => pi_range1 (by rfl) L.rng (pa_cons (pe_fld (pv 0) rfl) pa_nil)) (fun _ _ _ _ _ => pg_name (i := 2) scEvery.nd rfl (.inl rfl)) (fun _ _ _ _ _ => pts_nil) (fun _ _ _ _ _ => pe_tup (pa_cons (pv 2) (pa_cons (pv 1) pa_nil))))), ?_⟩
    have w8 := g.w8
    have h8 := g.h8
    have ew := g.wide
    refine ⟨_, rfl, r, C, dx, _, _, rfl, h1, T.cl, T.nH, rfl, (R.length : Int), rfl, by omega, by omega, fun D nD => ?_⟩
    let Pv : Nat → Nat → Hp → Prop := fun j i G => Same H G ∧ ∃ ks, G D = some (.lst (refs ks)) ∧ Tups G ks ∧ cellsOf ks = allC n j ++ rowC i j
    refine ⟨fun j m G => m = R.length - j ∧ j ≤ R.length ∧ Pv j 0 G, ⟨R.length, by simp, Nat.zero_le _, same_upd nD, [], upd_same, (fun p hp => nomatch hp), rfl⟩, ?_⟩
    rintro j m G ⟨rfl, hj, p⟩
    by_cases lt : j < R.length
    · refine .inr ⟨by show j < ((R.length : Int)).toNat; omega, Pv (j + 1) 0, fun G' p' => ⟨R.length - (j + 1), by omega, rfl, lt, p'⟩, fun x G' y => ?_⟩
      obtain ⟨rfl, rfl⟩ := y
      refine ⟨rfl, tyes (iteT ?_)⟩
      have pj := p
      obtain ⟨sG, _⟩ := pj
      refine ⟨_, rfl, r, C, dx, _, _, rfl, sG _ _ h1, T.cl, T.nW, rfl, wideOf R, rfl, by omega, by omega, ?_⟩
      refine ⟨fun i m G => m = n - i ∧ i ≤ n ∧ Pv j i G, ⟨n, by simp, Nat.zero_le _, p⟩, ?_⟩
      rintro i m G ⟨rfl, hi, p⟩
      by_cases lti : i < n
      · refine .inr ⟨by show i < (wideOf R).toNat; omega, Pv j (i + 1), fun G' p' => ⟨n - (i + 1), by omega, rfl, lti, p'⟩, fun x G' y => ?_⟩
        obtain ⟨rfl, rfl⟩ := y
        obtain ⟨sG, ks, hD, hk, ek⟩ := p
        refine ⟨rfl, tyes (iteT ⟨_, rfl, _, rfl, small_line (by show 2 ≤ 1000; decide), fun t nt => ?_⟩)⟩
        have st := same_upd (o := CellO ((i : Int), (j : Int))) nt
        have lk : ks.length = j * n + i := by
          have z := congrArg List.length ek
          rw [List.length_append, allC_len, rowC_len] at z
          unfold cellsOf at z
          rw [List.length_map] at z
          exact z
        have few : ks.length < 1000 := by
          have : j * n ≤ 8 * 8 := Nat.mul_le_mul (by omega) w8
          omega
        have nDt : t ≠ D := fun e => by
          rw [e, hD] at nt
          cases nt
        refine ⟨refs ks, ?_, ?_, ?_, ks ++ [(t, ((i : Int), (j : Int)))], ?_, ?_, ?_⟩
        · have z := st _ _ hD
          rw [show (0 : Int) + (i : Int) = (i : Int) by omega, show (0 : Int) + (j : Int) = (j : Int) by omega]
          exact z
        · unfold refs
          rw [List.length_map]
          exact Nat.lt_of_le_of_lt (Nat.le_of_lt few) (small1000 (Nat.le_refl _))
        · exact fun b o e => by
            have nbD : b ≠ D := fun z => by rw [z, nD] at e; cases e
            rw [upd_ne nbD, show (0 : Int) + (i : Int) = (i : Int) by omega, show (0 : Int) + (j : Int) = (j : Int) by omega]
            exact st _ _ (sG _ _ e)
        · rw [upd_same]
          unfold refs
          rw [List.map_append]
          rfl
        · intro q hq
          have nq : q.1 ≠ D := fun z => by
            rcases List.mem_append.mp hq with y | y
            · have := hk q y
              rw [z, hD] at this
              cases this
            · rw [List.mem_singleton.mp y] at z
              exact nDt z
          rw [upd_ne nq, show (0 : Int) + (i : Int) = (i : Int) by omega, show (0 : Int) + (j : Int) = (j : Int) by omega]
          rcases List.mem_append.mp hq with y | y
          · exact st _ _ (hk q y)
          · rw [List.mem_singleton.mp y]
            exact upd_same
        · unfold cellsOf at ek ⊢
          rw [List.map_append, ek, rowC_succ, List.append_assoc]
          rfl
      · have e : i = n := by omega
        subst e
        refine .inl ⟨by show (wideOf R).toNat ≤ i; omega, ?_⟩
        obtain ⟨sG, ks, hD, hk, ek⟩ := p
        exact ⟨sG, ks, hD, hk, by rw [ek]; exact (List.append_nil _).symm⟩
    · have e : j = R.length := by omega
      subst e
      refine .inl ⟨by show ((R.length : Int)).toNat ≤ R.length; omega, ?_⟩
      obtain ⟨sG, ks, hD, hk, ek⟩ := p
      exact k D ks G sG nD hD hk (by rw [ek]; exact List.append_nil _)
/-! ### picture[x, y] -/
def spItem (C : Addr) : Sp := fun vs H Q _ => ∃ r R n t x y, vs = [.ref r, .ref t] ∧ PicAt C H r R ∧ Grid R n ∧ H t = some (CellO (x, y)) ∧ Q (.str (S (signAt R x y))) H
abbrev nItem : List Str := ["self", "at", "x", "y"]
theorem scItem : FnScope nItem ["self", "at"] (defScope cPictureGetitem) := ⟨rfl, rfl, rfl, by decide +kernel, rfl, by decide +kernel, by decide +kernel⟩
theorem ok_item {f fC : Addr} {fd dC' : FuncData} {ue : Value} (F : Fun K "__getitem__" "Picture.__getitem__" cPictureGetitem f fd) (T : PCls K C) (OC : FnOk P w K mg base CX0 1 fC dC' ["self", "x", "y"] (spContains C)) (mC : Meth K C "contains" fC) (bC : Binds K dC' ["self", "x", "y"] [])
    (cE : Con K C "EDGE" (.str "#") ue) : FnOk P w K mg base CX0 2 f fd ["self", "at"] (spItem C) := by
  refine F.ok scItem (fun vs H Q E h => ?_) (fun cdv A outer s H vs Q E hr h => ?_)
  · obtain ⟨r, R, n, t, x, y, rfl, _⟩ := h
    rfl
  · obtain ⟨r, R, n, t, x, y, rfl, hp, g, ht, k⟩ := h
    refine ⟨_, pss_cons (ps_asg (pv 1) (pg_tup rfl (pgs_cons (pg_name (i := 2) scItem.nd rfl (.inl rfl)) (pgs_cons (pg_name (i := 3) scItem.nd rfl (.inl rfl)) pgs_nil))))
      (pss_cons (ps_if (pt_not (pt_val (pe_meth (pv 0) T.cl mC OC hr bC .nil pass0 (pa_cons (pv 2) (pa_cons (pv 3) pa_nil))))) (pss_one (ps_ret (pe_con (pv 0) rfl))) pss_nil)
      (pss_one (ps_ret (pe_ix ix_str (pe_ix ix_list (pe_fld (pv 0) rfl) (pv 3) (fun _ _ => rfl)) (pv 2) (fun _ _ => rfl))))), ?_⟩
    have hp0 := hp
    obtain ⟨dx, l, h1, h2⟩ := hp
    refine ⟨_, rfl, t, [.int x, .int y], rfl, SqT.of ht, rfl, _, _, rfl, _, _, rfl, rfl, ?_⟩
    refine ⟨_, rfl, r, dx, _, rfl, h1, rfl, _, rfl, _, rfl, r, R, x, y, rfl, hp0, _, rfl, ?_⟩
    by_cases io : inB R x y = true
    · refine iteFe (by rw [io]; rfl) ?_
      obtain ⟨i, j, rfl, rfl, hi, hj⟩ := g.inside io
      obtain ⟨e1, m1, l1⟩ := g.at hj
      have w8 := g.w8
      have ge : (rowAt R j)[i]? = some ((rowAt R j).getD i 0) := by
        rw [List.getD_eq_getElem?_getD, List.getElem?_eq_getElem (by omega)]
        rfl
      unfold signAt at k
      rw [if_pos io] at k
      exact ⟨_, rfl, r, C, dx, _, _, rfl, h1, T.cl, T.nR, rfl, _, rfl, l, _, (j : Int), _, rfl, rfl, SqL.of h2, atI_nat (rowsV_get g hj), _, rfl, _, _, _, rfl, rfl, by rw [len_S, l1]; exact small_line (by omega), atI_nat ge, k⟩
    · unfold signAt at k
      rw [if_neg io] at k
      have io : inB R x y = false := by simpa using io
      refine iteTe (by rw [io]; rfl) ⟨_, rfl, r, C, dx, _, _, _, rfl, h1, T.cl, cE, rfl, ?_⟩
      rw [show ("#" : Str) = S [35] by decide +kernel]
      exact k
/-! ### first - second -/
def differ (R R2 : Rows) : List Cell := (allC (wideOf R).toNat R.length).filter fun c => decide (signAt R c.1 c.2 ≠ signAt R2 c.1 c.2)
end
end Pm
namespace Pm
open PySem PySem.Spec PyProof.Rows L2 SX
/-! ### != where the class has an own == and no own != -/
theorem on_plain : plainId "object.__ne__" = true := by decide +kernel
theorem on_bind (self : Value) : bindSpecial (.builtin "object.__ne__") self = pure (.builtin "object.__ne__", [self]) := rfl
section
variable {prog : Program} {w : World} {A : Around} {E : Value → Shared → Prop} {s : Shared} {K : PySem.W.Frag} {x C f : Addr} {ox : Obj} {od : Option Obj} {b tb : Value}
theorem ne_own {Q : Value → Shared → Prop} (hu : A.units + 1 < cLine) (X : K.In s.heap) (I : PySem.W.InstAt s.heap x ox C od) (hb : PySem.W.Looks (model prog w) s.heap (typeOf b) tb) (hn : PySem.W.notFirst K C tb = true)
    (sub : PySem.W.subIn K (.ref C) (.type "object") = some true) (ne : PySem.W.findIn K (.ref C) "__ne__" = some (some (.builtin "object.__ne__"))) (hs : PySem.W.findIn K (.ref C) "__eq__" = some (some (.ref f))) (hf : PySem.W.isFn K (.ref f) = true)
    (h : wpAny (model prog w) A.in1 (call (.ref f) [.ref x, b]) (fun v s' => ∃ c, v = .bool c ∧ Q (.bool (!c)) s') E s) : wpAny (model prog w) A (richCompare .NotEq (.ref x) b) Q E s := by
  have inst : PySem.W.Looks (model prog w) s.heap (isInstance (.ref x) (.type "object")) true := I.type.andThen (PySem.W.looks_subIn X sub)
  have body : wpAny (model prog w) A.in1 (Builtin.«object.__ne__» ⟨[.ref x, b], []⟩) (fun fin s' => ∃ v, fin = .done (.ret v) ∧ ∃ c, v = .bool c ∧ Q v s') E s := by
    unfold Builtin.«object.__ne__»
    refine wpAny_bind (m := slotArgs "__ne__" 1 _) (wpAny_pure ?_)
    refine wpAny_bind (wpAny_cRoomFor hu ?_)
    refine wpAny_bind (PySem.W.ifBound_K X I hs hf (wpAny_mono h (fun v s' hv => ?_) fun _ _ e => e))
    obtain ⟨c, rfl, q⟩ := hv
    refine wpAny_bind (wpAny_truthy_bool ?_)
    exact wpAny_pure ⟨_, rfl, _, rfl, q⟩
  have one : wpAny (model prog w) A (tryCompare (.ref x) "__ne__" b) (fun r s' => ∃ v, r = some v ∧ Q v s') E s := by
    unfold tryCompare
    simp only [callSpecialIfBound?, bindSpecialIfBound?]
    have fin : wpAny (model prog w) A (call (.builtin "object.__ne__") ([.ref x] ++ [b])) (fun v s' => ∃ c, v = .bool c ∧ Q v s') E s := by
      refine wpAny_call (codeAny_call_builtin on_plain F.cmpEntry_ne (PySem.W.check_slot F.cmpKind_ne F.cmpSplit_ne inst (F.cmpArgs_ne _ _) (wpAny_mono body (fun fin s' z => ?_) fun _ _ e => e)))
      obtain ⟨v, rfl, c, rfl, q⟩ := z
      exact ⟨c, rfl, q⟩
    refine wpAny_bind (wpAny_holding (wpAny_bind (wpAny_bind (wpAny_bind (I.type.here ((PySem.W.looks_findIn X ne).here ?_))))))
    refine wpAny_bind (wpAny_askSetting (wpAny_ite ?_))
    have go : wpAny (model prog w) A (call (.builtin "object.__ne__") ([.ref x] ++ [b]) >>= fun v => pure (some v)) (fun r s' => wpAny (model prog w) A (match r with
      | some .notImplemented | none => pure none
      | some v => pure (some v)) (fun r s' => ∃ v, r = some v ∧ Q v s') E s') E s := by
      refine wpAny_bind (wpAny_mono fin (fun v s' z => ?_) fun _ _ e => e)
      obtain ⟨c, rfl, q⟩ := z
      exact wpAny_pure (wpAny_pure ⟨_, rfl, q⟩)
    split
    · rw [on_bind]
      exact wpAny_bind (wpAny_pure (wpAny_pure go))
    · rw [on_bind]
      exact wpAny_tryCatch (wpAny_bind (wpAny_pure (wpAny_pure go)))
  unfold richCompare
  simp only [oneThing_ref]
  refine wpAny_holding (wpAny_bind (wpAny_cRoomFor (by omega) ?_))
  refine wpAny_bind (I.type.here (wpAny_bind (hb.here ?_)))
  have fin : wpAny (model prog w) A (tryCompare (.ref x) (cmpInfo .NotEq).2.1 b) (fun r s' => ∃ v, r = some v ∧ Q v s') E s := one
  split
  · rename_i q
    have e : PySem.W.subIn K tb (.ref C) = some false := by
      rcases Bool.or_eq_true_iff.mp hn with e | e
      · rw [beq_iff_eq.mp e] at q
        simp at q
      · exact beq_iff_eq.mp e
    refine wpAny_bind ((PySem.W.looks_subIn X e).here ?_)
    simp only [if_false, Bool.false_eq_true]
    refine wpAny_bind (wpAny_mono fin (fun r s' z => ?_) fun _ _ e => e)
    obtain ⟨v, rfl, hq⟩ := z
    exact wpAny_pure hq
  · refine wpAny_bind (wpAny_pure ?_)
    simp only [if_false, Bool.false_eq_true]
    refine wpAny_bind (wpAny_mono fin (fun r s' z => ?_) fun _ _ e => e)
    obtain ⟨v, rfl, hq⟩ := z
    exact wpAny_pure hq
end
structure OwnN (K : PySem.W.Frag) (C : Addr) : Prop where
  sub : PySem.W.subIn K (.ref C) (.type "object") = some true
  ne : PySem.W.findIn K (.ref C) "__ne__" = some (some (.builtin "object.__ne__"))
end Pm
namespace Pm
open PySem PySem.Spec PyProof.Rows L2 SX NdefX
/-! ### a method call with keywords -/
def tMethN (C : Addr) (m : Str) (n nk : Nat) (sp : Sp) (gV : List V → List V → List V) (E : L2.St → XK) (ta : TE) (t tk : TA) : TE := fun σ H Q => ta σ H fun x H1 => ∃ a dx fs, x = .ref a ∧ H1 a = some (.ins C dx fs) ∧ fs.lookup m = none ∧
  t σ H1 fun vs H2 => tk σ H2 fun zs H3 => vs.length + 1 = n ∧ zs.length = nk ∧ sp (gV (x :: vs) zs) H3 Q (E σ)
section
variable {X : Cx} {CXf : CXT} {k n : Nat} {C f : Addr} {fd : FuncData} {ps ks : List Str} {sp : Sp} {E : L2.St → XK} {x m : Str} {p pos apos : Pos} {e o : Expr} {es : List Expr} {kws : List Keyword} {ta : TE} {t tk : TA} {g : List Value → List Value → List Value} {gV : List V → List V → List V}
theorem run_fnNS {pins : List (Addr × Obj)} {σ : L2.St} {H : Hp} {s : Shared} {Q : VK} {us ws : List Value} {vs zs : List V} (F : FnOk X.prog X.w X.K X.mg X.base CXf k f fd ps sp) (hr : Room k X.A) (hb : KBn X.K fd ps n ks g gV) (hx : PassesAt CXf X σ (E σ))
    (I : L2.Inv X pins σ H s) (r : Vals vs us) (rz : Vals zs ws) (l1 : vs.length = n) (l2 : zs.length = ks.length) (h : sp (gV vs zs) H Q (E σ)) : wpAny (model X.prog X.w) X.A (call (.ref f) us (ks.zip ws)) (EP X pins σ Q) X.xe s := by
  have r2 := hb.rel r rz
  refine wpAny_call (codeAny_mono (F.run X.A X.stack s H ⟨us, ks.zip ws⟩ (g us ws) (gV vs zs) Q (E σ) hr I.env0 (hb.to s us ws I.kIn (r.length.symm.trans l1) (rz.length.symm.trans l2)) r2 h) fun r s' hq => ?_)
  cases r with
  | error e => exact hx pins H s e s' I hq
  | ok fl =>
    cases fl with
    | ret u => exact I.after hq
    | next => exact False.elim hq
    | brk => exact False.elim hq
    | cont => exact False.elim hq
/-- o.m(e, .., k = v, ..) -/
theorem pe_methN {pl : Sem Bool} (he : PE X o ta) (c : L2.Cls X.K C) (hm : Meth X.K C m f) (F : FnOk X.prog X.w X.K X.mg X.base CXf k f fd ps sp) (hr : Room k X.A) (hb : KBn X.K fd ps n ks g gV) (hx : ∀ σ, PassesAt CXf X σ (E σ)) (ha : PA X (e :: es) t) (hkw : PK X kws tk)
    (hall : (backToKw pos (keywordEach kws X.env)).all (·.1.isSome) = true := by rfl) (hks : (backToKw pos (keywordEach kws X.env)).filterMap (·.1) = ks := by rfl)
    (hst : starEach (e :: es) X.env = (false, eval e X.env) :: starEach es X.env := by rfl)
    (hpl : ((backTo pos (starEach (e :: es) X.env)).any (·.1) || (backToKw pos (keywordEach kws X.env)).any (·.1.isNone)) = false := by rfl)
    (ht : eval (.Call (.Attribute o m apos) (e :: es) kws pos) X.env = (do
      let ov ← eval o X.env
      standAt apos.atName
      let (f, first) ← holding [ov] (getMethod ov m pl)
      callWith pos f first (backTo pos (starEach (e :: es) X.env)) (backToKw pos (keywordEach kws X.env))) := by rfl) :
    PE X (.Call (.Attribute o m apos) (e :: es) kws pos) (tMethN C m n ks.length sp gV E ta t tk) := by
  refine ⟨fun pins s σ H Q I h => ?_⟩
  refine PySem.W.methodCall_KW (pl := pl) (thn (he.run pins s σ H _ I h) fun u s1 ⟨x, H1, I1, rx, a, dx, fs, ex, ea, l, q⟩ => ?_) ht
  subst ex
  obtain rfl : u = Value.ref a := rx
  refine getmeth_ok I1 ea c hm l ?_
  refine PySem.W.callWith_KW (first := [.ref a]) (h₀ := X.base) I.ok.mod.kin hm.kp hall (thn (ha.run pos pins s1 σ H1 _ I1 q) fun us s2 ⟨vs, H2, I2, r, q2⟩ => ?_) hpl hst
  refine thn (hkw.run pos pins s2 σ H2 _ I2 q2) fun ws s3 ⟨zs, H3, I3, rz, l1, l2, q3⟩ => ⟨I3.kIn, ?_⟩
  rw [hks]
  exact run_fnNS (us := .ref a :: us) (vs := .ref a :: vs) F hr hb (hx σ) I3 (.cons rfl r) rz l1 l2 q3
end
end Pm
namespace Pm
open PySem PySem.Spec PyProof.Rows L2 SX NdefX
/-! ### cell in region -/
section
variable {P : Program} {w : World} {K : PySem.W.Frag} {mg : Str → Option Value} {base : Heap} {X : Cx} {k : Nat} {f C : Addr} {fd : FuncData}
def spIn (C : Addr) : Sp := fun vs H Q _ => ∃ r t c M, vs = [.ref r, .ref t] ∧ RegAt C H r M ∧ H t = some (CellO c) ∧ Q (.bl (decide (c ∈ M))) H
theorem scIn : FnScope ["self", "cell"] ["self", "cell"] (defScope cRegionContains) := ⟨rfl, rfl, rfl, by decide +kernel, rfl, by decide +kernel, by decide +kernel⟩
theorem ok_in {f C : Addr} {fd : FuncData} (F : Fun K "__contains__" "Region.__contains__" cRegionContains f fd) (T : RTxt K mg C) : FnOk P w K mg base CX0 1 f fd ["self", "cell"] (spIn C) := by
  refine F.ok scIn (fun vs H Q E h => ?_) (fun cdv A outer s H vs Q E hr h => ?_)
  · obtain ⟨r, t, c, M, rfl, _⟩ := h
    rfl
  · obtain ⟨r, t, c, M, rfl, ⟨dx, d, hr0, hd, asc, few⟩, ht, q⟩ := h
    refine ⟨_, pss_one (ps_ret (pe_cmp (pc_din (hu_of hr) (pv 1) (pe_fld (pv 0) rfl)) rfl)), ?_⟩
    refine ⟨_, rfl, _, rfl, r, C, dx, _, _, rfl, hr0, T.cl, T.nM, rfl, d, _, rfl, .inr ⟨_, keyC c, t, .inl hd, rfl, ht, rfl⟩, ?_⟩
    rw [val_mem]
    exact q
def rMemR (C : Addr) : R2 := fun x y H Q => ∃ t c r M, x = .ref t ∧ y = .ref r ∧ H t = some (CellO c) ∧ RegAt C H r M ∧ Q (.bl (decide (c ∈ M))) H
theorem op_inR (O : FnOk X.prog X.w X.K X.mg X.base CX0 k f fd ["self", "cell"] (spIn C)) (hr : Room k X.A) (b : Binds X.K fd ["self", "cell"] []) (m : OwnM X.K C "__contains__" f) : OpR X (compareOp .In) (rMemR C) := by
  intro pins s σ H x y v u Q I rx ry h
  obtain ⟨t, c, r0, M, rfl, rfl, ht, hM, q⟩ := h
  obtain rfl : v = Value.ref t := rx
  obtain rfl : u = Value.ref r0 := ry
  have hM0 := hM
  obtain ⟨dx, d, hr0, _⟩ := hM
  obtain ⟨mA, J, _⟩ := ins_get I.hok hr0
  obtain ⟨od, J, _⟩ := J.look
  obtain ⟨mm, hF⟩ := I.fr
  refine PySem.W.in_K hF I.ok.mod.kin J m.at_ m.fn ?_
  refine wpAny_mono (run_at (Q := fun v H' => v = .bl (decide (c ∈ M)) ∧ H' = H) (E := E0) (vs := [.ref r0, .ref t]) O hr rfl b pass0 I (.cons rfl (.cons rfl .nil)) ⟨r0, t, c, M, rfl, hM0, ht, rfl, rfl⟩) (fun v s' z => ?_) fun _ _ z => z
  obtain ⟨v', H', I', rv, rfl, rfl⟩ := z
  cases rv
  exact wpAny_truthy_bool ⟨.bl _, _, I', rfl, q⟩
end
end Pm
namespace Pm
open PySem PySem.Spec PyProof.Rows L2 SX NdefX
/-! ### wishes, piece by piece -/
theorem tAndW {t u : TT} {σ : L2.St} {G : Hp} {Q : Bool → Hp → Prop} {b c : Bool} (ht : ∀ Q' : Bool → Hp → Prop, Q' b G → t σ G Q') (hu : ∀ Q' : Bool → Hp → Prop, Q' c G → u σ G Q') (h : Q (b && c) G) : tAnd t u σ G Q := by
  refine ht _ ?_
  cases b
  · exact iteF h
  · exact iteT (hu _ h)
theorem tOrW {t u : TT} {σ : L2.St} {G : Hp} {Q : Bool → Hp → Prop} {b c : Bool} (ht : ∀ Q' : Bool → Hp → Prop, Q' b G → t σ G Q') (hu : ∀ Q' : Bool → Hp → Prop, Q' c G → u σ G Q') (h : Q (b || c) G) : tOr t u σ G Q := by
  refine ht _ ?_
  cases b
  · exact iteF (hu _ h)
  · exact iteT h
theorem seqIfN {c : TT} {a r : TS} {D : Ends} {σ : L2.St} {G : Hp} {b : Bool} (hc : ∀ Q' : Bool → Hp → Prop, Q' b G → c σ G Q') (hT : b = true → a { D with nx := r D } σ G) (hF : b = false → r D σ G) : tSeq (tIfS c a tNext) r D σ G := by
  refine hc _ ?_
  cases b
  · exact iteF (hF rfl)
  · exact iteT (hT rfl)
theorem joinW {tA tR : TS} {D : Ends} {σ : L2.St} {H : Hp} (I : L2.St → Hp → Prop) (hA : ∀ nx : L2.St → Hp → Prop, (∀ σ' H', I σ' H' → nx σ' H') → tA { D with nx := nx } σ H) (hR : ∀ σ' H', I σ' H' → tR D σ' H') : tSeq tA tR D σ H := hA _ hR
theorem ifN {c : TT} {a : TS} {D : Ends} {σ : L2.St} {G : Hp} {b : Bool} (hc : ∀ Q' : Bool → Hp → Prop, Q' b G → c σ G Q') (hT : b = true → a D σ G) (hF : b = false → D.nx σ G) : tIfS c a tNext D σ G := by
  refine hc _ ?_
  cases b
  · exact iteF (hF rfl)
  · exact iteT (hT rfl)
theorem setG {i : Nat} {x : V} {σ : L2.St} {H : Hp} {Q : L2.St → Hp → Prop} (h : Q (σ.set i (some x)) H) : gName i x σ H Q := h
theorem tNotW {t : TT} {σ : L2.St} {G : Hp} {Q : Bool → Hp → Prop} {b : Bool} (ht : ∀ Q' : Bool → Hp → Prop, Q' b G → t σ G Q') (h : Q (!b) G) : tNot t σ G Q := ht _ h
/-! ### a clash at a place -/
def sgn (R : Rows) (c : Cell) : Nat := if inB R c.1 c.2 = true then (rowAt R c.2.toNat).getD c.1.toNat 0 else 35
theorem sign_sgn (R : Rows) (c : Cell) : signAt R c.1 c.2 = [sgn R c] := by
  unfold signAt sgn
  split <;> rfl
def clashB (R : Rows) (M : List Cell) (z : List Nat) (c : Cell) : Bool := decide (sgn R c ≠ 46) && (!(decide (sgn R c ≠ 35) && decide (c ∈ M)) && !decide (sgn R c ∈ z))
def LooseAt (CR : Addr) (H : Hp) (lo : V) (M : List Cell) : Prop := (lo = .non ∧ M = []) ∨ ∃ r, lo = .ref r ∧ RegAt CR H r M
theorem LooseAt.same {CR : Addr} {H H' : Hp} {lo : V} {M : List Cell} (h : LooseAt CR H lo M) (s : Same H H') : LooseAt CR H' lo M := by
  rcases h with h | ⟨r, e, h⟩
  · exact .inl h
  · exact .inr ⟨r, e, h.same s⟩
section
variable {P : Program} {w : World} {K : PySem.W.Frag} {mg : Str → Option Value} {base : Heap} {C CP CI CO CW CG D : Addr} {κ : Nat}
theorem scEOutOfPicture : FnScope ["self", "x", "y"] ["self", "x", "y"] (defScope cOutOfPictureInit) := ⟨rfl, rfl, rfl, by decide +kernel, rfl, by decide +kernel, by decide +kernel⟩
theorem okEOutOfPicture {f C : Addr} {fd : FuncData} (F : Fun K "__init__" "OutOfPicture.__init__" cOutOfPictureInit f fd) (T : OexC K C) (nx : PySem.W.findIn K (.ref C) "x" = some none) (ny : PySem.W.findIn K (.ref C) "y" = some none) : FnOk P w K mg base CX0 1 f fd ["self", "x", "y"] (spE2 C) := by
  refine F.ok scEOutOfPicture (fun vs H Q E h => ?_) (fun cdv A outer s H vs Q E hr h => ?_)
  · obtain ⟨a, v, u, rfl, _⟩ := h
    rfl
  · obtain ⟨a, v, u, rfl, ha, k⟩ := h
    refine ⟨_, pss_cons (ps_ost (pv 0) (pv 1)) (pss_one (ps_ost (pv 0) (pv 2))), ?_⟩
    refine ⟨_, rfl, _, rfl, a, C, rfl, T, nx, .inl ⟨ha, fun dx nd ne => ?_⟩⟩
    refine ⟨_, rfl, _, rfl, a, C, rfl, T, ny, .inr ⟨dx, [("x", v)], upd_same, by rw [upd_ne ne, upd_same], by show 1 ≤ 900; decide, ?_⟩⟩
    refine k _ dx ?_ upd_same nd ne fun b o nb e => ?_
    · rw [upd_ne ne.symm]
      exact upd_same
    · rw [upd_ne (ne_of_none e nd), upd_ne nb, upd_ne (ne_of_none e nd)]
      exact e
def spClashAt (CP CG : Addr) : Sp := fun vs H Q _ => ∃ pic R n t c z lo M, vs = [.ref pic, .ref t, .str (S z), lo] ∧ PicAt CP H pic R ∧ Grid R n ∧ H t = some (CellO c) ∧ LooseAt CG H lo M ∧ z.length ≤ 1000 ∧ Q (.bl (clashB R M z c)) H
abbrev nClashAt : List Str := ["picture", "position", "signs", "loose", "sign"]
theorem scClashAt : FnScope nClashAt ["picture", "position", "signs", "loose"] (defScope gClashesAt) := ⟨rfl, rfl, rfl, by decide +kernel, rfl, by decide +kernel, by decide +kernel⟩
theorem ok_clashat {f fG fI : Addr} {fd dG dI : FuncData} (F : Fun K "_clashes_at" "_clashes_at" gClashesAt f fd) (T : PTxt K mg CP)
    (OG : FnOk P w K mg base CX0 2 fG dG ["self", "at"] (spItem CP)) (mG : OwnM K CP "__getitem__" fG) (fi : PySem.W.fnIn K fG = true) (bG : Binds K dG ["self", "at"] [])
    (OI : FnOk P w K mg base CX0 1 fI dI ["self", "cell"] (spIn CG)) (mI : OwnM K CG "__contains__" fI) (bI : Binds K dI ["self", "cell"] []) : FnOk P w K mg base CX0 4 f fd ["picture", "position", "signs", "loose"] (spClashAt CP CG) := by
  refine F.ok scClashAt (fun vs H Q E h => ?_) (fun cdv A outer s H vs Q E hr h => ?_)
  · obtain ⟨pic, R, n, t, c, z, lo, M, rfl, _⟩ := h
    rfl
  · obtain ⟨pic, R, n, t, c, z, lo, M, rfl, hp, g, ht, hl, lz, k⟩ := h
    have hr1 : Room 1 _ := hr.mono (by decide)
    have hr3 : Room 3 _ := hr
    obtain ⟨mc, cr, ⟨uH, hH⟩, ⟨uE, hE⟩⟩ := T.cr
    refine ⟨_, (pss_cons (ps_set (i := 4) scClashAt.nd rfl (.inl rfl) (pe_item OG hr3 bG mG fi (pv 0) (pv 1)))
      (pss_cons (ps_if (pt_cmpR op_eq (pv 4) (ClX.pe_cval (pe_glob (v := .ref CP) (by rfl) T.gC rfl)) (nomark _)) (pss_one (ps_ret pe_bl)) pss_nil)
      (pss_cons (ps_if (PW.pt (pw_and (pt_cmpR op_notN (pv 3) pe_non (nomark _)) (pw_and (pt_cmpR op_ne (pv 4) (ClX.pe_cval (pe_glob (v := .ref CP) (by rfl) T.gC rfl)) (nomark _)) (pw_and1 (pt_cmpR (op_inR OI hr1 bI mI) (pv 1) (pv 3) (by rfl)))))) (pss_one (ps_ret pe_bl)) pss_nil)
      (pss_one (ps_ret (pe_cmpR op_notIn_sign (pv 4) (pv 2) (by rfl))))))), ?_⟩
    have hp0 := hp
    obtain ⟨dx, l, h1, h2⟩ := hp
    refine ⟨_, rfl, _, rfl, pic, dx, _, rfl, h1, pic, R, n, t, c.1, c.2, rfl, hp0, g, ht, ?_⟩
    rw [sign_sgn]
    refine setG ?_
    dsimp only
    have e1 : ∀ d : Nat, decide (V.str (S [sgn R c]) = V.str (S [d])) = decide (sgn R c = d) := fun d => by
      refine decide_eq_decide.mpr ⟨fun h => ?_, fun h => by rw [h]⟩
      have := congrArg unS (V.str.inj h)
      rw [unS_S, unS_S] at this
      exact (List.cons.inj this).1
    have d46 : ("." : Str) = S [46] := dot_S
    have d35 : ("#" : Str) = S [35] := by decide +kernel
    refine seqIfN (fun _ q => ⟨_, rfl, CP, mc, _, uH, rfl, cr, hH, rfl, _, rfl, q⟩) (fun e => ?_) (fun e => ?_)
    · rw [d46, e1] at e
      have : clashB R M z c = false := by
        unfold clashB
        rw [decide_eq_false (by simpa using e)]
        rfl
      rw [this] at k
      exact k
    rw [d46, e1] at e
    have n46 : sgn R c ≠ 46 := by simpa using e
    have fin : ∀ b : Bool, b = (decide (sgn R c ≠ 35) && decide (c ∈ M)) → (b = true → Q (.bl false) H) ∧ (b = false → Q (.bl (!decide (sgn R c ∈ z))) H) := by
      intro b eb
      have e3 : clashB R M z c = (!b && !decide (sgn R c ∈ z)) := by
        unfold clashB
        rw [decide_eq_true n46, eb]
        rfl
      rw [e3] at k
      refine ⟨fun h => ?_, fun h => ?_⟩ <;> rw [h] at k <;> exact k
    rcases hl with ⟨rfl, rfl⟩ | ⟨r, rfl, hM⟩
    · refine seqIfN (b := false) (fun _ q => ⟨_, rfl, rfl, _, rfl, iteF q⟩) (fun e => nomatch e) (fun _ => ?_)
      exact ⟨_, rfl, _, rfl, _, S z, rfl, rfl, by rw [show (S z).cps.toList = z from unS_S z]; exact (fin false (by simp)).2 rfl⟩
    · refine seqIfN (b := decide (sgn R c ≠ 35) && decide (c ∈ M)) (fun _ q => ⟨_, rfl, rfl, _, rfl, iteT ?_⟩) (fun e => (fin _ rfl).1 e) (fun e => ⟨_, rfl, _, rfl, _, S z, rfl, rfl, by rw [show (S z).cps.toList = z from unS_S z]; exact (fin _ rfl).2 e⟩)
      refine tAndW (b := decide (sgn R c ≠ 35)) (c := decide (c ∈ M)) (fun _ q1 => ⟨_, rfl, CP, mc, _, uE, rfl, cr, hE, rfl, _, rfl, ?_⟩) (fun _ q1 => ⟨_, rfl, _, rfl, t, c, r, M, rfl, rfl, ht, hM, _, rfl, q1⟩) q
      rw [d35, e1]
      simpa using q1
end
end Pm
namespace Pm
open PySem PySem.Spec PyProof.Rows L2 SX
section
variable {P : Program} {w : World} {K : PySem.W.Frag} {mg : Str → Option Value} {base : Heap} {CP CO : Addr}
/-! ### check_cell -/
def spCkCell (CP CO : Addr) : Sp := fun vs H Q E => ∃ r R x y, vs = [.ref r, .int x, .int y] ∧ PicAt CP H r R ∧ (inB R x y = false → Lets E CO [("y", .int y), ("x", .int x)] H) ∧ (inB R x y = true → Q .non H)
theorem scCkCell : FnScope ["picture", "x", "y"] ["picture", "x", "y"] (defScope gCheckCell) := ⟨rfl, rfl, rfl, by decide +kernel, rfl, by decide +kernel, by decide +kernel⟩
theorem ok_cell {f fN e : Addr} {fd dN ed : FuncData} (F : Fun K "check_cell" "check_cell" gCheckCell f fd) (TP : PCls K CP)
    (ON : FnOk P w K mg base CX0 1 fN dN ["self", "x", "y"] (spContains CP)) (mN : Meth K CP "contains" fN) (bN : Binds K dN ["self", "x", "y"] [])
    (xo : EMk P w K mg base CO "OutOfPicture" ["self", "x", "y"] (spE2 CO) e ed) : FnOk P w K mg base (L2.CX P w) 3 f fd ["picture", "x", "y"] (spCkCell CP CO) := by
  refine F.okX scCkCell (fun vs H Q E h => ?_) (fun cdv A outer s H vs Q E hr h => ?_)
  · obtain ⟨r, R, x, y, rfl, _⟩ := h
    rfl
  · obtain ⟨r, R, x, y, rfl, hp, kO, k⟩ := h
    have hr1 : Room 1 _ := hr.mono (by decide)
    have hr2 : Room 2 _ := hr
    refine ⟨_, (pss_one (ps_if (pt_not (pt_val (pe_meth (pv 0) TP.cl mN ON hr1 bN .nil pass0 (pa_cons (pv 1) (pa_cons (pv 2) pa_nil))))) (pss_one (ps_raise rfl (takes_of rfl rfl rfl rfl) (pmk_oex xo.T xo.at_ xo.ty xo.ok hr2 xo.bd .nil pass0 (by rfl) xo.gl (pa_cons (pv 1) (pa_cons (pv 2) pa_nil))))) pss_nil)), ?_⟩
    have hp0 := hp
    obtain ⟨px, pl, hq1, hq2⟩ := hp
    refine ⟨_, rfl, r, px, _, rfl, hq1, rfl, _, rfl, _, rfl, r, R, x, y, rfl, hp0, _, rfl, ?_⟩
    cases io : inB R x y with
    | false =>
      refine iteT ⟨_, rfl, _, rfl, by show 2 ≤ 1000; decide, fun a na => ⟨a, _, _, rfl, upd_same, fun H2 d h1 h2 nd ne sb => ⟨rfl, d, _, h1, h2, ?_, ?_⟩⟩⟩
      · rwa [upd_ne ne] at nd
      · exact kO io d _ (by rwa [upd_ne ne] at nd) upd_same (on_way na nd ne sb)
    | true => exact iteF (k io)
end
end Pm
namespace Pm
open PySem PySem.Spec PyProof.Rows L2 SX NdefX
/-- places with their signs, each pair in the heap -/
abbrev LK := Addr × (Addr × (Cell × List Nat))
def LooksAt (G : Hp) (ls : List LK) : Prop := ∀ q ∈ ls, G q.1 = some (.tup [.ref q.2.1, .str (S q.2.2.2)]) ∧ G q.2.1 = some (CellO q.2.2.1)
def refK (ls : List LK) : List V := ls.map fun q => V.ref q.1
theorem refK_at {ls : List LK} {i : Nat} {x : V} (h : (refK ls)[i]? = some x) : ∃ q, ls[i]? = some q ∧ x = .ref q.1 := by
  unfold refK at h
  rw [List.getElem?_map] at h
  cases e : ls[i]? with
  | none => rw [e] at h; cases h
  | some q =>
    rw [e] at h
    exact ⟨q, rfl, (Option.some.inj h).symm⟩
def lookC (x y : Int) (c : Cnd) : Cell × List Nat := ((x + c.1.1, y + c.1.2), c.2)
def clashL (R : Rows) (M : List Cell) (x y : Int) (cs : List Cnd) : List Cell := ((cs.map (lookC x y)).filter fun q => clashB R M q.2 q.1).map (·.1)
theorem condsOf_len {κ : Nat} {z : List Nat} {ms : List Cnd} : (condsOf κ z ms).length = ms.length := by
  unfold condsOf
  by_cases k2 : κ = 2
  · rw [if_pos k2, List.length_map]
  · rw [if_neg k2]
theorem lookMore {cs : List (Addr × Cnd)} {G G1 G3 : Hp} {D T' Q1 t : Addr} {x y : Int} {c : Cnd} {i : Nat} {ls : List LK} (lc : cs.length ≤ 1000) (nD : G1 D = none) (sm : Same G1 G) (hD : G D = some (.lst (refK ls))) (hls : LooksAt G ls) (en : ls.map (fun q => q.2.2) = (cs.take i).map fun q => lookC x y q.2)
    (hi : cs[i]? = some (t, c)) (z12 : Same G G3) (y1 : G3 Q1 = some (CellO (x + c.1.1, y + c.1.2))) (y2 : G3 T' = some (.tup [.ref Q1, .str (S c.2)])) :
    ∃ xs, G3 D = some (.lst xs) ∧ xs.length < sizeLine ∧ ∃ ls : List LK, Same G1 (upd G3 D (.lst (xs ++ [.ref T']))) ∧ upd G3 D (.lst (xs ++ [.ref T'])) D = some (.lst (refK ls)) ∧ LooksAt (upd G3 D (.lst (xs ++ [.ref T']))) ls ∧ ls.map (fun q => q.2.2) = (cs.take (i + 1)).map fun q => lookC x y q.2 := by
  have li : i < cs.length := (List.getElem?_eq_some_iff.mp hi).1
  have hD3 := z12 _ _ hD
  have ne : ∀ {a : Addr} {ys : List V}, G3 a = some (.tup ys) → a ≠ D := fun h e => by rw [e, hD3] at h; cases h
  refine ⟨refK ls, hD3, ?_, ls ++ [(T', (Q1, lookC x y c))], fun b o e => ?_, ?_, fun p hp => ?_, ?_⟩
  · have := congrArg List.length en
    rw [List.length_map, List.length_map, List.length_take] at this
    rw [show (refK ls).length = ls.length from List.length_map _]
    exact small1000 (by omega)
  · rw [upd_ne (ne_of_none e nD)]
    exact z12 _ _ (sm _ _ e)
  · rw [upd_same]
    unfold refK
    rw [List.map_append]
    rfl
  · rcases List.mem_append.mp hp with m | m
    · obtain ⟨a1, a2⟩ := hls p m
      have b1 := z12 _ _ a1
      have b2 := z12 _ _ a2
      exact ⟨by rw [upd_ne (ne b1)]; exact b1, by rw [upd_ne (ne b2)]; exact b2⟩
    · rw [List.mem_singleton.mp m]
      exact ⟨by rw [upd_ne (ne y2)]; exact y2, by rw [upd_ne (ne y1)]; exact y1⟩
  · rw [List.map_append, en, List.take_add_one, hi, List.map_append]
    rfl
theorem conds_len {κ : Nat} {z : List Nat} {ms : List Cnd} (lz : z.length ≤ 1000) (each : ∀ c ∈ ms, c.2.length ≤ 1000) : ∀ c ∈ condsOf κ z ms, c.2.length ≤ 1000 := by
  intro c m
  unfold condsOf at m
  by_cases k2 : κ = 2
  · rw [if_pos k2] at m
    obtain ⟨d, _, rfl⟩ := List.mem_map.mp m
    exact lz
  · rw [if_neg k2] at m
    exact each c m
section
variable {P : Program} {w : World} {K : PySem.W.Frag} {mg : Str → Option Value} {base : Heap} {C CP CI CO CW CG D : Addr} {κ : Nat}
def spClashes (C CP CG CO CW : Addr) (κ : Nat) : Sp := fun vs H Q E => ∃ r pic x y z lo R n M st need ms, vs = [.ref r, .ref pic, .int x, .int y, .str (S z), lo] ∧ RuleAt C H r κ st need ms ∧ PicAt CP H pic R ∧ Grid R n ∧ LooseAt CG H lo M ∧ z.length ≤ 1000 ∧ ms.length ≤ 1000 ∧ (∀ c ∈ ms, c.2.length ≤ 1000) ∧
  (inB R x y = false → Lets E CO [("y", .int y), ("x", .int x)] H) ∧ (inB R x y = true → laysB κ st z = false → Lets E CW [("stone", .str (S z))] H) ∧
  (inB R x y = true → laysB κ st z = true → ∀ p ks H', Same H H' → H p = none → H' p = some (.lst (refs ks)) → Tups H' ks → cellsOf ks = clashL R M x y (condsOf κ z ms) → Q (.ref p) H')
abbrev nClashes : List Str := ["self", "picture", "x", "y", "stone", "loose", "looks", "dx", "dy", "signs", "place"]
theorem scClashes : FnScope nClashes ["self", "picture", "x", "y", "stone", "loose"] (defScope cRuleClashes) := ⟨rfl, rfl, rfl, by decide +kernel, rfl, by decide +kernel, by decide +kernel⟩
theorem ok_clashes {f fC fN fA : Addr} {fd dC dN dA : FuncData} (F : FunD K "clashes" "Rule.clashes" (defArgs cRuleClashes) (defBody cRuleClashes) (defScope cRuleClashes) [] [("loose", .non)] f fd) (TP : PCls K CP) (T : RCls K C)
    (cK : Cl P w K mg base (L2.CX P w) 3 "check_cell" ["picture", "x", "y"] (spCkCell CP CO) fN dN)
    (mC : Meth K C "conditions" fC) (OC : FnOk P w K mg base (L2.CX P w) 3 fC dC ["self", "stone"] (spCond C CW κ)) (bC : Binds K dC ["self", "stone"] []) (cA : Cl P w K mg base CX0 4 "_clashes_at" ["picture", "position", "signs", "loose"] (spClashAt CP CG) fA dA) :
    FnOk P w K mg base (L2.CX P w) 5 f fd ["self", "picture", "x", "y", "stone", "loose"] (spClashes C CP CG CO CW κ) := by
  refine F.ok (CX := L2.CX P w) scClashes (fun vs H Q E h => ?_) (fun cdv A outer s H vs Q E hr h => ?_)
  · obtain ⟨r, pic, x, y, z, lo, R, n, M, st, need, ms, rfl, _⟩ := h
    rfl
  · obtain ⟨r, pic, x, y, z, lo, R, n, M, st, need, ms, rfl, hR, hp, g, hl, lz, few, each, kO, kW, k⟩ := h
    have hr1 : Room 1 _ := hr.mono (by decide)
    have hr2 : Room 2 _ := hr.mono (by decide)
    have hr3 : Room 3 _ := hr.mono (by decide)
    have hr4 : Room 4 _ := hr
    refine ⟨_, (pss_cons (ps_expr (pe_callS (E := fun _ => E) cK.ok hr3 (by rfl) cK.gl cK.kp cK.bd (fun σ pins H s e s' I c => passes_call (takes_of rfl rfl rfl rfl) (fun _ _ _ _ z => z) pins σ H s e s' I c) (pa_cons (pv 1) (pa_cons (pv 2) (pa_cons (pv 3) pa_nil)))))
      (pss_cons (ps_setLc (i := 6) (own := [("dx", 7), ("dy", 8), ("signs", 9)]) (g := (gTup K 3 (gCons (gName 7) (gCons (gName 8) (gCons (gName 9) gNil))))) (tt := tYes) (te := (tTup (tCons (tTup (tCons (tOp (rI0 fun i j => .int (i + j)) (tVar 2) (tVar 7)) (tCons (tOp (rI0 fun i j => .int (i + j)) (tVar 3) (tVar 8)) tNil))) (tCons (tVar 9) tNil)))) rfl scClashes.nd rfl rfl (sw_true rfl rfl rfl (by decide +kernel)) (pi_list (pe_methE (E := fun _ => E) (pv 0) T.cl mC OC hr3 bC (fun σ pins H s e s' I c => passes_call (takes_of rfl rfl rfl rfl) (fun _ _ _ _ z => z) pins σ H s e s' I c) (pa_cons (pv 4) pa_nil))) (blkOk_by (own := [("dx", 7), ("dy", 8), ("signs", 9)]) (N := nClashes) (sc := defScope cRuleClashes) (by decide +kernel)) (fun _ _ _ _ _ => (pg_tup rfl (pgs_cons (pg_name (i := 7) scClashes.nd rfl (.inl rfl)) (pgs_cons (pg_name (i := 8) scClashes.nd rfl (.inl rfl)) (pgs_cons (pg_name (i := 9) scClashes.nd rfl (.inl rfl)) pgs_nil))))) (fun _ _ _ _ _ => pts_nil) (fun _ _ _ _ _ => (pe_tup (pa_cons (by exact pe_tup (pa_cons (by exact pe_op op_add (pv 2) (pv 7)) (pa_cons (by exact pe_op op_add (pv 3) (pv 8)) pa_nil))) (pa_cons (pv 9) pa_nil)))))
      (pss_one (ps_ret (pe_lc (own := [("place", 10), ("signs", 9)]) (g := (gTup K 2 (gCons (gName 10) (gCons (gName 9) gNil)))) (tt := (tB (tCall (spClashAt CP CG) [] E0 (tCons (tVar 1) (tCons (tVar 10) (tCons (tVar 9) (tCons (tVar 5) tNil))))))) (te := (tVar 10)) rfl scClashes.nd (pi_list (pv 6)) (blkOk_by (own := [("place", 10), ("signs", 9)]) (N := nClashes) (sc := defScope cRuleClashes) (by decide +kernel)) (fun _ _ _ _ _ => (pg_tup rfl (pgs_cons (pg_name (i := 10) scClashes.nd rfl (.inl rfl)) (pgs_cons (pg_name (i := 9) scClashes.nd rfl (.inl rfl)) pgs_nil)))) (fun _ _ _ _ _ => (pts_one (pt_val (by exact pe_call cA.ok hr4 (by rfl) cA.gl cA.kp cA.bd .nil pass0 (by exact pa_cons (pv 1) (pa_cons (pv 10) (pa_cons (pv 9) (pa_cons (pv 5) pa_nil)))))))) (fun _ _ _ _ _ => (pv 10))))))), ?_⟩
    have hR0 := hR
    obtain ⟨dx, fs, l, ks2, hr0, h1, h2, h3, h4, hc, ek⟩ := hR
    have hp0 := hp
    obtain ⟨px, pl, hq1, hq2⟩ := hp
    refine ⟨_, rfl, _, rfl, _, rfl, pic, R, x, y, rfl, hp0, kO, fun io => ?_⟩
    refine ⟨_, rfl, r, dx, fs, rfl, hr0, h4 _ (by decide), _, rfl, r, st, need, ms, z, rfl, hR0, lz, few, fun e => kW io e, fun hy q cs G1 s1 nq hcs ec => ?_⟩
    refine ⟨q, rfl, ⟨_, SqL.of hcs.lst⟩, fun D nD => lc_list (K := K) (a := q) (xs := refC cs) (fun i G => ∃ ls : List LK, Same G1 G ∧ G D = some (.lst (refK ls)) ∧ LooksAt G ls ∧ ls.map (fun q => q.2.2) = (cs.take i).map fun q => lookC x y q.2) ⟨[], same_upd nD, upd_same, (fun p hp => nomatch hp), rfl⟩ (fun i G _ ⟨ls, sm, _⟩ => SqL.of (sm _ _ hcs.lst)) ?_ ?_⟩
    · rintro i v G hx ⟨ls, sm, hD, hls, en⟩
      obtain ⟨t, c, hi, rfl⟩ := refC_at hx
      have htc := sm _ _ (hcs.each _ (List.mem_of_getElem? hi))
      have li : i < cs.length := (List.getElem?_eq_some_iff.mp hi).1
      refine ⟨t, _, rfl, SqT.of htc, rfl, _, _, rfl, _, _, rfl, _, _, rfl, rfl, rfl, ?_⟩
      refine tyes (iteT ⟨_, rfl, _, rfl, _, _, rfl, rfl, _, rfl, _, rfl, _, _, rfl, rfl, by show 2 ≤ sizeLine; decide, fun Q1 nQ => ⟨_, rfl, by show 2 ≤ sizeLine; decide, fun T' nT => ?_⟩⟩)
      have z1 := same_upd (o := CellO (x + c.1.1, y + c.1.2)) nQ
      have y1 : upd G Q1 (CellO (x + c.1.1, y + c.1.2)) Q1 = some (CellO (x + c.1.1, y + c.1.2)) := upd_same
      have z2 := same_upd (H := upd G Q1 (CellO (x + c.1.1, y + c.1.2))) (o := .tup [.ref Q1, .str (S c.2)]) nT
      exact lookMore (G3 := upd (upd G Q1 (CellO (x + c.1.1, y + c.1.2))) T' (.tup [.ref Q1, .str (S c.2)])) (by
        have e2 := congrArg List.length ec
        rw [condsOf_len, List.length_map] at e2
        omega) nD sm hD hls en hi (z1.trans z2) (z2 _ _ y1) upd_same
    rintro G2 ⟨ls, sm, hD, hls, en⟩
    rw [show (refC cs).length = cs.length from List.length_map _, List.take_of_length_le (Nat.le_refl _)] at en
    have lens : ∀ q ∈ ls, q.2.2.2.length ≤ 1000 := fun q m => by
      have m2 : q.2.2 ∈ cs.map fun q => lookC x y q.2 := by
        rw [← en]
        exact List.mem_map.mpr ⟨q, m, rfl⟩
      obtain ⟨c, hc, e⟩ := List.mem_map.mp m2
      rw [← e]
      exact conds_len (κ := κ) lz each c.2 (by rw [← ec]; exact List.mem_map.mpr ⟨c, hc, rfl⟩)
    have lsl : ls.length ≤ 1000 := by
      have := congrArg List.length en
      rw [List.length_map, List.length_map] at this
      have e2 := congrArg List.length ec
      rw [condsOf_len, List.length_map] at e2
      omega
    have s2 := s1.trans sm
    have hp2 := hp0.same s2
    have hl2 := hl.same s2
    refine ⟨_, rfl, D, rfl, ⟨_, SqL.of hD⟩, fun D2 nD2 => lc_list (K := K) (a := D) (xs := refK ls) (fun i G => ∃ ks : CL, Same G2 G ∧ G D2 = some (.lst (refs ks)) ∧ Tups G ks ∧ cellsOf ks = ((ls.take i).filter fun q => clashB R M q.2.2.2 q.2.2.1).map (fun q => q.2.2.1)) ⟨[], same_upd nD2, upd_same, (fun p hp => nomatch hp), rfl⟩ (fun i G _ ⟨ks, sm, _⟩ => SqL.of (sm _ _ hD)) ?_ ?_⟩
    · rintro i v G hx ⟨ks, sm2, hD2, hks, en2⟩
      obtain ⟨q, hi, rfl⟩ := refK_at hx
      have mq := List.mem_of_getElem? hi
      have li : i < ls.length := (List.getElem?_eq_some_iff.mp hi).1
      obtain ⟨a1, a2⟩ := hls q mq
      have b1 := sm2 _ _ a1
      have b2 := sm2 _ _ a2
      refine ⟨q.1, _, rfl, SqT.of b1, rfl, _, _, rfl, _, _, rfl, rfl, rfl, ?_⟩
      refine ⟨_, rfl, _, rfl, _, rfl, _, rfl, pic, R, n, q.2.1, q.2.2.1, q.2.2.2, lo, M, rfl, hp2.same sm2, g, b2, hl2.same sm2, lens q mq, _, rfl, ?_⟩
      have tk : ls.take (i + 1) = ls.take i ++ [q] := by
        rw [List.take_add_one, hi]
        rfl
      cases eb : clashB R M q.2.2.2 q.2.2.1 with
      | false =>
        refine iteF ⟨ks, sm2, hD2, hks, ?_⟩
        rw [tk, List.filter_append, List.map_append, en2]
        simp [eb]
      | true =>
        have lk : ks.length ≤ 1000 := by
          have := congrArg List.length en2
          rw [List.length_map] at this
          have f := List.length_filter_le (fun q : LK => clashB R M q.2.2.2 q.2.2.1) (ls.take i)
          rw [List.length_take] at f
          rw [show (cellsOf ks).length = ks.length from List.length_map _] at this
          omega
        refine iteT ⟨_, rfl, refs ks, hD2, by rw [show (refs ks).length = ks.length from List.length_map _]; exact small1000 lk, ks ++ [(q.2.1, q.2.2.1)], fun b o e => ?_, ?_, fun p hp => ?_, ?_⟩
        · rw [upd_ne (ne_of_none e nD2)]
          exact sm2 _ _ e
        · rw [upd_same]
          unfold refs
          rw [List.map_append]
          rfl
        · have ne : ∀ {a : Addr} {ys : List V}, G a = some (.tup ys) → a ≠ D2 := fun h e => by rw [e, hD2] at h; cases h
          rcases List.mem_append.mp hp with m | m
          · have b := hks p m
            rw [upd_ne (ne b)]
            exact b
          · rw [List.mem_singleton.mp m, upd_ne (ne b2)]
            exact b2
        · rw [tk, List.filter_append, List.map_append, show cellsOf (ks ++ [(q.2.1, q.2.2.1)]) = cellsOf ks ++ [q.2.2.1] by unfold cellsOf; rw [List.map_append]; rfl, en2]
          simp [eb]
    rintro G3 ⟨ks, sm3, hD3, hks, en3⟩
    rw [show (refK ls).length = ls.length from List.length_map _, List.take_of_length_le (Nat.le_refl _)] at en3
    refine k io hy D2 ks G3 (s2.trans sm3) (back s2 nD2) hD3 hks ?_
    rw [en3]
    unfold clashL
    rw [← ec, List.map_map]
    have en' : (cs.map ((lookC x y) ∘ fun q => q.2)) = ls.map fun q => q.2.2 := en.symm
    rw [en', List.filter_map, List.map_map]
    rfl
end
end Pm
namespace Pm
open PySem PySem.Spec PyProof.Rows L2 SX
section
variable {P : Program} {w : World} {K : PySem.W.Frag} {mg : Str → Option Value} {base : Heap} {C CI CO CG : Addr}
def spSign : Sp := fun vs H Q _ => ∃ a R n x y, vs = [.ref a, .int x, .int y] ∧ H a = some (.lst (rowsV R)) ∧ Grid R n ∧ Q (.str (S (signAt R x y))) H
theorem scSign : FnScope ["_law_rows", "_law_cx", "_law_cy"] ["_law_rows", "_law_cx", "_law_cy"] (defScope lSign) := ⟨rfl, rfl, rfl, by decide +kernel, rfl, by decide +kernel, by decide +kernel⟩
theorem ok_sign {f : Addr} {fd : FuncData} (F : Fun K "_law_sign" "_law_sign" lSign f fd) (L : LTxt K mg) : FnOk P w K mg base CX0 1 f fd ["_law_rows", "_law_cx", "_law_cy"] spSign := by
  refine F.ok scSign (fun vs H Q E h => ?_) (fun cdv A outer s H vs Q E hr h => ?_)
  · obtain ⟨a, R, n, x, y, rfl, _⟩ := h
    rfl
  · obtain ⟨a, R, n, x, y, rfl, ha, g, k⟩ := h
    refine ⟨_, pss_cons (ps_if (PW.pt (pw_or (pt_cmpR op_lt (pv 2) pe_int (nomark _)) (pw_or (pt_cmpR op_ge (pv 2) (pe_callB call_len_seq (by rfl) L.len PySem.boot_len (pa_cons (pv 0) pa_nil)) (nomark _)) (pw_or (pt_cmpR op_lt (pv 1) pe_int (nomark _)) (pw_or1 (pt_cmpR op_ge (pv 1) (pe_callB call_len_str (by rfl) L.len PySem.boot_len (pa_cons (pe_ix ix_list (pv 0) pe_int (fun _ _ => rfl)) pa_nil)) (nomark _))))))) (pss_one (ps_ret pe_str)) pss_nil)
      (pss_one (ps_ret (pe_ix ix_str (pe_ix ix_list (pv 0) (pv 2) (fun _ _ => rfl)) (pv 1) (fun _ _ => rfl)))), ?_⟩
    have out : (y < 0 ∨ (R.length : Int) ≤ y ∨ x < 0 ∨ (n : Int) ≤ x) → Q (.str ("#" : Str)) H := fun o => by
      unfold signAt at k
      rw [if_neg (by rw [inB_out g o]; decide)] at k
      rw [show ("#" : Str) = S [35] by decide +kernel]
      exact k
    have h1 := g.h1
    have r0 := rowsV_get g (show 0 < R.length by omega)
    have l0 := (g.at (show 0 < R.length by omega)).2.2
    have w8 := g.w8
    refine ⟨_, rfl, _, _, rfl, rfl, _, rfl, ?_⟩
    by_cases c1 : y < 0
    · exact iteTe (decide_eq_true c1) (iteT (out (.inl c1)))
    refine iteFe (decide_eq_false c1) ⟨_, rfl, _, rfl, a, _, rfl, .inl (SqL.of ha), _, _, rfl, rfl, _, rfl, ?_⟩
    rw [rowsV_len]
    by_cases c2 : (R.length : Int) ≤ y
    · exact iteTe (decide_eq_true c2) (iteT (out (.inr (.inl c2))))
    refine iteFe (decide_eq_false c2) ⟨_, rfl, _, _, rfl, rfl, _, rfl, ?_⟩
    by_cases c3 : x < 0
    · exact iteTe (decide_eq_true c3) (iteT (out (.inr (.inr (.inl c3)))))
    refine iteFe (decide_eq_false c3) ⟨_, rfl, _, rfl, a, _, 0, _, rfl, rfl, SqL.of ha, atI_nat (j := 0) r0, _, rfl, by rw [len_S, l0]; exact small_line (by omega), _, _, rfl, rfl, _, rfl, ?_⟩
    rw [len_S, l0]
    by_cases c4 : (n : Int) ≤ x
    · exact iteTe (decide_eq_true c4) (out (.inr (.inr (.inr c4))))
    refine iteFe (decide_eq_false c4) ?_
    have io := inB_in g (x := x) (y := y) (by omega) (by omega) (by omega) (by omega)
    obtain ⟨i, j, rfl, rfl, hi, hj⟩ := g.inside io
    obtain ⟨e1, m1, l1⟩ := g.at hj
    have ge : (rowAt R j)[i]? = some ((rowAt R j).getD i 0) := by
      rw [List.getD_eq_getElem?_getD, List.getElem?_eq_getElem (by omega)]
      rfl
    unfold signAt at k
    rw [if_pos io] at k
    exact ⟨_, rfl, _, rfl, a, _, (j : Int), _, rfl, rfl, SqL.of ha, atI_nat (rowsV_get g hj), _, rfl, _, _, _, rfl, rfl, by rw [len_S, l1]; exact small_line (by omega), atI_nat ge, k⟩
end
end Pm
namespace Pm
open PySem PySem.Spec PyProof.Rows L2 SX NdefX
theorem hu65r {A : Around} {k : Nat} (hr : Room k A) : A.units + 65 < cLine := by
  have := hr.un
  omega
structure BTx (mg : Str → Option Value) : Prop where
  bool : mg "bool" = none
  tup : mg "tuple" = none
  str : mg "str" = none
/-- offsets as data -/
def dP (c : Int × Int) : PyData := .tuple [.int c.1, .int c.2]
theorem dP_eqv (c d : Int × Int) : PyData.eqv (dP c) (dP d) = decide (c = d) := by
  obtain ⟨x, y⟩ := c
  obtain ⟨u, v⟩ := d
  simp [dP, PyData.eqv, PyData.eqvAll]
  rfl
theorem dP_shaped (c : Int × Int) : SeqAt.shaped (dP c) = true := by
  simp [dP, SeqAt.shaped, PyData.canLay0, PyData.canLayAll0, PyData.depth, PyData.depthAll]
theorem dPs_lay : ∀ M : List (Int × Int), PyData.canLayAll0 (M.map dP) = true
  | [] => rfl
  | c :: M => by simp [PyData.canLayAll0, dP, PyData.canLay0, dPs_lay M]
theorem dPs_depth : ∀ M : List (Int × Int), PyData.depthAll (M.map dP) ≤ 1
  | [] => by simp [PyData.depthAll]
  | c :: M => by
    have := dPs_depth M
    simp [PyData.depthAll, dP, PyData.depth]
    omega
theorem dPs_shaped (M : List (Int × Int)) : SeqAt.shaped (.list (M.map dP)) = true := by
  have := dPs_depth M
  simp [SeqAt.shaped, PyData.canLay0, dPs_lay M, PyData.depth]
  omega
theorem dPs_any (M : List (Int × Int)) (c : Int × Int) : ((M.map dP).any fun z => PyData.eqv z (dP c)) = decide (c ∈ M) := by
  rw [List.any_map]
  rw [Bool.eq_iff_iff, List.any_eq_true, decide_eq_true_eq]
  constructor
  · rintro ⟨d, hd, e⟩
    have e : PyData.eqv (dP d) (dP c) = true := e
    rw [dP_eqv, decide_eq_true_eq] at e
    rw [← e]
    exact hd
  · intro h
    exact ⟨c, h, by show PyData.eqv (dP c) (dP c) = true; rw [dP_eqv]; simp⟩
section
variable {P : Program} {w : World} {K : PySem.W.Frag} {mg : Str → Option Value} {base : Heap} {C CI CW D : Addr} {κ : Nat}
def spOffset : Sp := fun vs H Q _ => ∃ b l, vs = [.ref b] ∧ BagL H b l ∧ ∀ t p H', placeB p = true → SameBut b H H' → BagL H' b l → H t = none → H' t = some (PairO p) → Q (.ref t) H'
theorem scOffset : FnScope ["_law_bag_here", "_law_spot"] ["_law_bag_here"] (defScope lOffset) := ⟨rfl, rfl, rfl, by decide +kernel, rfl, by decide +kernel, by decide +kernel⟩
theorem spots : ∀ n : Int, 0 ≤ n → n < 8 → ∃ v : Int, atI [V.int 16, V.int 17, V.int 18, V.int 23, V.int 24, V.int 29, V.int 30, V.int 31] n = some (.int v) ∧ 0 ≤ v ∧ v < 48 := by
  intro n h0 h1
  obtain ⟨j, rfl⟩ : ∃ j : Nat, n = (j : Int) := ⟨n.toNat, by omega⟩
  have hj : j < 8 := by omega
  match j, hj with
  | 0, _ => exact ⟨16, rfl, by decide, by decide⟩
  | 1, _ => exact ⟨17, rfl, by decide, by decide⟩
  | 2, _ => exact ⟨18, rfl, by decide, by decide⟩
  | 3, _ => exact ⟨23, rfl, by decide, by decide⟩
  | 4, _ => exact ⟨24, rfl, by decide, by decide⟩
  | 5, _ => exact ⟨29, rfl, by decide, by decide⟩
  | 6, _ => exact ⟨30, rfl, by decide, by decide⟩
  | 7, _ => exact ⟨31, rfl, by decide, by decide⟩
theorem bag_sb {H H' : Hp} {b l : Addr} (h : BagL H b l) (s : Same H H') : BagL H' b l := by
  obtain ⟨ns, i, p, q, hb, hl, r⟩ := h
  exact ⟨ns, i, p, q, s _ _ hb, s _ _ hl, r⟩
theorem sb_none {b t : Addr} {H H' : Hp} {l : Addr} (hb : BagL H b l) (hb2 : BagL H' b l) (s : SameBut b H H') (h : H' t = none) : H t = none := by
  obtain ⟨xs, e⟩ := bag_b hb
  refine but_back e s (fun z => ?_) h
  obtain ⟨ys, e2⟩ := bag_b hb2
  rw [z, e2] at h
  cases h
theorem ok_offset {f t : Addr} {fd td : FuncData} (F : Fun K "_law_offset" "_law_offset" lOffset f fd) (T : Cl P w K mg base CX0 1 "_law_take" tkNames spTake t td) (L : LTxt K mg) : FnOk P w K mg base CX0 2 f fd ["_law_bag_here"] spOffset := by
  refine F.ok scOffset (fun vs H Q E h => ?_) (fun cdv A outer s H vs Q E hr h => ?_)
  · obtain ⟨b, l, rfl, _⟩ := h
    rfl
  · obtain ⟨b, l, rfl, hb, k⟩ := h
    refine ⟨_, pss_cons (ps_set (i := 1) scOffset.nd rfl (.inl rfl) (pe_call T.ok hr (by rfl) T.gl T.kp T.bd .nil pass0 (pa_cons (pv 0) (pa_cons pe_int pa_nil)))) (C8.pss_cut (ps_if (pt_cmpR op_gt (pe_call T.ok hr (by rfl) T.gl T.kp T.bd .nil pass0 (pa_cons (pv 0) (pa_cons pe_int pa_nil))) pe_int (nomark _)) (pss_one (ps_set (i := 1) scOffset.nd rfl (.inl rfl) (pe_ix ix_list (pe_lst (pa_cons pe_int (pa_cons pe_int (pa_cons pe_int (pa_cons pe_int (pa_cons pe_int (pa_cons pe_int (pa_cons pe_int (pa_cons pe_int pa_nil))))))))) (pe_op op_mod (pe_callTy call_int1 (by rfl) L.int (by decide +kernel) (pa_cons (pv 1) pa_nil)) pe_int) (fun _ _ => rfl)))) pss_nil) (pss_cons (ps_set (i := 1) scOffset.nd rfl (.inl rfl) (pe_op op_add (pv 1) (pe_callTy call_int1 (by rfl) L.int (by decide +kernel) (pa_cons (pe_cmpR op_gt (pv 1) pe_int (nomark _)) pa_nil))))
      (pss_one (ps_ret (pe_tup (pa_cons (pe_op op_sub (pe_op op_mod (pe_callTy call_int1 (by rfl) L.int (by decide +kernel) (pa_cons (pv 1) pa_nil)) pe_int) pe_int) (pa_cons (pe_op op_sub (pe_op op_fdiv (pv 1) pe_int) pe_int) pa_nil))))))), ?_⟩
    refine ⟨_, rfl, b, l, 48, rfl, hb, by decide, by decide, fun n H1 n0 n1 u1 b1 => ?_⟩
    refine ⟨fun σ G => ∃ m : Int, σ = [some (.ref b), some (.int m)] ∧ 0 ≤ m ∧ m < 48 ∧ SameBut b H G ∧ BagL G b l, ?_, ?_⟩
    · refine ⟨_, rfl, b, l, 3, rfl, b1, by decide, by decide, fun m H2 m0 m1 u2 b2 => ⟨_, _, rfl, rfl, _, rfl, ite2 (fun _ => ?_) (fun _ => ⟨n, rfl, n0, n1, but_same (u1.trans u2), b2⟩)⟩⟩
      refine ⟨by show 8 ≤ sizeLine; decide, fun p np => ⟨_, rfl, .inl ⟨_, rfl, _, _, rfl, rfl, (by show (0 : Int) < 8; decide), ?_⟩⟩⟩
      obtain ⟨v, ev, v0, v1⟩ := spots _ (Int.emod_nonneg n (show (8 : Int) ≠ 0 by decide)) (Int.emod_lt_of_pos n (show (0 : Int) < 8 by decide))
      refine ⟨p, _, _, _, rfl, rfl, SqL.of upd_same, ev, v, rfl, v0, v1, fun a o na e => ?_, ?_⟩
      · have y := but_same (u1.trans u2) a o na e
        rw [upd_ne (ne_of_none y np)]
        exact y
      · exact bag_upd b2 np
    · rintro σ G ⟨m, rfl, m0, m1, sG, bG⟩
      refine ⟨_, rfl, _, rfl, _, _, rfl, rfl, .inr ⟨_, rfl, _, _, rfl, rfl, ?_⟩⟩
      have spot : ∃ v : Int, m + (if decide (23 < m) = true then 1 else 0) = v ∧ 0 ≤ v ∧ v < 49 ∧ v ≠ 24 := by
        refine ⟨_, rfl, ?_⟩
        by_cases c : 23 < m
        · rw [decide_eq_true c]
          simp
          omega
        · rw [decide_eq_false c]
          simp
          omega
      obtain ⟨v, ev, v0, v1, v24⟩ := spot
      refine ⟨_, rfl, .inl ⟨_, rfl, _, _, rfl, rfl, (by show (0 : Int) < 7; decide), _, _, rfl, rfl, _, rfl, _, _, rfl, rfl, ⟨by decide, by decide⟩, _, _, rfl, rfl, (by show 2 ≤ sizeLine; decide), fun t nt => ?_⟩⟩
      have y := k t (v % 7 - 3, v / 7 - 3) _ ?_ (fun a o na e => ?_) (bag_upd (o := PairO (v % 7 - 3, v / 7 - 3)) bG nt) (sb_none hb bG sG nt) upd_same
      · rw [← ev] at y
        exact y
      · unfold placeB
        have h1 := Int.emod_nonneg v (show (7 : Int) ≠ 0 by decide)
        have h2 := Int.emod_lt_of_pos v (show (0 : Int) < 7 by decide)
        have h3 : 0 ≤ v / 7 := Int.ediv_nonneg v0 (by decide)
        have h4 : v / 7 < 7 := Int.ediv_lt_of_lt_mul (by decide) (by omega)
        simp only [Bool.and_eq_true, Bool.or_eq_true, decide_eq_true_eq]
        refine ⟨⟨by omega, by omega⟩, ⟨by omega, by omega⟩, ?_⟩
        by_cases z : v % 7 = 3
        · right
          omega
        · left
          omega
      · have y := sG a o na e
        rw [upd_ne (ne_of_none y nt)]
        exact y
end
end Pm
namespace Pm
open PySem PySem.Spec PyProof.Rows L2 SX NdefX
/-- drawn signs of a condition -/
structure Sgn (y : List Nat) : Prop where
  ne : y ≠ []
  nd : y.Nodup
  all : ∀ c ∈ y, c = 35 ∨ Let c
  few : y.length ≤ 3
theorem Sgn.diff {y : List Nat} (h : Sgn y) : diffB 35 y = true := by
  unfold diffB
  rw [decide_eq_true h.ne, decide_eq_true h.nd, Bool.true_and, Bool.true_and, List.all_eq_true]
  intro c m
  rcases h.all c m with e | e
  · rw [decide_eq_true e]
    rfl
  · rw [decide_eq_true e, Bool.or_true]
theorem pal_at {z : List Nat} (h : Pal z) {n : Int} (n0 : 0 ≤ n) (n3 : n < 3) : ∃ c, atI z n = some c ∧ Let c := by
  obtain ⟨j, rfl⟩ : ∃ j : Nat, n = (j : Int) := ⟨n.toNat, by omega⟩
  have hj : j < z.length := by rw [h.len]; omega
  exact ⟨z[j], atI_nat (List.getElem?_eq_getElem hj), h.good (List.getElem_mem hj)⟩
theorem CndsAt.sb {H H' : Hp} {b l p : Addr} {ks : List (Addr × Cnd)} (h : CndsAt H p ks) (pb : p ≠ b) (hb : BagL H b l) (s : SameBut b H H') : CndsAt H' p ks := by
  obtain ⟨xs, e⟩ := bag_b hb
  exact ⟨s _ _ pb h.lst, fun q hq => s _ _ (ne_of (h.each q hq) e (by intro z; cases z)) (h.each q hq)⟩
def kindT (κ : Nat) : Str := if κ = 0 then "all" else if κ = 1 then "count" else "same"
structure GoodR (κ : Nat) (hue : Nat) (cs : List Cnd) (need : Int) : Prop where
  k3 : κ < 3
  hue : Let hue
  few : cs.length ≤ 8
  nd : (cs.map (·.1)).Nodup
  each : ∀ c ∈ cs, placeB c.1 = true ∧ Sgn c.2
  n0 : 0 ≤ need
  n1 : need ≤ (cs.length : Int)
  all : κ = 0 → need = (cs.length : Int)
/-- the law's own rule at t, its parts at pl -/
structure RuleT (H : Hp) (t pl : Addr) (κ hue : Nat) (ks : List (Addr × Cnd)) (need : Int) : Prop where
  at_ : H t = some (.tup [.str (kindT κ), .str (S [hue]), .ref pl, .int need])
  cs : CndsAt H pl ks
  good : GoodR κ hue (ks.map (·.2)) need
theorem RuleT.same {H H' : Hp} {t pl : Addr} {κ hue : Nat} {ks : List (Addr × Cnd)} {need : Int} (h : RuleT H t pl κ hue ks need) (s : Same H H') : RuleT H' t pl κ hue ks need := ⟨s _ _ h.at_, h.cs.same s, h.good⟩
section
variable {P : Program} {w : World} {K : PySem.W.Frag} {mg : Str → Option Value} {base : Heap} {C CI CW D : Addr} {κ : Nat}
def spSigns : Sp := fun vs H Q _ => ∃ b l z, vs = [.ref b, .str (S z)] ∧ BagL H b l ∧ Pal z ∧ ∀ y H', Sgn y → But b H H' → BagL H' b l → Q (.str (S y)) H'
theorem scSigns : FnScope ["_law_bag_here", "_law_palette_here", "_law_signs_here", "_law_other"] ["_law_bag_here", "_law_palette_here"] (defScope lSigns) := ⟨rfl, rfl, rfl, by decide +kernel, rfl, by decide +kernel, by decide +kernel⟩
theorem ok_signs {f t : Addr} {fd td : FuncData} (F : Fun K "_law_signs" "_law_signs" lSigns f fd) (T : Cl P w K mg base CX0 1 "_law_take" tkNames spTake t td) : FnOk P w K mg base CX0 2 f fd ["_law_bag_here", "_law_palette_here"] spSigns := by
  refine F.ok scSigns (fun vs H Q E h => ?_) (fun cdv A outer s H vs Q E hr h => ?_)
  · obtain ⟨b, l, z, rfl, _⟩ := h
    rfl
  · obtain ⟨b, l, z, rfl, hb, hz, k⟩ := h
    refine ⟨_, pss_cons (ps_set (i := 2) scSigns.nd rfl (.inl rfl) (pe_ix ix_str (pv 1) (pe_call T.ok hr (by rfl) T.gl T.kp T.bd .nil pass0 (pa_cons (pv 0) (pa_cons pe_int pa_nil))) (fun _ _ => rfl))) (pss_cons (ps_set (i := 3) scSigns.nd rfl (.inl rfl) (pe_ix ix_str (pv 1) (pe_call T.ok hr (by rfl) T.gl T.kp T.bd .nil pass0 (pa_cons (pv 0) (pa_cons pe_int pa_nil))) (fun _ _ => rfl))) (C8.pss_cut (ps_if (PW.pt (pw_and (pt_cmpR op_eq (pe_call T.ok hr (by rfl) T.gl T.kp T.bd .nil pass0 (pa_cons (pv 0) (pa_cons pe_int pa_nil))) pe_int (nomark _)) (pw_and1 (pt_cmpR op_notIn_sign (pv 3) (pv 2) (by rfl))))) (pss_one (ps_set (i := 2) scSigns.nd rfl (.inl rfl) (pe_op op_add_str (pv 3) (pv 2)))) pss_nil) (pss_cons (ps_if (pt_cmpR op_eq (pe_call T.ok hr (by rfl) T.gl T.kp T.bd .nil pass0 (pa_cons (pv 0) (pa_cons pe_int pa_nil))) pe_int (nomark _)) (pss_one (ps_set (i := 2) scSigns.nd rfl (.inl rfl) (pe_op op_add_str (pv 2) pe_str))) pss_nil)
      (pss_one (ps_ret (pv 2)))))), ?_⟩
    have lz : (S z).length ≤ sizeLine := by rw [len_S, hz.len]; exact small_line (by decide)
    refine ⟨_, rfl, _, rfl, b, l, 3, rfl, hb, by decide, by decide, fun n H1 n0 n1 u1 b1 => ?_⟩
    obtain ⟨c, ec, hc⟩ := pal_at hz n0 n1
    refine ⟨_, n, c, rfl, rfl, lz, ec, ?_⟩
    refine ⟨_, rfl, _, rfl, b, l, 3, rfl, b1, by decide, by decide, fun n2 H2 p0 p1 u2 b2 => ?_⟩
    obtain ⟨d, ed, hd⟩ := pal_at hz p0 p1
    refine ⟨_, n2, d, rfl, rfl, lz, ed, ?_⟩
    refine ⟨fun σ G => ∃ y, σ = [some (.ref b), some (.str (S z)), some (.str (S y)), some (.str (S [d]))] ∧ y ≠ [] ∧ y.Nodup ∧ (∀ c ∈ y, Let c) ∧ y.length ≤ 2 ∧ But b H G ∧ BagL G b l, ?_, ?_⟩
    · refine ⟨_, rfl, b, l, 3, rfl, b2, by decide, by decide, fun n3 H3 _ _ u3 b3 => ⟨rfl, _, rfl, ite2 (fun _ => ?_) (fun _ => ⟨[c], rfl, by simp, by simp, by simpa using hc, (by show 1 ≤ 2; decide), (u1.trans u2).trans u3, b3⟩)⟩⟩
      refine ⟨_, rfl, _, rfl, d, S [c], rfl, rfl, _, rfl, ?_⟩
      by_cases e : d = c
      · refine iteFe (by rw [e]; simp) ⟨[c], rfl, by simp, by simp, by simpa using hc, (by show 1 ≤ 2; decide), (u1.trans u2).trans u3, b3⟩
      · refine iteTe (by simp [e]) ⟨_, rfl, _, rfl, _, _, rfl, rfl, (by rw [len_S, len_S]; show 1 + 1 ≤ sizeLine; decide), [d, c], ?_, by simp, by simp [e], ?_, (by show 2 ≤ 2; decide), (u1.trans u2).trans u3, b3⟩
        · exact congrArg (fun x => [some (V.ref b), some (V.str (S z)), some (V.str x), some (V.str (S [d]))]) (S_cat [d] [c])
        · intro x m
          rcases List.mem_cons.mp m with e | m
          · rw [e]
            exact hd
          · rw [List.mem_singleton.mp m]
            exact hc
    · rintro σ G ⟨y, rfl, y0, y1, y2, y3, uG, bG⟩
      refine ⟨_, rfl, b, l, 4, rfl, bG, by decide, by decide, fun n3 H3 _ _ u3 b3 => ⟨rfl, _, rfl, ite2 (fun _ => ?_) (fun _ => ⟨_, rfl, k y H3 ⟨y0, y1, fun c m => .inr (y2 c m), by omega⟩ (uG.trans u3) b3⟩)⟩⟩
      refine ⟨_, rfl, _, _, rfl, rfl, ?_, _, rfl, ?_⟩
      · rw [len_S]
        show y.length + 1 ≤ sizeLine
        exact small_line (by omega)
      · have e : S y ++ ("#" : Str) = S (y ++ [35]) := by rw [hash_S, S_cat]
        have q := k (y ++ [35]) H3 ⟨by simp, ?_, fun c m => ?_, by rw [List.length_append, List.length_singleton]; omega⟩ (uG.trans u3) b3
        · rw [← e] at q
          exact q
        · rw [List.nodup_append]
          refine ⟨y1, by simp, fun a ha c hc e2 => ?_⟩
          have hl := y2 a ha
          rw [e2, List.mem_singleton.mp hc] at hl
          unfold Let at hl
          omega
        · rcases List.mem_append.mp m with m | m
          · exact .inr (y2 c m)
          · exact .inl (List.mem_singleton.mp m)
def spParts : Sp := fun vs H Q _ => ∃ b l z, vs = [.ref b, .str (S z)] ∧ BagL H b l ∧ Pal z ∧ ∀ p ks H', SameBut b H H' → BagL H' b l → H p = none → CndsAt H' p ks → ks.length ≤ 8 → (ks.map fun q => q.2.1).Nodup → (∀ q ∈ ks, placeB q.2.1 = true ∧ Sgn q.2.2) → Q (.ref p) H'
abbrev nParts : List Str := ["_law_bag_here", "_law_palette_here", "_law_many", "_law_parts_here", "_law_k", "_law_offset_here", "_law_signs_here", "_law_part"]
theorem scParts : FnScope nParts ["_law_bag_here", "_law_palette_here"] (defScope lParts) := ⟨rfl, rfl, rfl, by decide +kernel, rfl, by decide +kernel, by decide +kernel⟩
theorem ok_parts {f t o g : Addr} {fd td od gd : FuncData} (F : Fun K "_law_parts" "_law_parts" lParts f fd) (T : Cl P w K mg base CX0 1 "_law_take" tkNames spTake t td) (O : Cl P w K mg base CX0 2 "_law_offset" ["_law_bag_here"] spOffset o od) (Sg : Cl P w K mg base CX0 2 "_law_signs" ["_law_bag_here", "_law_palette_here"] spSigns g gd) (L : LTxt K mg) :
    FnOk P w K mg base CX0 3 f fd ["_law_bag_here", "_law_palette_here"] spParts := by
  refine F.ok scParts (fun vs H Q E h => ?_) (fun cdv A outer s H vs Q E hr h => ?_)
  · obtain ⟨b, l, z, rfl, _⟩ := h
    rfl
  · obtain ⟨b, l, z, rfl, hb, hz, k⟩ := h
    have hr1 : Room 1 _ := hr.mono (by decide)
    refine ⟨_, pss_cons (ps_set (i := 2) scParts.nd rfl (.inl rfl) (pe_call T.ok hr1 (by rfl) T.gl T.kp T.bd .nil pass0 (pa_cons (pv 0) (pa_cons pe_int pa_nil)))) (C8.pss_cut (ps_if (pt_cmpR op_eq (pe_call T.ok hr1 (by rfl) T.gl T.kp T.bd .nil pass0 (pa_cons (pv 0) (pa_cons pe_int pa_nil))) pe_int (nomark _)) (pss_one (ps_set (i := 2) scParts.nd rfl (.inl rfl) pe_int)) pss_nil) (pss_cons (ps_set (i := 3) scParts.nd rfl (.inl rfl) (pe_lst pa_nil))
      (pss_cons (ps_for PassesOwn.never rfl (pi_range1 (by rfl) L.rng (pa_cons (pv 2) pa_nil)) (pg_name (i := 4) scParts.nd rfl (.inl rfl)) (pss_cons (ps_set (i := 5) scParts.nd rfl (.inl rfl) (pe_call O.ok hr (by rfl) O.gl O.kp O.bd .nil pass0 (pa_cons (pv 0) pa_nil)))
        (pss_cons (ps_set (i := 6) scParts.nd rfl (.inl rfl) (pe_call Sg.ok hr (by rfl) Sg.gl Sg.kp Sg.bd .nil pass0 (pa_cons (pv 0) (pa_cons (pv 1) pa_nil))))
        (pss_one (ps_if (pt_cmpR (op_notInD (hu65r hr)) (pv 5) (pe_lc (own := [("_law_part", 7)]) (g := (gName 7)) (tt := tYes) (te := (tTup (tCons (tOp (rIxT K) (tVar 7) (tC (.int 0))) (tCons (tOp (rIxT K) (tVar 7) (tC (.int 1))) tNil)))) rfl scParts.nd (pi_list (pv 3)) (blkOk_by (own := [("_law_part", 7)]) (N := nParts) (sc := defScope lParts) (by decide +kernel)) (fun _ _ _ _ _ => (pg_name (i := 7) scParts.nd rfl (.inl rfl))) (fun _ _ _ _ _ => pts_nil) (fun _ _ _ _ _ => (pe_tup (pa_cons (by exact pe_ix ix_tup (pv 7) pe_int (fun _ _ => rfl)) (pa_cons (by exact pe_ix ix_tup (pv 7) pe_int (fun _ _ => rfl)) pa_nil))))) (by rfl)) (pss_one (ps_expr (pe_bm PySem.F.plainAttrs_list PySem.F.slot_list_append PySem.F.type_list_append mt_append (pv 3) (pa_cons (pe_tup (pa_cons (pe_ix ix_tup (pv 5) pe_int (fun _ _ => rfl)) (pa_cons (pe_ix ix_tup (pv 5) pe_int (fun _ _ => rfl)) (pa_cons (pv 6) pa_nil)))) pa_nil)))) pss_nil)))))
      (pss_one (ps_ret (pv 3)))))), ?_⟩
    refine ⟨_, rfl, b, l, 4, rfl, hb, by decide, by decide, fun n H1 n0 n1 u1 b1 => ?_⟩
    refine ⟨fun σ G => ∃ m : Int, σ = [some (.ref b), some (.str (S z)), some (.int m), none, none, none, none, none] ∧ 0 ≤ m ∧ m ≤ 8 ∧ But b H G ∧ BagL G b l, ?_, ?_⟩
    · exact ⟨_, rfl, b, l, 9, rfl, b1, by decide, by decide, fun n3 H3 _ _ u3 b3 => ⟨rfl, _, rfl, ite2 (fun _ => ⟨8, rfl, by decide, by decide, u1.trans u3, b3⟩) (fun _ => ⟨n, rfl, n0, by omega, u1.trans u3, b3⟩)⟩⟩
    · rintro σ G ⟨m, rfl, m0, m8, uG, bG⟩
      refine ⟨by decide, fun p np => ?_⟩
      have np0 : H p = none := sb_none hb bG (but_same uG) np
      refine ⟨_, rfl, m, rfl, by omega, by omega, for_range (lo := 0) (n := m.toNat) (fun i σ G => ∃ y4 y5 y6 ks, σ = [some (.ref b), some (.str (S z)), some (.int m), some (.ref p), y4, y5, y6, none] ∧ ks.length ≤ i ∧ (ks.map fun q : Addr × Cnd => q.2.1).Nodup ∧ (∀ q ∈ ks, placeB q.2.1 = true ∧ Sgn q.2.2) ∧ (∀ a o, a ≠ b → H a = some o → G a = some o) ∧ BagL G b l ∧ CndsAt G p ks)
        ⟨_, _, _, [], rfl, Nat.le_refl _, List.nodup_nil, (fun q m => nomatch m), fun a o na e => ?_, bag_upd bG np, ⟨upd_same, fun q m => nomatch m⟩⟩ ?_ ?_⟩
      · have y := but_same uG a o na e
        rw [upd_ne (ne_of_none y np)]
        exact y
      · rintro i σ G1 hi ⟨y4, y5, y6, ks, rfl, lk, nd, gk, sG, bG1, hc⟩
        have pb : p ≠ b := fun e => by
          obtain ⟨xs, e2⟩ := bag_b hb
          rw [e, e2] at np0
          cases np0
        refine ⟨_, rfl, b, l, rfl, bG1, fun t c G2 pc s2 b2 nt ht => ?_⟩
        have hc2 := hc.sb pb bG1 s2
        have tb : t ≠ b := fun e => by
          obtain ⟨xs, e2⟩ := bag_b bG1
          rw [e, e2] at nt
          cases nt
        refine ⟨_, rfl, _, rfl, b, l, z, rfl, b2, hz, fun y G3 gy u3 b3 => ?_⟩
        have hc3 := hc2.sb pb b2 (but_same u3)
        have ht3 := (u3 t tb).trans ht
        refine ⟨_, rfl, .ref p, rfl, p, rfl, ⟨_, SqL.of hc3.lst⟩, fun D nD => lc_list (K := K) (a := p) (xs := refC ks) (fun i G => ∃ ps : List (Addr × (Int × Int)), Same G3 G ∧ G D = some (.lst (ps.map fun q => V.ref q.1)) ∧ (∀ q ∈ ps, G q.1 = some (PairO q.2)) ∧ ps.map (·.2) = (ks.take i).map fun q => q.2.1) ⟨[], same_upd nD, upd_same, (fun p hp => nomatch hp), rfl⟩ (fun i G _ ⟨ts, sm, _⟩ => SqL.of (sm _ _ hc3.lst)) ?_ ?_⟩
        · rintro j x G hx ⟨ps, sm, hD, hps, ep⟩
          obtain ⟨t2, c2, hj, rfl⟩ := refC_at hx
          have htc := sm _ _ (hc3.each _ (List.mem_of_getElem? hj))
          have lj : j < ks.length := (List.getElem?_eq_some_iff.mp hj).1
          refine ⟨rfl, tyes (iteT ⟨_, rfl, t2, _, 0, _, rfl, rfl, SqT.of htc, rfl, _, rfl, t2, _, 1, _, rfl, rfl, SqT.of htc, rfl, by show 2 ≤ sizeLine; decide, fun T' nT => ?_⟩)⟩
          have s3 := same_upd (o := .tup [.int c2.1.1, .int c2.1.2]) nT
          have nDT : D ≠ T' := ne_of_none hD nT
          refine ⟨ps.map fun q => V.ref q.1, s3 _ _ hD, ?_, ps ++ [(T', c2.1)], fun a o e => ?_, ?_, fun q hq => ?_, ?_⟩
          · have := congrArg List.length ep
            rw [List.length_map, List.length_map, List.length_take] at this
            rw [List.length_map]
            exact small1000 (by omega)
          · rw [upd_ne (ne_of_none e nD)]
            exact s3 _ _ (sm _ _ e)
          · rw [upd_same, List.map_append]
            rfl
          · rcases List.mem_append.mp hq with y' | y'
            · have y2 := s3 _ _ (hps q y')
              rw [upd_ne (fun e => ?_)]
              · exact y2
              · rw [e, s3 _ _ hD] at y2
                cases y2
            · rw [List.mem_singleton.mp y']
              rw [upd_ne nDT.symm, upd_same]
              rfl
          · rw [List.map_append, ep, List.take_add_one, hj, List.map_append]
            rfl
        · rintro G4 ⟨ps, sm, hD, hps, ep⟩
          rw [show (refC ks).length = ks.length from List.length_map _, List.take_of_length_le (Nat.le_refl _)] at ep
          have dps : DpAll K G4 (ps.map fun q => V.ref q.1) ((ps.map (·.2)).map dP) := by
            clear ep hD
            induction ps with
            | nil => exact .nil
            | cons q ps ih => exact .cons (.tup (SqT.of (hps q List.mem_cons_self)) (.cons (.int _) (.cons (.int _) .nil))) (ih fun q' m => hps q' (List.mem_cons_of_mem _ m))
          refine ⟨dP c, _, .tup (SqT.of (sm _ _ ht3)) (.cons (.int _) (.cons (.int _) .nil)), .lst (SqL.of hD) dps, dP_shaped c, dPs_shaped _, _, rfl, ?_⟩
          rw [dPs_any, ep]
          have sAll : ∀ a o, a ≠ b → H a = some o → G4 a = some o := fun a o na e => sm _ _ ((u3 a na).trans (s2 a o na (sG a o na e)))
          have bG4 := bag_sb b3 sm
          have hc4 := hc3.same sm
          by_cases new : c ∈ ks.map fun q => q.2.1
          · refine iteFe (by rw [decide_eq_true new]; rfl) ?_
            exact ⟨_, _, _, ks, rfl, by omega, nd, gk, sAll, bG4, hc4⟩
          · refine iteTe (by rw [decide_eq_false new]; rfl) ?_
            refine ⟨_, rfl, .inl ⟨rfl, _, SqL.of hc4.lst⟩, _, rfl, t, _, 0, _, rfl, rfl, SqT.of (sm _ _ ht3), rfl, _, rfl, t, _, 1, _, rfl, rfl, SqT.of (sm _ _ ht3), rfl, _, rfl, by show 3 ≤ sizeLine; decide, fun T' nT => ?_⟩
            have s5 := same_upd (o := .tup [.int c.1, .int c.2, .str (S y)]) nT
            have nTb : T' ≠ b := fun e => by
              obtain ⟨xs, e2⟩ := bag_b bG4
              rw [e, e2] at nT
              cases nT
            have npT : p ≠ T' := ne_of_none hc4.lst nT
            have bl : p ≠ l := fun e => by
              obtain ⟨xs, e2⟩ := bag_l hb
              rw [e, e2] at np0
              cases np0
            refine ⟨p, _, _, rfl, rfl, s5 _ _ hc4.lst, ?_, _, _, _, ks ++ [(T', (c, y))], rfl, ?_, ?_, fun q hq => ?_, fun a o na e => ?_, bag_ne (bag_sb bG4 s5) pb bl, ?_, fun q hq => ?_⟩
            · rw [show (refC ks).length = ks.length from List.length_map _]
              exact small1000 (by omega)
            · rw [List.length_append, List.length_singleton]
              omega
            · rw [List.map_append]
              rw [List.nodup_append]
              refine ⟨nd, by simp, fun a ha d hd e2 => ?_⟩
              have hd : d = c := by simpa using hd
              rw [e2, hd] at ha
              exact new ha
            · rcases List.mem_append.mp hq with m' | m'
              · exact gk q m'
              · rw [List.mem_singleton.mp m']
                exact ⟨pc, gy⟩
            · rw [upd_ne (ne_of_none e np0)]
              exact s5 _ _ (sAll a o na e)
            · rw [upd_same]
              unfold refC
              rw [List.map_append]
              rfl
            · rcases List.mem_append.mp hq with m' | m'
              · have y2 := s5 _ _ (hc4.each q m')
                rw [upd_ne (fun e => ?_)]
                · exact y2
                · rw [e, s5 _ _ hc4.lst] at y2
                  cases y2
              · rw [List.mem_singleton.mp m']
                rw [upd_ne npT.symm, upd_same]
                rfl
      · rintro σ G1 ⟨y4, y5, y6, ks, rfl, lk, nd, gk, sG, bG1, hc⟩
        exact ⟨_, rfl, k p ks G1 sG bG1 np0 hc (by omega) nd gk⟩
end
end Pm
namespace Pm
open PySem PySem.Spec PyProof.Rows L2 SX NdefX
theorem kinds_at : ∀ n : Int, 0 ≤ n → n < 3 → ∃ κ : Nat, κ < 3 ∧ n = (κ : Int) ∧ atI [V.str "all", V.str "count", V.str "same"] n = some (.str (kindT κ)) := by
  intro n h0 h1
  obtain ⟨j, rfl⟩ : ∃ j : Nat, n = (j : Int) := ⟨n.toNat, by omega⟩
  have hj : j < 3 := by omega
  match j, hj with
  | 0, _ => exact ⟨0, by decide, rfl, rfl⟩
  | 1, _ => exact ⟨1, by decide, rfl, rfl⟩
  | 2, _ => exact ⟨2, by decide, rfl, rfl⟩
theorem kind_all {κ : Nat} (h : κ < 3) : decide (V.str (kindT κ) = V.str "all") = decide (κ = 0) := by
  match κ, h with
  | 0, _ => decide +kernel
  | 1, _ => decide +kernel
  | 2, _ => decide +kernel
theorem kind_count {κ : Nat} (h : κ < 3) : decide (V.str (kindT κ) = V.str "count") = decide (κ = 1) := by
  match κ, h with
  | 0, _ => decide +kernel
  | 1, _ => decide +kernel
  | 2, _ => decide +kernel
theorem kind_same {κ : Nat} (h : κ < 3) : decide (V.str (kindT κ) = V.str "same") = decide (κ = 2) := by
  match κ, h with
  | 0, _ => decide +kernel
  | 1, _ => decide +kernel
  | 2, _ => decide +kernel
section
variable {P : Program} {w : World} {K : PySem.W.Frag} {mg : Str → Option Value} {base : Heap} {C CI CW D : Addr} {κ : Nat}
def spRule : Sp := fun vs H Q _ => ∃ b l z, vs = [.ref b, .str (S z)] ∧ BagL H b l ∧ Pal z ∧ ∀ t pl κ hue ks need H', SameBut b H H' → BagL H' b l → RuleT H' t pl κ hue ks need → t ≠ b → pl ≠ b → Q (.ref t) H'
abbrev nRule : List Str := ["_law_bag_here", "_law_palette_here", "_law_kind", "_law_hue", "_law_parts_here", "_law_need"]
theorem scRule : FnScope nRule ["_law_bag_here", "_law_palette_here"] (defScope lRule) := ⟨rfl, rfl, rfl, by decide +kernel, rfl, by decide +kernel, by decide +kernel⟩
theorem ok_rule {f t p : Addr} {fd td pd : FuncData} (F : Fun K "_law_rule" "_law_rule" lRule f fd) (T : Cl P w K mg base CX0 1 "_law_take" tkNames spTake t td) (Pa : Cl P w K mg base CX0 3 "_law_parts" ["_law_bag_here", "_law_palette_here"] spParts p pd) (L : LTxt K mg) : FnOk P w K mg base CX0 4 f fd ["_law_bag_here", "_law_palette_here"] spRule := by
  refine F.ok scRule (fun vs H Q E h => ?_) (fun cdv A outer s H vs Q E hr h => ?_)
  · obtain ⟨b, l, z, rfl, _⟩ := h
    rfl
  · obtain ⟨b, l, z, rfl, hb, hz, k⟩ := h
    have hr1 : Room 1 _ := hr.mono (by decide)
    refine ⟨_, (pss_cons (ps_set (i := 2) scRule.nd rfl (.inl rfl) (pe_ix ix_list (pe_lst (pa_cons pe_str (pa_cons pe_str (pa_cons pe_str pa_nil)))) (pe_call T.ok hr1 (by rfl) T.gl T.kp T.bd .nil pass0 (pa_cons (pv 0) (pa_cons pe_int pa_nil))) (fun _ _ => rfl)))
      (pss_cons (ps_set (i := 3) scRule.nd rfl (.inl rfl) (pe_ix ix_str (pv 1) (pe_call T.ok hr1 (by rfl) T.gl T.kp T.bd .nil pass0 (pa_cons (pv 0) (pa_cons pe_int pa_nil))) (fun _ _ => rfl)))
      (pss_cons (ps_set (i := 4) scRule.nd rfl (.inl rfl) (pe_call Pa.ok hr (by rfl) Pa.gl Pa.kp Pa.bd .nil pass0 (pa_cons (pv 0) (pa_cons (pv 1) pa_nil))))
      (pss_cons (ps_set (i := 5) scRule.nd rfl (.inl rfl) (pe_call T.ok hr1 (by rfl) T.gl T.kp T.bd .nil pass0 (pa_cons (pv 0) (pa_cons (pe_op op_add (pe_callB call_len_seq (by rfl) L.len PySem.boot_len (pa_cons (pv 4) pa_nil)) pe_int) pa_nil))))
      (pss_cons (ps_if (pt_cmpR op_eq (pv 2) pe_str (nomark _)) (pss_one (ps_set (i := 5) scRule.nd rfl (.inl rfl) (pe_callB call_len_seq (by rfl) L.len PySem.boot_len (pa_cons (pv 4) pa_nil)))) pss_nil)
      (pss_one (ps_ret (pe_tup (pa_cons (pv 2) (pa_cons (pv 3) (pa_cons (pv 4) (pa_cons (pv 5) pa_nil)))))))))))), ?_⟩
    have lz : (S z).length ≤ sizeLine := by rw [len_S, hz.len]; exact small_line (by decide)
    refine ⟨by show 3 ≤ sizeLine; decide, fun q nq => ?_⟩
    have b0 := bag_upd (o := .lst [.str "all", .str "count", .str "same"]) hb nq
    have qb : q ≠ b := fun e => by
      obtain ⟨xs, e2⟩ := bag_b hb
      rw [e, e2] at nq
      cases nq
    refine ⟨_, rfl, b, l, 3, rfl, b0, by decide, by decide, fun n H1 n0 n1 u1 b1 => ?_⟩
    obtain ⟨κ, k3, rfl, ek⟩ := kinds_at n n0 n1
    refine ⟨q, _, _, _, rfl, rfl, SqL.of ((u1 q qb).trans upd_same), ek, ?_⟩
    refine ⟨_, rfl, _, rfl, b, l, 3, rfl, b1, by decide, by decide, fun n2 H2 p0 p1 u2 b2 => ?_⟩
    obtain ⟨d, ed, hd⟩ := pal_at hz p0 p1
    refine ⟨_, n2, d, rfl, rfl, lz, ed, ?_⟩
    refine ⟨_, rfl, _, rfl, b, l, z, rfl, b2, hz, fun pl ks H3 s3 b3 np hc few nd gd => ?_⟩
    have lk : (refC ks).length = ks.length := List.length_map _
    have plb : pl ≠ b := fun e => by
      obtain ⟨xs, e2⟩ := bag_b b2
      rw [e, e2] at np
      cases np
    refine ⟨_, rfl, _, rfl, pl, _, rfl, .inl (SqL.of hc.lst), _, _, rfl, rfl, b, l, _, rfl, b3, by rw [lk]; omega, by rw [lk]; omega, fun m H4 m0 m1 u4 b4 => ?_⟩
    rw [lk] at m1
    have hc4 := hc.sb plb b3 (but_same u4)
    have s02 : SameBut b H H2 := fun a o na e => but_same (u1.trans u2) a o na (same_upd nq _ _ e)
    have s04 : SameBut b H H4 := fun a o na e => but_same u4 a o na (s3 a o na (s02 a o na e))
    have fin : ∀ (m : Int), 0 ≤ m → m ≤ (ks.length : Int) → (κ = 0 → m = (ks.length : Int)) → 4 ≤ sizeLine ∧ ∀ p, H4 p = none → Q (.ref p) (upd H4 p (.tup [.str (kindT κ), .str (S [d]), .ref pl, .int m])) := fun m m0 m1 m2 => by
      refine ⟨by decide, fun t nt => ?_⟩
      have st := same_upd (o := .tup [.str (kindT κ), .str (S [d]), .ref pl, .int m]) nt
      refine k t pl κ d ks m _ (fun a o na e => st _ _ (s04 a o na e)) (bag_sb b4 st) ⟨upd_same, hc4.same st, ⟨k3, hd, by rw [List.length_map]; exact few, ?_, fun c hcm => ?_, m0, by rw [List.length_map]; exact m1, fun e => by rw [List.length_map]; exact m2 e⟩⟩ (fun e => ?_) plb
      · rw [List.map_map]
        exact nd
      · obtain ⟨q', mq, rfl⟩ := List.mem_map.mp hcm
        exact gd q' mq
      · obtain ⟨xs, e2⟩ := bag_b b4
        rw [e, e2] at nt
        cases nt
    refine ⟨_, rfl, rfl, _, rfl, ?_⟩
    rw [kind_all k3]
    by_cases e0 : κ = 0
    · refine iteTe (decide_eq_true e0) ⟨_, rfl, pl, _, rfl, .inl (SqL.of hc4.lst), ?_⟩
      rw [lk]
      exact ⟨_, rfl, _, rfl, _, rfl, _, rfl, fin _ (by omega) (Int.le_refl _) fun _ => rfl⟩
    · refine iteFe (decide_eq_false e0) ?_
      exact ⟨_, rfl, _, rfl, _, rfl, _, rfl, fin m m0 (by omega) fun e => absurd e e0⟩
/-! ### what the law says of its rule -/
def spLaysL : Sp := fun vs H Q _ => ∃ t pl κ hue ks need z, vs = [.ref t, .str (S z)] ∧ RuleT H t pl κ hue ks need ∧ Q (.bl (decide (κ = 2) || decide (z = [hue]))) H
theorem scLaysL : FnScope ["_law_rule_here", "_law_hue"] ["_law_rule_here", "_law_hue"] (defScope lLays) := ⟨rfl, rfl, rfl, by decide +kernel, rfl, by decide +kernel, by decide +kernel⟩
theorem ok_laysL {f : Addr} {fd : FuncData} (F : Fun K "_law_lays" "_law_lays" lLays f fd) : FnOk P w K mg base CX0 1 f fd ["_law_rule_here", "_law_hue"] spLaysL := by
  refine F.ok scLaysL (fun vs H Q E h => ?_) (fun cdv A outer s H vs Q E hr h => ?_)
  · obtain ⟨t, pl, κ, hue, ks, need, z, rfl, _⟩ := h
    rfl
  · obtain ⟨t, pl, κ, hue, ks, need, z, rfl, hR, k⟩ := h
    refine ⟨_, (pss_one (ps_ret (pe_or (pe_cmpR op_eq (pe_ix ix_tup (pv 0) pe_int (fun _ _ => rfl)) pe_str (nomark _)) (pe_one (pe_cmpR op_eq (pe_ix ix_tup (pv 0) pe_int (fun _ _ => rfl)) (pv 1) (nomark _)))))), ?_⟩
    refine ⟨_, rfl, t, _, 0, _, rfl, rfl, SqT.of hR.at_, rfl, rfl, _, rfl, ?_⟩
    rw [kind_same hR.good.k3]
    by_cases e : κ = 2
    · rw [decide_eq_true e] at k ⊢
      exact iteT k
    · rw [decide_eq_false e] at k ⊢
      refine iteF ⟨_, rfl, t, _, 1, _, rfl, rfl, SqT.of hR.at_, rfl, _, rfl, rfl, ?_⟩
      have e2 : decide (V.str (S [hue]) = V.str (S z)) = (false || decide (z = [hue])) := by
        rw [Bool.false_or]
        exact decide_eq_decide.mpr ⟨fun y => (S_inj (V.str.inj y)).symm, fun y => by rw [y]⟩
      rw [e2]
      exact k
end
end Pm
namespace Pm
open PySem PySem.Spec PyProof.Rows L2 SX NdefX
section
variable {P : Program} {w : World} {K : PySem.W.Frag} {mg : Str → Option Value} {base : Heap}
def spGrid : Sp := fun vs H Q _ => ∃ b l z, vs = [.ref b, .str (S z)] ∧ BagL H b l ∧ Pal z ∧
  ∀ p R w H', Grid R w → SameBut b H H' → BagL H' b l → H p = none → H' p = some (.lst (rowsV R)) → (R.length + 4) * (w + 4) ≤ 64 → Q (.ref p) H'
abbrev nGrid : List Str := ["_law_bag_here", "_law_palette_here", "_law_wide", "_law_high", "_law_shape", "_law_k"]
theorem scGrid : FnScope nGrid ["_law_bag_here", "_law_palette_here"] (defScope lGrid) := ⟨rfl, rfl, rfl, by decide +kernel, rfl, by decide +kernel, by decide +kernel⟩
theorem ok_grid {f t g : Addr} {fd td gd : FuncData} (F : Fun K "_law_grid" "_law_grid" lGrid f fd) (T : Cl P w K mg base CX0 1 "_law_take" tkNames spTake t td) (R : Cl P w K mg base CX0 2 "_law_row" ["_law_bag_here", "_law_palette_here", "_law_wide"] spRow g gd) (L : LTxt K mg) :
    FnOk P w K mg base CX0 3 f fd ["_law_bag_here", "_law_palette_here"] spGrid := by
  refine F.ok scGrid (fun vs H Q E h => ?_) (fun cdv A outer s H vs Q E hr h => ?_)
  · obtain ⟨b, l, z, rfl, _⟩ := h
    rfl
  · obtain ⟨b, l, z, rfl, hb, hz, k⟩ := h
    have hr1 : Room 1 _ := hr.mono (by decide)
    refine ⟨_, (pss_cons (ps_set (i := 2) scGrid.nd rfl (.inr rfl) (pe_op op_add pe_int (pe_call T.ok hr1 (by rfl) T.gl T.kp T.bd .nil pass0 (pa_cons (pv 0) (pa_cons pe_int pa_nil)))))
      (pss_cons (ps_set (i := 3) scGrid.nd rfl (.inl rfl) (pe_op op_add pe_int (pe_call T.ok hr1 (by rfl) T.gl T.kp T.bd .nil pass0 (pa_cons (pv 0) (pa_cons pe_int pa_nil)))))
      (pss_cons (ps_set (i := 4) scGrid.nd rfl (.inl rfl) (pe_call T.ok hr1 (by rfl) T.gl T.kp T.bd .nil pass0 (pa_cons (pv 0) (pa_cons pe_int pa_nil))))
      (pss_cons (ps_if (pt_cmpR op_eq (pv 4) pe_int (nomark _)) (pss_cons (ps_set (i := 2) scGrid.nd rfl (.inr rfl) (pe_op op_add (pe_op op_add (pv 2) (pv 3)) pe_int))
        (pss_one (ps_set (i := 3) scGrid.nd rfl (.inl rfl) pe_int))) pss_nil)
      (pss_cons (ps_if (pt_cmpR op_eq (pv 4) pe_int (nomark _)) (pss_cons (ps_set (i := 3) scGrid.nd rfl (.inl rfl) (pe_op op_add (pe_op op_add (pv 2) (pv 3)) pe_int))
        (pss_one (ps_set (i := 2) scGrid.nd rfl (.inr rfl) pe_int))) pss_nil)
      (pss_one (ps_ret (pe_lc (own := [("_law_k", 5)]) (g := (gName 5)) (tt := tYes) rfl scGrid.nd (pi_range1 (by rfl) L.rng (pa_cons (pv 3) pa_nil)) (blkOk_by (own := [("_law_k", 5)]) (N := nGrid) (sc := defScope lGrid) (by decide +kernel)) (fun _ _ _ _ _ => (pg_name (i := 5) scGrid.nd rfl (.inl rfl))) (fun _ _ _ _ _ => pts_nil) (fun _ _ _ _ _ => (pe_call R.ok hr (by rfl) R.gl R.kp R.bd .nil pass0 (pa_cons (pv 0) (pa_cons (pv 1) (pa_cons (pv 2) pa_nil))))))))))))), ?_⟩
    refine ⟨_, rfl, b, l, 4, rfl, hb, by decide, by decide, fun n H1 n0 n1 u1 b1 => ⟨_, _, rfl, rfl, ?_⟩⟩
    refine ⟨_, rfl, b, l, 3, rfl, b1, by decide, by decide, fun m H2 m0 m1 u2 b2 => ⟨_, _, rfl, rfl, ?_⟩⟩
    refine ⟨_, rfl, b, l, 5, rfl, b2, by decide, by decide, fun sh H3 s0 s1 u3 b3 => ?_⟩
    have sb : SameBut b H H3 := but_same ((u1.trans u2).trans u3)
    refine setG ?_
    dsimp only
    refine joinW (fun σ G => ∃ w h, σ = [some (.ref b), some (.str (S z)), some (.int w), some (.int h), some (.int sh), none] ∧ G = H3 ∧ 1 ≤ w ∧ w ≤ 8 ∧ 1 ≤ h ∧ h ≤ 8 ∧ (sh ≠ 0 → w ≤ 4 ∧ h ≤ 3) ∧ (sh = 0 → h = 1)) (fun nx hnx => ?_) ?_
    · refine ifN (fun _ q => ⟨_, rfl, rfl, _, rfl, q⟩) (fun e => ?_) (fun e => ?_)
      · simp at e
        exact ⟨_, rfl, _, rfl, _, _, rfl, rfl, _, _, rfl, rfl, hnx _ _ ⟨(1 + n + (1 + m) + 1 : Int), 1, rfl, rfl, by omega, by omega, by omega, by omega, by omega, by omega⟩⟩
      · simp at e
        exact hnx _ _ ⟨1 + n, 1 + m, rfl, rfl, by omega, by omega, by omega, by omega, by omega, by omega⟩
    rintro σ G ⟨w1, h1, rfl, rfl, wa, wb, ha, hb', w4, h0⟩
    refine joinW (fun σ G' => ∃ w h, σ = [some (.ref b), some (.str (S z)), some (.int w), some (.int h), some (.int sh), none] ∧ G' = G ∧ 1 ≤ w ∧ w ≤ 8 ∧ 1 ≤ h ∧ h ≤ 8 ∧ ((w ≤ 4 ∧ h ≤ 3) ∨ w = 1 ∨ h = 1)) (fun nx hnx => ?_) ?_
    · refine ifN (fun _ q => ⟨_, rfl, rfl, _, rfl, q⟩) (fun e => ?_) (fun e => ?_)
      · simp at e
        have := w4 (by omega)
        exact ⟨_, rfl, _, rfl, _, _, rfl, rfl, _, _, rfl, rfl, hnx _ _ ⟨1, w1 + h1 + 1, rfl, rfl, by omega, by omega, by omega, by omega, .inr (.inl rfl)⟩⟩
      · exact hnx _ _ ⟨w1, h1, rfl, rfl, wa, wb, ha, hb', by omega⟩
    clear wa wb ha hb' w4 h0
    rintro σ G' ⟨w2, h2, rfl, rfl, wa, wb, ha, hb', shp⟩
    refine ⟨_, rfl, h2, rfl, by omega, by omega, fun D nD => ?_⟩
    have nDb : D ≠ b := fun e => by
      obtain ⟨xs, e2⟩ := bag_b b3
      rw [e, e2] at nD
      cases nD
    have nDl : D ≠ l := fun e => by
      obtain ⟨xs, e2⟩ := bag_l b3
      rw [e, e2] at nD
      cases nD
    have nD0 : H D = none := by
      cases e : H D with
      | none => rfl
      | some o =>
        have := sb D o nDb e
        rw [this] at nD
        cases nD
    refine lc_range (lo := 0) (n := h2.toNat) (fun i G => ∃ R : Rows, R.length = i ∧ (∀ r ∈ R, (r.length : Int) = w2 ∧ ∀ c ∈ r, Good c) ∧ SameBut b H G ∧ BagL G b l ∧ G D = some (.lst (rowsV R))) ⟨[], rfl, (fun r hr => nomatch hr), fun a o ha e => ?_, bag_upd b3 nD, upd_same⟩ ?_ ?_
    · rw [upd_ne (ne_of_none (sb a o ha e) nD)]
      exact sb a o ha e
    · rintro i G hi ⟨R, lR, gR, sG, bG, hD⟩
      refine ⟨rfl, tyes (iteT ⟨_, rfl, _, rfl, _, rfl, b, l, z, w2, rfl, bG, hz, by omega, by omega, fun r G1 lr gr u3 b3 => ⟨rowsV R, (u3 D nDb).trans hD, ?_, R ++ [r], ?_, ?_, fun a o ha e => ?_, ?_, ?_⟩⟩)⟩
      · rw [rowsV_len]
        exact small1000 (by omega)
      · rw [List.length_append, lR]
        rfl
      · intro q hq
        rcases List.mem_append.mp hq with y | y
        · exact gR q y
        · rw [List.mem_singleton.mp y]
          exact ⟨lr, gr⟩
      · rw [upd_ne (ne_of_none e nD0)]
        exact (u3 a ha).trans (sG a o ha e)
      · exact bag_ne b3 nDb nDl
      · rw [upd_same]
        unfold rowsV
        rw [List.map_append]
        rfl
    · rintro G ⟨R, lR, gR, sG, bG, hD⟩
      refine k D R w2.toNat G ⟨by omega, by omega, by omega, by omega, fun r hr => by have := (gR r hr).1; omega, fun r hr => (gR r hr).2⟩ sG bG nD0 hD ?_
      rw [lR]
      rcases shp with ⟨p1, p2⟩ | p1 | p1
      · exact Nat.le_trans (Nat.mul_le_mul (show h2.toNat + 4 ≤ 7 by omega) (show w2.toNat + 4 ≤ 8 by omega)) (by decide)
      · exact Nat.le_trans (Nat.mul_le_mul (show h2.toNat + 4 ≤ 12 by omega) (show w2.toNat + 4 ≤ 5 by omega)) (by decide)
      · exact Nat.le_trans (Nat.mul_le_mul (show h2.toNat + 4 ≤ 5 by omega) (show w2.toNat + 4 ≤ 12 by omega)) (by decide)
end
end Pm
namespace Pm
open PySem PySem.Spec PyProof.Rows L2 SX NdefX
theorem refs_len (ks : CL) : (refs ks).length = ks.length := List.length_map _
theorem cells_len (ks : CL) : (cellsOf ks).length = ks.length := List.length_map _
def flip1 (c : Cell) : Cell := (c.2, c.1)
theorem cl_of {H : Hp} : ∀ {ys : List V}, (∀ y ∈ ys, ∃ t c, y = .ref t ∧ H t = some (CellO c)) → ∃ ks : CL, refs ks = ys ∧ Tups H ks
  | [], _ => ⟨[], rfl, fun p hp => nomatch hp⟩
  | y :: ys, h => by
    obtain ⟨t, c, e, ht⟩ := h y List.mem_cons_self
    obtain ⟨ks, e2, hk⟩ := cl_of fun z hz => h z (List.mem_cons_of_mem _ hz)
    refine ⟨(t, c) :: ks, ?_, fun p hp => ?_⟩
    · show V.ref t :: refs ks = y :: ys
      rw [e2, e]
    · rcases List.mem_cons.mp hp with z | z
      · rw [z]
        exact ht
      · exact hk p z
/-- the cell that stands at a value -/
def kH (H : Hp) (x : V) : Cell := match x with
  | .ref t => match H t with
    | some (.tup [.int a, .int b]) => (a, b)
    | _ => (0, 0)
  | _ => (0, 0)
theorem kH_at {H : Hp} {t : Addr} {c : Cell} (h : H t = some (CellO c)) : kH H (.ref t) = c := by
  show (match H t with
    | some (.tup [.int a, .int b]) => ((a, b) : Cell)
    | _ => (0, 0)) = c
  rw [h]
  rfl
theorem kH_refs {H : Hp} : ∀ {ks : CL}, Tups H ks → (refs ks).map (kH H) = cellsOf ks
  | [], _ => rfl
  | p :: ks, t => by
    show kH H (.ref p.1) :: (refs ks).map (kH H) = p.2 :: cellsOf ks
    rw [kH_at (t p List.mem_cons_self), kH_refs fun q hq => t q (List.mem_cons_of_mem _ hq)]
/-- one more cell in a list that is new since G1 -/
theorem cellMore {G1 G3 : Hp} {D T : Addr} {ms : CL} {c : Cell} (lm : ms.length ≤ 1000) (nD : G1 D = none) (sm : Same G1 G3) (hD : G3 D = some (.lst (refs ms))) (hm : Tups G3 ms) (hT : G3 T = some (CellO c)) :
    (refs ms).length < sizeLine ∧ Same G1 (upd G3 D (.lst (refs ms ++ [.ref T]))) ∧ upd G3 D (.lst (refs ms ++ [.ref T])) D = some (.lst (refs (ms ++ [(T, c)]))) ∧ Tups (upd G3 D (.lst (refs ms ++ [.ref T]))) (ms ++ [(T, c)]) := by
  have ne : ∀ {a : Addr} {ys : List V}, G3 a = some (.tup ys) → a ≠ D := fun h e => by rw [e, hD] at h; cases h
  refine ⟨by rw [refs_len]; exact small1000 lm, fun b o e => ?_, ?_, fun p hp => ?_⟩
  · rw [upd_ne (ne_of_none e nD)]
    exact sm _ _ e
  · rw [upd_same]
    unfold refs
    rw [List.map_append]
    rfl
  · rcases List.mem_append.mp hp with z | z
    · have g := hm p z
      rw [upd_ne (ne g)]
      exact g
    · rw [List.mem_singleton.mp z, upd_ne (ne hT)]
      exact hT
theorem cellsOf_snoc (ms : CL) (T : Addr) (c : Cell) : cellsOf (ms ++ [(T, c)]) = cellsOf ms ++ [c] := by
  unfold cellsOf
  rw [List.map_append]
  rfl
/-- sorted by rows, then by columns -/
def RdOrd (M : List Cell) : Prop := M.Pairwise fun p q => SrtO.lexB (flip1 q) (flip1 p) = false
section
variable {P : Program} {w : World} {K : PySem.W.Frag} {mg : Str → Option Value} {base : Heap}
def spReading : Sp := fun vs H Q _ => ∃ a ks, vs = [.ref a] ∧ H a = some (.lst (refs ks)) ∧ Tups H ks ∧ ks.length ≤ 1000 ∧
  ∀ p ms H', Same H H' → H p = none → H' p = some (.lst (refs ms)) → Tups H' ms → (cellsOf ms).Perm (cellsOf ks) → RdOrd (cellsOf ms) → Q (.ref p) H'
abbrev nReading : List Str := ["_law_cells", "_law_pair", "_law_cell"]
theorem scReading : FnScope nReading ["_law_cells"] (defScope lReading) := ⟨rfl, rfl, rfl, by decide +kernel, rfl, by decide +kernel, by decide +kernel⟩
theorem ok_reading {f : Addr} {fd : FuncData} (F : Fun K "_law_reading" "_law_reading" lReading f fd) (T : STxt K mg) : FnOk P w K mg base CX0 1 f fd ["_law_cells"] spReading := by
  refine F.ok scReading (fun vs H Q E h => ?_) (fun cdv A outer s H vs Q E hr h => ?_)
  · obtain ⟨a, ks, rfl, _⟩ := h
    rfl
  · obtain ⟨a, ks, rfl, ha, ht, few, k⟩ := h
    refine ⟨_, pss_one (ps_ret (pe_lc (own := [("_law_pair", 1)]) (g := gName 1) (tt := tYes) (te := tTup (tCons (tOp (rIxT K) (tVar 1) (tC (.int 1))) (tCons (tOp (rIxT K) (tVar 1) (tC (.int 0))) tNil))) rfl scReading.nd
      (pi_list (pe_callB cr_sortedPO (by rfl) T.srt (by decide +kernel) (pa_cons (pe_lc (own := [("_law_cell", 2)]) (g := gName 2) (tt := tYes) (te := tTup (tCons (tOp (rIxT K) (tVar 2) (tC (.int 1))) (tCons (tOp (rIxT K) (tVar 2) (tC (.int 0))) tNil))) rfl scReading.nd (pi_list (pv 0))
        (blkOk_by (own := [("_law_cell", 2)]) (N := nReading) (sc := defScope lReading) (by decide +kernel)) (fun _ _ _ _ _ => pg_name (i := 2) scReading.nd rfl (Or.inl rfl)) (fun _ _ _ _ _ => pts_nil)
        (fun _ _ _ _ _ => pe_tup (pa_cons (pe_ix ix_tup (pv 2) pe_int (fun _ _ => rfl)) (pa_cons (pe_ix ix_tup (pv 2) pe_int (fun _ _ => rfl)) pa_nil)))) pa_nil)))
      (blkOk_by (own := [("_law_pair", 1)]) (N := nReading) (sc := defScope lReading) (by decide +kernel)) (fun _ _ _ _ _ => pg_name (i := 1) scReading.nd rfl (Or.inl rfl)) (fun _ _ _ _ _ => pts_nil)
      (fun _ _ _ _ _ => pe_tup (pa_cons (pe_ix ix_tup (pv 1) pe_int (fun _ _ => rfl)) (pa_cons (pe_ix ix_tup (pv 1) pe_int (fun _ _ => rfl)) pa_nil))))), ?_⟩
    refine ⟨_, rfl, a, rfl, ⟨_, SqL.of ha⟩, fun D nD => lc_list (K := K) (a := a) (xs := refs ks) (fun i G => ∃ ms : CL, Same H G ∧ G D = some (.lst (refs ms)) ∧ Tups G ms ∧ cellsOf ms = ((cellsOf ks).take i).map flip1)
      ⟨[], same_upd nD, upd_same, (fun p hp => nomatch hp), rfl⟩ (fun i G _ ⟨_, sm, _⟩ => SqL.of (sm _ _ ha)) ?_ ?_⟩
    · rintro i x G hx ⟨ms, sm, hD, hm, em⟩
      obtain ⟨t, c, hi, rfl⟩ := refs_at hx
      have htc : G t = some (CellO c) := sm _ _ (ht _ (List.mem_of_getElem? hi))
      refine ⟨rfl, tyes (iteT ⟨_, rfl, t, _, 1, _, rfl, rfl, SqT.of htc, rfl, _, rfl, t, _, 0, _, rfl, rfl, SqT.of htc, rfl, (by show 2 ≤ sizeLine; decide), fun T' nT => ?_⟩)⟩
      have lm : ms.length ≤ 1000 := by
        have z := congrArg List.length em
        rw [cells_len, List.length_map, List.length_take, cells_len] at z
        omega
      have hci : (cellsOf ks)[i]? = some c := by
        unfold cellsOf
        rw [List.getElem?_map, hi]
        rfl
      have z1 := same_upd (o := CellO (flip1 c)) nT
      obtain ⟨a1, a2, a3, a4⟩ := cellMore lm nD (fun b o e => z1 _ _ (sm _ _ e)) (z1 _ _ hD) (fun p hp => z1 _ _ (hm p hp)) (upd_same (H := G) (a := T') (o := CellO (flip1 c)))
      refine ⟨refs ms, z1 _ _ hD, a1, ms ++ [(T', flip1 c)], a2, a3, a4, ?_⟩
      rw [cellsOf_snoc, em, List.take_add_one, hci, List.map_append]
      rfl
    · rintro G ⟨ms, sm, hD, hm, em⟩
      rw [refs_len, List.take_of_length_le (by rw [cells_len]; exact Nat.le_refl _)] at em
      refine ⟨D, refs ms, kH G, rfl, SqL.of hD, fun x hx => ?_, fun ys p srt stb np => ?_⟩
      · obtain ⟨j, hj, e⟩ := List.getElem_of_mem hx
        obtain ⟨t, c, hi, e2⟩ := refs_at (show (refs ms)[j]? = some x by rw [List.getElem?_eq_getElem hj, e])
        have g := hm _ (List.mem_of_getElem? hi)
        refine ⟨t, e2, ?_⟩
        rw [e2, kH_at g]
        exact g
      · have sp := same_upd (o := .lst ys) np
        obtain ⟨qs, eq, hq⟩ := cl_of (H := G) (ys := ys) fun y hy => by
          obtain ⟨j, hj, e⟩ := List.getElem_of_mem (stb.perm.mem_iff.mp hy)
          obtain ⟨t, c, hi, e2⟩ := refs_at (show (refs ms)[j]? = some y by rw [List.getElem?_eq_getElem hj, e])
          exact ⟨t, c, e2, hm _ (List.mem_of_getElem? hi)⟩
        have pmc : (cellsOf qs).Perm (cellsOf ms) := by
          rw [← kH_refs hq, ← kH_refs hm, eq]
          exact stb.perm.map _
        have lq : qs.length = ks.length := by
          have z := pmc.length_eq
          rw [cells_len, em, List.length_map, cells_len] at z
          exact z
        have ascq : (cellsOf qs).Pairwise (fun x y => SrtO.lexB y x = false) := by
          rw [← kH_refs hq, eq]
          exact List.pairwise_map.mpr srt
        refine ⟨p, rfl, ⟨_, SqL.of upd_same⟩, fun D2 nD2 => lc_list (K := K) (a := p) (xs := ys) (fun i G2 => ∃ rs : CL, Same (upd G p (.lst ys)) G2 ∧ G2 D2 = some (.lst (refs rs)) ∧ Tups G2 rs ∧ cellsOf rs = ((cellsOf qs).take i).map flip1)
          ⟨[], same_upd nD2, upd_same, (fun p hp => nomatch hp), rfl⟩ (fun i G2 _ ⟨_, s2, _⟩ => SqL.of (s2 _ _ upd_same)) ?_ ?_⟩
        · rintro i x G2 hx ⟨rs, s2, hD2, hrs, ers⟩
          rw [← eq] at hx
          obtain ⟨t, c, hi, rfl⟩ := refs_at hx
          have htc : G2 t = some (CellO c) := s2 _ _ (sp _ _ (hq _ (List.mem_of_getElem? hi)))
          refine ⟨rfl, tyes (iteT ⟨_, rfl, t, _, 1, _, rfl, rfl, SqT.of htc, rfl, _, rfl, t, _, 0, _, rfl, rfl, SqT.of htc, rfl, (by show 2 ≤ sizeLine; decide), fun T' nT => ?_⟩)⟩
          have lm : rs.length ≤ 1000 := by
            have z := congrArg List.length ers
            rw [cells_len, List.length_map, List.length_take, cells_len] at z
            omega
          have hci : (cellsOf qs)[i]? = some c := by
            unfold cellsOf
            rw [List.getElem?_map, hi]
            rfl
          have z1 := same_upd (o := CellO (flip1 c)) nT
          obtain ⟨a1, a2, a3, a4⟩ := cellMore lm nD2 (fun b o e => z1 _ _ (s2 _ _ e)) (z1 _ _ hD2) (fun p hp => z1 _ _ (hrs p hp)) (upd_same (H := G2) (a := T') (o := CellO (flip1 c)))
          refine ⟨refs rs, z1 _ _ hD2, a1, rs ++ [(T', flip1 c)], a2, a3, a4, ?_⟩
          rw [cellsOf_snoc, ers, List.take_add_one, hci, List.map_append]
          rfl
        · rintro G2 ⟨rs, s2, hD2, hrs, ers⟩
          rw [← eq, refs_len, List.take_of_length_le (by rw [cells_len]; exact Nat.le_refl _)] at ers
          have sAll : Same H G2 := fun b o e => s2 _ _ (sp _ _ (sm _ _ e))
          have sHp : Same H (upd G p (.lst ys)) := fun b o e => sp _ _ (sm _ _ e)
          have n2 : H D2 = none := back sHp nD2
          refine k D2 rs G2 sAll n2 hD2 hrs ?_ ?_
          · rw [ers]
            have e := pmc.map flip1
            rw [em, List.map_map] at e
            have e2 : (cellsOf ks).map (flip1 ∘ flip1) = cellsOf ks := (List.map_congr_left fun c _ => rfl).trans (List.map_id _)
            rwa [e2] at e
          · unfold RdOrd
            rw [ers]
            exact List.pairwise_map.mpr (ascq.imp fun {x y} h => h)
def spSubset : Sp := fun vs H Q _ => ∃ b l p ks sh, vs = [.ref b, .ref p, .int sh] ∧ BagL H b l ∧ H p = some (.lst (refs ks)) ∧ Tups H ks ∧ p ≠ b ∧ 0 < sh ∧ sh < 1000 ∧ ks.length ≤ 1000 ∧
  ∀ q ms H', SameBut b H H' → BagL H' b l → H q = none → H' q = some (.lst (refs ms)) → Tups H' ms → (cellsOf ms).Sublist (cellsOf ks) → Q (.ref q) H'
abbrev nSubset : List Str := ["_law_bag_here", "_law_cells", "_law_share", "_law_found", "_law_cell", "_law_pick"]
theorem scSubset : FnScope nSubset ["_law_bag_here", "_law_cells", "_law_share"] (defScope lSubset) := ⟨rfl, rfl, rfl, by decide +kernel, rfl, by decide +kernel, by decide +kernel⟩
theorem ok_subset {f t : Addr} {fd td : FuncData} (F : Fun K "_law_subset" "_law_subset" lSubset f fd) (T : Cl P w K mg base CX0 1 "_law_take" tkNames spTake t td) : FnOk P w K mg base CX0 2 f fd ["_law_bag_here", "_law_cells", "_law_share"] spSubset := by
  refine F.ok scSubset (fun vs H Q E h => ?_) (fun cdv A outer s H vs Q E hr h => ?_)
  · obtain ⟨b, l, p, ks, sh, rfl, _⟩ := h
    rfl
  · obtain ⟨b, l, p, ks, sh, rfl, hb, hp, ht, pb, s0, s1, few, k⟩ := h
    refine ⟨_, (pss_cons (ps_set (i := 3) scSubset.nd rfl (.inl rfl) (pe_lst pa_nil))
      (pss_cons (ps_for PassesOwn.never rfl (pi_list (pv 1)) (pg_name (i := 4) scSubset.nd rfl (.inl rfl)) (pss_cons (ps_set (i := 5) scSubset.nd rfl (.inl rfl) (pe_call T.ok hr (by rfl) T.gl T.kp T.bd .nil pass0 (pa_cons (pv 0) (pa_cons (pv 2) pa_nil))))
        (pss_one (ps_if (pt_cmpR op_eq (pv 5) pe_int (nomark _)) (pss_one (ps_expr (pe_bm PySem.F.plainAttrs_list PySem.F.slot_list_append PySem.F.type_list_append mt_append (pv 3) (pa_cons (pv 4) pa_nil)))) pss_nil))))
      (pss_one (ps_ret (pv 3))))), ?_⟩
    refine ⟨by show 0 ≤ sizeLine; decide, fun D nD => ?_⟩
    have z0 := same_upd (o := .lst []) nD
    have nDb : D ≠ b := fun e => by
      obtain ⟨xs, e2⟩ := bag_b hb
      rw [e, e2] at nD
      cases nD
    have nDl : D ≠ l := fun e => by
      obtain ⟨xs, e2⟩ := bag_l hb
      rw [e, e2] at nD
      cases nD
    obtain ⟨xb, hxb⟩ := bag_b hb
    have tb : ∀ {a : Addr} {ys : List V}, H a = some (.tup ys) → a ≠ b := fun h e => by rw [e, hxb] at h; cases h
    refine ⟨_, rfl, p, rfl, ⟨_, SqL.of (z0 _ _ hp)⟩, for_list (K := K) (a := p) (xs := refs ks) (fun i σ G => ∃ y4 y5 ms, σ = [some (.ref b), some (.ref p), some (.int sh), some (.ref D), y4, y5] ∧ SameBut b H G ∧ BagL G b l ∧ G D = some (.lst (refs ms)) ∧ Tups G ms ∧ ms.length ≤ i ∧ (cellsOf ms).Sublist ((cellsOf ks).take i)) ⟨_, _, [], rfl, fun a o ne e => z0 _ _ e, bag_upd hb nD, upd_same, (fun p hp => nomatch hp), Nat.le_refl _, List.Sublist.slnil⟩ (fun i σ G _ h => ?_) ?_ ?_⟩
    · obtain ⟨_, _, _, _, sG, _⟩ := h
      exact SqL.of (sG _ _ pb hp)
    · rintro i x σ G hx ⟨y4, y5, ms, rfl, sG, bG, hD, hm, lm, sub⟩
      obtain ⟨t1, c, hi, rfl⟩ := refs_at hx
      have li : i < ks.length := (List.getElem?_eq_some_iff.mp hi).1
      have hci : (cellsOf ks)[i]? = some c := by
        unfold cellsOf
        rw [List.getElem?_map, hi]
        rfl
      have tkc : (cellsOf ks).take (i + 1) = (cellsOf ks).take i ++ [c] := by
        rw [List.take_add_one, hci]
        rfl
      have ht1 := ht _ (List.mem_of_getElem? hi)
      refine ⟨_, rfl, _, rfl, b, l, sh, rfl, bG, s0, by omega, fun v G2 v0 v1 u2 b2 => ?_⟩
      have hD2 := (u2 D nDb).trans hD
      have sG2 : SameBut b H G2 := fun a o ne e => by rw [u2 a ne]; exact sG a o ne e
      have hm2 : Tups G2 ms := fun q hq => by
        have e := hm q hq
        obtain ⟨xg, hxg⟩ := bag_b bG
        rw [u2 q.1 (fun e2 => by rw [e2, hxg] at e; cases e)]
        exact e
      have htc : G2 t1 = some (CellO c) := sG2 _ _ (tb ht1) ht1
      refine setG ?_
      dsimp only
      refine ifN (fun _ q => ⟨_, rfl, rfl, _, rfl, q⟩) (fun e => ?_) (fun e => ⟨_, _, ms, rfl, sG2, b2, hD2, hm2, by omega, by rw [tkc]; exact sub.trans (List.sublist_append_left _ _)⟩)
      obtain ⟨a1, a2, a3, a4⟩ := cellMore (G1 := fun a => if a = D then none else G2 a) (by omega) (by simp) (fun a o e => by
        by_cases h : a = D
        · simp [h] at e
        · simpa [h] using e) hD2 hm2 htc
      refine ⟨_, rfl, .inl ⟨rfl, _, SqL.of hD2⟩, _, rfl, D, _, _, rfl, rfl, hD2, a1, ?_⟩
      refine ⟨_, _, ms ++ [(t1, c)], rfl, fun a o ne e => ?_, bag_ne b2 nDb nDl, a3, a4, by rw [List.length_append]; show ms.length + 1 ≤ i + 1; omega, ?_⟩
      · rw [upd_ne (ne_of_none e nD)]
        exact sG2 a o ne e
      · rw [cellsOf_snoc, tkc]
        exact List.Sublist.append sub (List.Sublist.refl _)
    · rintro σ G ⟨y4, y5, ms, rfl, sG, bG, hD, hm, lm, sub⟩
      rw [refs_len, List.take_of_length_le (by rw [cells_len]; exact Nat.le_refl _)] at sub
      exact ⟨_, rfl, k D ms G sG bG nD hD hm sub⟩
end
end Pm
namespace Pm
open PySem PySem.Spec PyProof.Rows L2 SX NdefX
def placeC (x y : Int) (c : Cnd) : Cell := (x + c.1.1, y + c.1.2)
def clashC (R : Rows) (M : List Cell) (x y : Int) (κ : Nat) (z : List Nat) (c : Cnd) : Bool := clashB R M (if κ = 2 then z else c.2) (placeC x y c)
def foundL (R : Rows) (M : List Cell) (x y : Int) (κ : Nat) (z : List Nat) (cs : List Cnd) : List Cell := (cs.filter (clashC R M x y κ z)).map (placeC x y)
theorem one_str {a b : Nat} : decide (V.str (S [a]) = V.str (S [b])) = decide (a = b) := by
  refine decide_eq_decide.mpr ⟨fun h => ?_, fun h => by rw [h]⟩
  have := congrArg unS (V.str.inj h)
  rw [unS_S, unS_S] at this
  exact (List.cons.inj this).1
theorem not_f {b : Bool} (h : (!b) = false) : b = true := by
  cases b
  · cases h
  · rfl
theorem hash1 : ("#" : Str) = S [35] := by decide +kernel
section
variable {P : Program} {w : World} {K : PySem.W.Frag} {mg : Str → Option Value} {base : Heap}
def spClashing : Sp := fun vs H Q _ => ∃ t pl κ hue ks need rl R n x y z p fs, vs = [.ref t, .ref rl, .int x, .int y, .str (S z), .ref p] ∧ RuleT H t pl κ hue ks need ∧ H rl = some (.lst (rowsV R)) ∧ Grid R n ∧ z.length ≤ 1000 ∧ H p = some (.lst (refs fs)) ∧ Tups H fs ∧
  ∀ q ms H', Same H H' → H q = none → H' q = some (.lst (refs ms)) → Tups H' ms → (cellsOf ms).Perm (foundL R (cellsOf fs) x y κ z (ks.map (·.2))) → RdOrd (cellsOf ms) → Q (.ref q) H'
abbrev nClashing : List Str := ["_law_rule_here", "_law_rows", "_law_cx", "_law_cy", "_law_hue", "_law_free", "_law_found", "_law_part", "_law_place", "_law_sign_here", "_law_wanted"]
theorem scClashing : FnScope nClashing ["_law_rule_here", "_law_rows", "_law_cx", "_law_cy", "_law_hue", "_law_free"] (defScope lClashing) := ⟨rfl, rfl, rfl, by decide +kernel, rfl, by decide +kernel, by decide +kernel⟩
theorem ok_clashing {f a1 a2 : Addr} {fd b1 b2 : FuncData} (F : Fun K "_law_clashing" "_law_clashing" lClashing f fd) (cSg : Cl P w K mg base CX0 1 "_law_sign" ["_law_rows", "_law_cx", "_law_cy"] spSign a1 b1) (cRd : Cl P w K mg base CX0 1 "_law_reading" ["_law_cells"] spReading a2 b2) :
    FnOk P w K mg base CX0 2 f fd ["_law_rule_here", "_law_rows", "_law_cx", "_law_cy", "_law_hue", "_law_free"] spClashing := by
  refine F.ok scClashing (fun vs H Q E h => ?_) (fun cdv A outer s H vs Q E hr h => ?_)
  · obtain ⟨t, pl, κ, hue, ks, need, rl, R, n, x, y, z, p, fs, rfl, _⟩ := h
    rfl
  · obtain ⟨t, pl, κ, hue, ks, need, rl, R, n, x, y, z, p, fs, rfl, hT, hrl, g, lz, hp, hf, k⟩ := h
    refine ⟨_, (pss_cons (ps_set (i := 6) scClashing.nd rfl (.inl rfl) (pe_lst pa_nil))
      (pss_cons (ps_for PassesOwn.never rfl (pi_list (pe_ix ix_tup (pv 0) pe_int (fun _ _ => rfl))) (pg_name (i := 7) scClashing.nd rfl (.inl rfl)) (pss_cons (ps_set (i := 8) scClashing.nd rfl (.inl rfl) (pe_tup (pa_cons (pe_op op_add (pv 2) (pe_ix ix_tup (pv 7) pe_int (fun _ _ => rfl))) (pa_cons (pe_op op_add (pv 3) (pe_ix ix_tup (pv 7) pe_int (fun _ _ => rfl))) pa_nil))))
        (pss_cons (ps_set (i := 9) scClashing.nd rfl (.inl rfl) (pe_call cSg.ok hr (by rfl) cSg.gl cSg.kp cSg.bd .nil pass0 (pa_cons (pv 1) (pa_cons (pe_ix ix_tup (pv 8) pe_int (fun _ _ => rfl)) (pa_cons (pe_ix ix_tup (pv 8) pe_int (fun _ _ => rfl)) pa_nil)))))
        (pss_cons (ps_set (i := 10) scClashing.nd rfl (.inl rfl) (pe_ix ix_tup (pv 7) pe_int (fun _ _ => rfl)))
        (pss_cons (ps_if (pt_cmpR op_eq (pe_ix ix_tup (pv 0) pe_int (fun _ _ => rfl)) pe_str (nomark _)) (pss_one (ps_set (i := 10) scClashing.nd rfl (.inl rfl) (pv 4))) pss_nil)
        (pss_one (ps_if (PW.pt (pw_and (pt_cmpR op_ne (pv 9) pe_str (nomark _)) (pw_and (PW.pt (pw_or (pt_cmpR op_eq (pv 9) pe_str (nomark _)) (pw_or1 (pt_cmpR (op_notInD (hu65r hr)) (pv 8) (pv 5) (by rfl))))) (pw_and1 (pt_cmpR op_notIn_sign (pv 9) (pv 10) (by rfl)))))) (pss_one (ps_expr (pe_bm PySem.F.plainAttrs_list PySem.F.slot_list_append PySem.F.type_list_append mt_append (pv 6) (pa_cons (pv 8) pa_nil)))) pss_nil)))))))
      (pss_one (ps_ret (pe_call cRd.ok hr (by rfl) cRd.gl cRd.kp cRd.bd .nil pass0 (pa_cons (pv 6) pa_nil)))))), ?_⟩
    have k3 := hT.good.k3
    have few : ks.length ≤ 8 := by
      have := hT.good.few
      rwa [List.length_map] at this
    refine ⟨by show 0 ≤ sizeLine; decide, fun D nD => ?_⟩
    have z0 := same_upd (o := .lst []) nD
    refine ⟨_, rfl, t, _, 2, _, rfl, rfl, SqT.of (z0 _ _ hT.at_), rfl, pl, rfl, ⟨_, SqL.of (z0 _ _ hT.cs.lst)⟩, for_list (K := K) (a := pl) (xs := refC ks) (fun i σ G => ∃ y7 y8 y9 y10 ms, σ = [some (.ref t), some (.ref rl), some (.int x), some (.int y), some (.str (S z)), some (.ref p), some (.ref D), y7, y8, y9, y10] ∧ Same H G ∧ G D = some (.lst (refs ms)) ∧ Tups G ms ∧ cellsOf ms = foundL R (cellsOf fs) x y κ z ((ks.take i).map (·.2))) ⟨_, _, _, _, [], rfl, z0, upd_same, (fun p hp => nomatch hp), rfl⟩ (fun i σ G _ h => ?_) ?_ ?_⟩
    · obtain ⟨_, _, _, _, _, _, sG, _⟩ := h
      exact SqL.of (sG _ _ hT.cs.lst)
    · rintro i v σ G hx ⟨y7, y8, y9, y10, ms, rfl, sG, hD, hm, em⟩
      obtain ⟨t1, c, hi, rfl⟩ := refC_at hx
      have hTG := hT.same sG
      have htc := sG _ _ (hT.cs.each _ (List.mem_of_getElem? hi))
      refine ⟨_, rfl, _, rfl, t1, _, 0, _, rfl, rfl, SqT.of htc, rfl, _, _, rfl, rfl, _, rfl, _, rfl, t1, _, 1, _, rfl, rfl, SqT.of htc, rfl, _, _, rfl, rfl, by show 2 ≤ sizeLine; decide, fun T nT => ?_⟩
      have z1 := same_upd (o := CellO (placeC x y c)) nT
      have hT1 : upd G T (CellO (placeC x y c)) T = some (CellO (placeC x y c)) := upd_same
      have es : signAt R (x + c.1.1) (y + c.1.2) = [sgn R (placeC x y c)] := sign_sgn R (placeC x y c)
      refine ⟨_, rfl, _, rfl, T, _, 0, _, rfl, rfl, SqT.of hT1, rfl, _, rfl, T, _, 1, _, rfl, rfl, SqT.of hT1, rfl, rl, R, n, x + c.1.1, y + c.1.2, rfl, z1 _ _ (sG _ _ hrl), g, ?_⟩
      rw [es]
      refine ⟨_, rfl, t1, _, 2, _, rfl, rfl, SqT.of (z1 _ _ htc), rfl, ?_⟩
      refine setG ?_
      dsimp only
      refine joinW (fun σ' G' => ∃ wz, σ' = [some (.ref t), some (.ref rl), some (.int x), some (.int y), some (.str (S z)), some (.ref p), some (.ref D), some (.ref t1), some (.ref T), some (.str (S [sgn R (placeC x y c)])), some (.str (S wz))] ∧ Same G G' ∧ G' T = some (CellO (placeC x y c)) ∧ wz = (if κ = 2 then z else c.2)) (fun nx hnx => ?_) ?_
      · refine ifN (fun _ q => ⟨_, rfl, t, _, 0, _, rfl, rfl, SqT.of (z1 _ _ hTG.at_), rfl, rfl, _, rfl, q⟩) (fun e => ?_) (fun e => ?_)
        · rw [kind_same k3] at e
          have k2 : κ = 2 := by simpa using e
          exact ⟨_, rfl, hnx _ _ ⟨z, rfl, z1, hT1, (if_pos k2).symm⟩⟩
        · rw [kind_same k3] at e
          have k2 : κ ≠ 2 := by simpa using e
          exact hnx _ _ ⟨c.2, rfl, z1, hT1, (if_neg k2).symm⟩
      rintro σ' G' ⟨wz, rfl, s1, hT', ew⟩
      have tk : ks.take (i + 1) = ks.take i ++ [(t1, c)] := by
        rw [List.take_add_one, hi]
        rfl
      have eb : clashC R (cellsOf fs) x y κ z c = (decide (sgn R (placeC x y c) ≠ 46) && ((decide (sgn R (placeC x y c) = 35) || !decide (placeC x y c ∈ cellsOf fs)) && !decide (sgn R (placeC x y c) ∈ wz))) := by
        unfold clashC clashB
        rw [← ew]
        by_cases h : sgn R (placeC x y c) = 35 <;> simp [h]
      have fnd : foundL R (cellsOf fs) x y κ z ((ks.take (i + 1)).map (·.2)) = foundL R (cellsOf fs) x y κ z ((ks.take i).map (·.2)) ++ (if clashC R (cellsOf fs) x y κ z c = true then [placeC x y c] else []) := by
        unfold foundL
        rw [tk, List.map_append, List.filter_append, List.map_append]
        congr 1
        show (([c] : List Cnd).filter (clashC R (cellsOf fs) x y κ z)).map (placeC x y) = _
        cases hh : clashC R (cellsOf fs) x y κ z c <;> simp [List.filter, hh]
      have lm : ms.length ≤ 1000 := by
        have := congrArg List.length em
        rw [cells_len] at this
        unfold foundL at this
        rw [List.length_map] at this
        have f := List.length_filter_le (clashC R (cellsOf fs) x y κ z) ((ks.take i).map (·.2))
        rw [List.length_map, List.length_take] at f
        omega
      refine ifN (b := clashC R (cellsOf fs) x y κ z c) (fun Q' q => ?_) (fun e => ?_) (fun e => ?_)
      · rw [eb] at q
        refine tAndW (b := decide (sgn R (placeC x y c) ≠ 46)) (fun _ q1 => ⟨_, rfl, rfl, _, rfl, ?_⟩) (fun _ q1 => tAndW (fun _ q2 => tOrW (b := decide (sgn R (placeC x y c) = 35)) (c := !decide (placeC x y c ∈ cellsOf fs)) (fun _ q3 => ⟨_, rfl, rfl, _, rfl, ?_⟩) (fun _ q3 => ⟨_, rfl, _, rfl, dP (placeC x y c), _, .tup (SqT.of hT') (.cons (.int _) (.cons (.int _) .nil)), .lst (SqL.of (s1 _ _ (sG _ _ hp))) (dp_cells fun q m => s1 _ _ (sG _ _ (hf q m))), dP_shaped _, dCs_shaped _, _, rfl, ?_⟩) q2) (fun _ q2 => ⟨_, rfl, _, rfl, _, S wz, rfl, rfl, _, rfl, ?_⟩) q1) q
        · rw [dot_S, one_str]
          simpa using q1
        · rw [hash1, one_str]
          exact q3
        · have e3 : (((cellsOf fs).map dC).any fun z => PyData.eqv z (dP (placeC x y c))) = decide (placeC x y c ∈ cellsOf fs) := dPs_any (cellsOf fs) (placeC x y c)
          rw [e3]
          exact q3
        · rw [show (S wz).cps.toList = wz from unS_S wz]
          exact q2
      · obtain ⟨a1, a2, a3, a4⟩ := cellMore lm nD (sG.trans s1) (s1 _ _ hD) (fun q m => s1 _ _ (hm q m)) hT'
        refine ⟨_, rfl, .inl ⟨rfl, _, SqL.of (s1 _ _ hD)⟩, _, rfl, D, _, _, rfl, rfl, s1 _ _ hD, a1, ?_⟩
        refine ⟨_, _, _, _, ms ++ [(T, placeC x y c)], rfl, a2, a3, a4, ?_⟩
        rw [cellsOf_snoc, em, fnd, e]
        rfl
      · refine ⟨_, _, _, _, ms, rfl, sG.trans s1, s1 _ _ hD, fun q m => s1 _ _ (hm q m), ?_⟩
        rw [em, fnd, e]
        simp
    · rintro σ G ⟨y7, y8, y9, y10, ms, rfl, sG, hD, hm, em⟩
      rw [show (refC ks).length = ks.length from List.length_map _, List.take_of_length_le (Nat.le_refl _)] at em
      have lm : ms.length ≤ 1000 := by
        have := congrArg List.length em
        rw [cells_len] at this
        unfold foundL at this
        rw [List.length_map] at this
        have f := List.length_filter_le (clashC R (cellsOf fs) x y κ z) (ks.map (·.2))
        rw [List.length_map] at f
        omega
      refine ⟨_, rfl, D, ms, rfl, hD, hm, lm, fun q rs G2 s2 nq hq hrs pm od => ?_⟩
      rw [em] at pm
      exact k q rs G2 (sG.trans s2) (back sG nq) hq hrs pm od
end
end Pm
namespace Pm
open PySem PySem.Spec PyProof.Rows L2 SX NdefX
/-! ### what a constructor has made of the law's rule -/
def Made (κ hue : Nat) (st : List Nat) (cs ms : List Cnd) : Prop := Ord ms ∧ ((κ ≠ 2 ∧ st = [hue] ∧ ms.Perm (cs.map ascC)) ∨ (κ = 2 ∧ st = [] ∧ ms.Perm (cs.map fun c => ascC (wideC c.1))))
theorem Made.len {κ hue : Nat} {st : List Nat} {cs ms : List Cnd} (h : Made κ hue st cs ms) : ms.length = cs.length := by
  rcases h.2 with ⟨_, _, p⟩ | ⟨_, _, p⟩ <;> rw [p.length_eq, List.length_map]
theorem Made.lays {κ hue : Nat} {st : List Nat} {cs ms : List Cnd} (h : Made κ hue st cs ms) (hl : Let hue) (z : List Nat) : (stoneB z && (decide (κ = 2) || decide (z = [hue]))) = laysB κ st z := by
  unfold laysB
  rcases h.2 with ⟨k2, e, _⟩ | ⟨k2, e, _⟩
  · rw [if_neg k2, decide_eq_false k2, Bool.false_or, e]
    by_cases y : z = [hue]
    · rw [y]
      show (decide (Let hue) && _) = _
      rw [decide_eq_true hl]
      simp
    · rw [decide_eq_false y, Bool.and_false]
  · rw [if_pos k2, decide_eq_true k2, Bool.true_or, Bool.and_true]
theorem GoodR.low {κ hue : Nat} {cs : List Cnd} {need : Int} (h : GoodR κ hue cs need) : ∀ c ∈ cs, ∀ x ∈ c.2, x < 256 := fun c m x hx => by
  rcases (h.each c m).2.all x hx with e | e
  · omega
  · unfold Let at e
    omega
structure GTx (mg : Str → Option Value) (CR CC CS : Addr) : Prop where
  gR : mg "Rule" = some (.ref CR)
  gC : mg "CountRule" = some (.ref CC)
  gS : mg "SameRule" = some (.ref CS)
/-! ### a good rule has no fault -/
theorem fst_good : ∀ {cs : List Cnd} {i : Nat} {seen : List (Int × Int)}, (cs.map (·.1)).Nodup → (∀ c ∈ cs, c.1 ∉ seen) → (∀ c ∈ cs, placeB c.1 = true ∧ diffB 35 c.2 = true) → i + cs.length ≤ 9 → fstBad i seen cs = none
  | [], _, _, _, _, _, _ => rfl
  | c :: r, i, seen, nd, ns, ok, few => by
    rw [fst_step]
    have h1 : badAt i seen c = false := by
      unfold badAt
      obtain ⟨a, b⟩ := ok c List.mem_cons_self
      rw [a, b, decide_eq_false (ns c List.mem_cons_self), decide_eq_false (by rw [List.length_cons] at few; omega)]
      rfl
    rw [h1]
    rw [List.map_cons, List.nodup_cons] at nd
    refine fst_good nd.2 (fun d m => ?_) (fun d m => ok d (List.mem_cons_of_mem _ m)) (by rw [List.length_cons] at few; omega)
    intro m2
    rcases List.mem_cons.mp m2 with e | e
    · exact nd.1 (e ▸ List.mem_map.mpr ⟨d, m, rfl⟩)
    · exact ns d (List.mem_cons_of_mem _ m) e
theorem stone_good {hue : Nat} (h : Let hue) : stoneB [hue] = true := by
  show decide (Let hue) = true
  exact decide_eq_true h
theorem GoodR.fst {κ hue : Nat} {cs : List Cnd} {need : Int} (h : GoodR κ hue cs need) : fstBad 1 [] cs = none := fst_good h.nd (fun _ _ m => nomatch m) (fun c m => ⟨(h.each c m).1, ((h.each c m).2).diff⟩) (by have := h.few; omega)
theorem GoodR.faultR {κ hue : Nat} {cs : List Cnd} {need : Int} (h : GoodR κ hue cs need) : faultR [hue] cs = none := by
  unfold Pm.faultR
  rw [stone_good h.hue, h.fst]
  rfl
theorem GoodR.faultC {κ hue : Nat} {cs : List Cnd} {need : Int} (h : GoodR κ hue cs need) : faultC [hue] cs need = none := by
  unfold Pm.faultC
  rw [h.faultR]
  exact if_pos ⟨h.n0, h.n1⟩
theorem GoodR.faultS {κ hue : Nat} {cs : List Cnd} {need : Int} (h : GoodR κ hue cs need) : faultS (cs.map fun c => wideC c.1) need = none := by
  unfold Pm.faultS
  have e : fstBad 1 [] (cs.map fun c => wideC c.1) = none := by
    refine fst_good ?_ (fun _ _ m => nomatch m) (fun c m => ?_) (by have := h.few; rw [List.length_map]; omega)
    · rw [List.map_map]
      exact h.nd
    · obtain ⟨d, hd, rfl⟩ := List.mem_map.mp m
      exact ⟨(h.each d hd).1, by show diffB 35 alphaL = true; decide +kernel⟩
  rw [e, List.length_map]
  exact if_pos ⟨h.n0, h.n1⟩
/-! ### pairs of a rule's parts -/
theorem pairMore {ks : List (Addr × Cnd)} {G G3 H0 : Hp} {D T tt : Addr} {c : Cnd} {i : Nat} {ns : List (Addr × (Int × Int))} (lm : ks.length ≤ 1000) (nD : H0 D = none) (sm : Same H0 G) (hD : G D = some (.lst (ns.map fun q => V.ref q.1))) (hns : ∀ q ∈ ns, G q.1 = some (PairO q.2))
    (en : ns.map (·.2) = (ks.take i).map fun q => q.2.1) (hi : ks[i]? = some (tt, c)) (s3 : Same G G3) (nT : G3 T = none) :
    (ns.map fun q => V.ref q.1).length < sizeLine ∧ ∃ ns' : List (Addr × (Int × Int)), Same H0 (upd (upd G3 T (PairO c.1)) D (.lst ((ns.map fun q => V.ref q.1) ++ [.ref T]))) ∧
      upd (upd G3 T (PairO c.1)) D (.lst ((ns.map fun q => V.ref q.1) ++ [.ref T])) D = some (.lst (ns'.map fun q => V.ref q.1)) ∧ (∀ q ∈ ns', upd (upd G3 T (PairO c.1)) D (.lst ((ns.map fun q => V.ref q.1) ++ [.ref T])) q.1 = some (PairO q.2)) ∧ ns'.map (·.2) = (ks.take (i + 1)).map fun q => q.2.1 := by
  have s4 := s3.trans (same_upd (o := PairO c.1) nT)
  have nDT : D ≠ T := ne_of_none (s3 _ _ hD) nT
  have li : i < ks.length := (List.getElem?_eq_some_iff.mp hi).1
  refine ⟨?_, ns ++ [(T, c.1)], fun b o e => ?_, ?_, fun q hq => ?_, ?_⟩
  · have e1 := congrArg List.length en
    rw [List.length_map, List.length_map, List.length_take] at e1
    rw [show (ns.map fun q => V.ref q.1).length = ns.length from List.length_map _]
    exact small1000 (by omega)
  · rw [upd_ne (ne_of_none e nD)]
    exact s4 _ _ (sm _ _ e)
  · rw [upd_same, List.map_append]
    rfl
  · rcases List.mem_append.mp hq with z | z
    · have y := s4 _ _ (hns q z)
      rw [upd_ne (fun e => ?_)]
      · exact y
      · rw [e, s4 _ _ hD] at y
        cases y
    · rw [List.mem_singleton.mp z]
      rw [upd_ne nDT.symm, upd_same]
  · rw [List.map_append, en, List.take_add_one, hi, List.map_append]
    rfl
/-! ### the classes of the three kinds -/
def clsOf (CR CC CS : Addr) (κ : Nat) : Addr := if κ = 0 then CR else if κ = 1 then CC else CS
structure Ctor (P : Program) (w : World) (K : PySem.W.Frag) (mg : Str → Option Value) (base : Heap) (C : Addr) (n : Nat) (ps : List Str) (sp : Sp) (f : Addr) (fd : FuncData) : Prop where
  M : Mk K C f
  ok : FnOk P w K mg base (L2.CX P w) n f fd ps sp
  bd : Binds K fd ps []
  T : RCls K C
section
variable {P : Program} {w : World} {K : PySem.W.Frag} {mg : Str → Option Value} {base : Heap} {C CI CW CE CR CC CS D : Addr} {κ : Nat}
theorem low2 {a b : V} : ∀ m ∈ lows, List.lookup m [(("stone" : Str), a), ("_conditions", b)] = none := by
  intro m hm
  simp only [lows, List.mem_cons, List.not_mem_nil, or_false] at hm
  rcases hm with rfl | rfl | rfl | rfl | rfl | rfl | rfl | rfl <;> rfl
theorem low3 {a b c : V} : ∀ m ∈ lows, List.lookup m [(("stone" : Str), a), ("_conditions", b), ("need", c)] = none := by
  intro m hm
  simp only [lows, List.mem_cons, List.not_mem_nil, or_false] at hm
  rcases hm with rfl | rfl | rfl | rfl | rfl | rfl | rfl | rfl <;> rfl
theorem low3s {a b c : V} : ∀ m ∈ lows, List.lookup m [(("stone" : Str), a), ("need", b), ("_conditions", c)] = none := by
  intro m hm
  simp only [lows, List.mem_cons, List.not_mem_nil, or_false] at hm
  rcases hm with rfl | rfl | rfl | rfl | rfl | rfl | rfl | rfl <;> rfl
def spMade (CR CC CS : Addr) : Sp := fun vs H Q _ => ∃ t pl κ hue ks need, vs = [.ref t] ∧ RuleT H t pl κ hue ks need ∧ ∀ r st ms H', Same H H' → RuleAt (clsOf CR CC CS κ) H' r κ st need ms → Made κ hue st (ks.map (·.2)) ms → Q (.ref r) H'
abbrev nMade : List Str := ["_law_rule_here", "_law_part"]
theorem scMade : FnScope nMade ["_law_rule_here"] (defScope lMade) := ⟨rfl, rfl, rfl, by decide +kernel, rfl, by decide +kernel, by decide +kernel⟩
theorem ok_made {f fR fC fS : Addr} {fd dR dC dS : FuncData} (F : Fun K "_law_made" "_law_made" lMade f fd) (L : LTxt K mg) (Gt : GTx mg CR CC CS) (kR : Ctor P w K mg base CR 4 ["self", "stone", "conditions"] (spRuleInit CI K) fR dR)
    (kC : Ctor P w K mg base CC 5 ["self", "stone", "conditions", "need"] (spCountInit CI CC K) fC dC) (kS : Ctor P w K mg base CS 5 ["self", "places", "need"] (spSameInit CI CS K) fS dS) :
    FnOk P w K mg base CX0 7 f fd ["_law_rule_here"] (spMade CR CC CS) := by
  refine F.ok scMade (fun vs H Q E h => ?_) (fun cdv A outer s H vs Q E hr h => ?_)
  · obtain ⟨t, pl, κ, hue, ks, need, rfl, _⟩ := h
    rfl
  · obtain ⟨t, pl, κ, hue, ks, need, rfl, hT, k⟩ := h
    have hr5 : Room 5 _ := hr.mono (by decide)
    refine ⟨_, (pss_cons (ps_if (pt_cmpR op_eq (pe_ix ix_tup (pv 0) pe_int (fun _ _ => rfl)) pe_str (nomark _)) (pss_one (ps_ret (pe_makeS (E := fun _ => E0) kR.M kR.ok hr5 (by rfl) Gt.gR kR.bd (fun σ pins H s e s' I c => passF pins σ H s e s' I c) (pa_cons (pe_ix ix_tup (pv 0) pe_int (fun _ _ => rfl)) (pa_cons (pe_callTy call_list_of (by rfl) L.lst (by decide +kernel) (pa_cons (pe_ix ix_tup (pv 0) pe_int (fun _ _ => rfl)) pa_nil)) pa_nil))))) pss_nil)
      (pss_cons (ps_if (pt_cmpR op_eq (pe_ix ix_tup (pv 0) pe_int (fun _ _ => rfl)) pe_str (nomark _)) (pss_one (ps_ret (pe_makeS (E := fun _ => E0) kC.M kC.ok hr (by rfl) Gt.gC kC.bd (fun σ pins H s e s' I c => passF pins σ H s e s' I c) (pa_cons (pe_ix ix_tup (pv 0) pe_int (fun _ _ => rfl)) (pa_cons (pe_callTy call_list_of (by rfl) L.lst (by decide +kernel) (pa_cons (pe_ix ix_tup (pv 0) pe_int (fun _ _ => rfl)) pa_nil)) (pa_cons (pe_ix ix_tup (pv 0) pe_int (fun _ _ => rfl)) pa_nil)))))) pss_nil)
      (pss_one (ps_ret (pe_makeS (E := fun _ => E0) kS.M kS.ok hr (by rfl) Gt.gS kS.bd (fun σ pins H s e s' I c => passF pins σ H s e s' I c) (pa_cons (pe_lc (own := [("_law_part", 1)]) (g := (gName 1)) (tt := tYes) (te := (tTup (tCons (tOp (rIxT K) (tVar 1) (tC (.int 0))) (tCons (tOp (rIxT K) (tVar 1) (tC (.int 1))) tNil)))) rfl scMade.nd (pi_list (pe_ix ix_tup (pv 0) pe_int (fun _ _ => rfl))) (blkOk_by (own := [("_law_part", 1)]) (N := nMade) (sc := defScope lMade) (by decide +kernel)) (fun _ _ _ _ _ => (pg_name (i := 1) scMade.nd rfl (.inl rfl))) (fun _ _ _ _ _ => pts_nil) (fun _ _ _ _ _ => (pe_tup (pa_cons (by exact pe_ix ix_tup (pv 1) pe_int (fun _ _ => rfl)) (pa_cons (by exact pe_ix ix_tup (pv 1) pe_int (fun _ _ => rfl)) pa_nil))))) (pa_cons (pe_ix ix_tup (pv 0) pe_int (fun _ _ => rfl)) pa_nil))))))), ?_⟩
    refine ⟨_, rfl, t, _, 0, _, rfl, rfl, SqT.of hT.at_, rfl, rfl, _, rfl, ?_⟩
    have k3 := hT.good.k3
    rw [kind_all k3]
    have fewK : ks.length ≤ 8 := by
      have := hT.good.few
      rwa [List.length_map] at this
    have each : ∀ q ∈ ks, q.2.2.length ≤ 1000 := fun q m => by
      have := ((hT.good.each q.2 (List.mem_map.mpr ⟨q, m, rfl⟩)).2).few
      omega
    by_cases k0 : κ = 0
    · refine iteTe (decide_eq_true k0) ?_
      subst k0
      refine ⟨_, rfl, t, _, 1, _, rfl, rfl, SqT.of hT.at_, rfl, _, rfl, t, _, 2, _, rfl, rfl, SqT.of hT.at_, rfl, pl, _, rfl, .inl (SqL.of hT.cs.lst), fun q nq r dx nx nd ne => ?_⟩
      refine ⟨r, dx, CR, [hue], q, ks, rfl, kR.T, upd_same, ⟨made_same nx nd _ _ upd_same, fun p m => made_same nx nd _ _ (same_upd nq _ _ (hT.cs.each p m))⟩, by show 1 ≤ 1000; decide, by omega, each, fun p e => (by rw [hT.good.faultR] at e; cases e), fun _ H' l ms sb nl hr' hc' pm od => ⟨rfl, ?_⟩⟩
      exact k r [hue] _ H' ((same_upd nq).trans (made_but nx nd sb)) ⟨dx, _, l, ms, hr', rfl, rfl, fun n => absurd rfl n, low2, hc', rfl⟩ ⟨od, .inl ⟨by decide, rfl, pm⟩⟩
    · refine iteFe (decide_eq_false k0) ?_
      refine ⟨_, rfl, t, _, 0, _, rfl, rfl, SqT.of hT.at_, rfl, rfl, _, rfl, ?_⟩
      rw [kind_count k3]
      by_cases k1 : κ = 1
      · refine iteTe (decide_eq_true k1) ?_
        subst k1
        refine ⟨_, rfl, t, _, 1, _, rfl, rfl, SqT.of hT.at_, rfl, _, rfl, t, _, 2, _, rfl, rfl, SqT.of hT.at_, rfl, pl, _, rfl, .inl (SqL.of hT.cs.lst), fun q nq => ?_⟩
        refine ⟨_, rfl, t, _, 3, _, rfl, rfl, SqT.of (same_upd nq _ _ hT.at_), rfl, fun r dx nx nd ne => ?_⟩
        refine ⟨r, dx, [hue], q, ks, need, rfl, upd_same, ⟨made_same nx nd _ _ upd_same, fun p m => made_same nx nd _ _ (same_upd nq _ _ (hT.cs.each p m))⟩, by show 1 ≤ 1000; decide, by omega, each, fun p e => (by rw [hT.good.faultC] at e; cases e), fun _ H' l ms sb nl hr' hc' pm od => ⟨rfl, ?_⟩⟩
        exact k r [hue] _ H' ((same_upd nq).trans (made_but nx nd sb)) ⟨dx, _, l, ms, hr', rfl, rfl, fun _ => rfl, low3, hc', rfl⟩ ⟨od, .inl ⟨by decide, rfl, pm⟩⟩
      · have k2 : κ = 2 := by omega
        subst k2
        refine iteFe (decide_eq_false k1) ?_
        refine ⟨_, rfl, t, _, 2, _, rfl, rfl, SqT.of hT.at_, rfl, pl, rfl, ⟨_, SqL.of hT.cs.lst⟩, fun D nD => lc_list (K := K) (a := pl) (xs := refC ks) (fun i G => ∃ ns : List (Addr × (Int × Int)), Same H G ∧ G D = some (.lst (ns.map fun q => V.ref q.1)) ∧ (∀ q ∈ ns, G q.1 = some (PairO q.2)) ∧ ns.map (·.2) = (ks.take i).map fun q => q.2.1) ⟨[], same_upd nD, upd_same, (fun p hp => nomatch hp), rfl⟩ (fun i G _ ⟨ms, sm, _⟩ => SqL.of (sm _ _ hT.cs.lst)) ?_ ?_⟩
        · rintro i x G hx ⟨ns, sm, hD, hns, en⟩
          obtain ⟨t1, c, hi, rfl⟩ := refC_at hx
          have htc := sm _ _ (hT.cs.each _ (List.mem_of_getElem? hi))
          refine ⟨rfl, tyes (iteT ⟨_, rfl, t1, _, 0, _, rfl, rfl, SqT.of htc, rfl, _, rfl, t1, _, 1, _, rfl, rfl, SqT.of htc, rfl, by show 2 ≤ sizeLine; decide, fun T nT => ?_⟩)⟩
          obtain ⟨a1, ns', a2, a3, a4, a5⟩ := pairMore (by omega) nD sm hD hns en hi (Same.refl G) nT
          exact ⟨_, same_upd nT _ _ hD, a1, ns', a2, a3, a4, a5⟩
        · rintro G ⟨ns, sm, hD, hns, en⟩
          rw [show (refC ks).length = ks.length from List.length_map _, List.take_of_length_le (Nat.le_refl _)] at en
          have ln : ns.length = ks.length := by
            have := congrArg List.length en
            rwa [List.length_map, List.length_map] at this
          have ew : (ns.map fun q => wideC q.2) = (ks.map (·.2)).map fun c => wideC c.1 := by
            rw [List.map_map]
            have := congrArg (List.map wideC) en
            rw [List.map_map, List.map_map] at this
            exact this
          have hTG := hT.same sm
          refine ⟨_, rfl, t, _, 3, _, rfl, rfl, SqT.of hTG.at_, rfl, fun r dx nx nd ne => ?_⟩
          refine ⟨r, dx, D, ns, need, rfl, upd_same, ⟨made_same nx nd _ _ hD, fun q m => made_same nx nd _ _ (hns q m)⟩, by omega, fun p e => (by rw [ew, hT.good.faultS] at e; cases e), fun _ H' l ms sb nl hr' hc' pm od => ⟨rfl, ?_⟩⟩
          rw [ew, List.map_map] at pm
          exact k r [] _ H' (sm.trans (made_but nx nd sb)) ⟨dx, _, l, ms, hr', rfl, rfl, fun _ => rfl, low3s, hc', rfl⟩ ⟨od, .inr ⟨rfl, rfl, pm⟩⟩
end
end Pm
namespace Pm
open PySem PySem.Spec PyProof.Rows L2 SX NdefX
/-! ### a method of one of three classes; defaults -/
theorem pe_or3 {X : Cx} {e : Expr} {t : Nat → TE} (h : ∀ κ, κ < 3 → PE X e (t κ)) : PE X e (fun σ H Q => ∃ κ, κ < 3 ∧ t κ σ H Q) := ⟨fun pins s σ H Q I ⟨κ, k3, q⟩ => (h κ k3).run pins s σ H Q I q⟩
def tMethED (C : Addr) (m : Str) (sp : Sp) (dvs : List V) (E : L2.St → XK) (ta : TE) (t : TA) : TE := fun σ H Q => ta σ H fun x H1 => ∃ a dx fs, x = .ref a ∧ H1 a = some (.ins C dx fs) ∧ fs.lookup m = none ∧ t σ H1 fun vs H2 => sp (x :: (vs ++ dvs)) H2 Q (E σ)
section
variable {X : Cx} {CXf : CXT} {k : Nat} {C f : Addr} {fd : FuncData} {ps : List Str} {sp : Sp} {E : L2.St → XK} {x m : Str} {p pos apos : Pos} {e o : Expr} {es : List Expr} {ta : TE} {t : TA} {ds : List Value} {dvs : List V}
theorem pe_methED {pl : Sem Bool} (he : PE X o ta) (c : L2.Cls X.K C) (hm : Meth X.K C m f) (F : FnOk X.prog X.w X.K X.mg X.base CXf k f fd ps sp) (hr : Room k X.A) (hb : Binds X.K fd ps ds) (hd : Vals dvs ds) (hx : ∀ σ, PassesAt CXf X σ (E σ)) (ha : PA X (e :: es) t)
    (st : starEach (e :: es) X.env = (false, eval e X.env) :: starEach es X.env := by rfl) (pl2 : (backTo pos (starEach es X.env)).any (·.1) = false := by rfl)
    (ht : eval (.Call (.Attribute o m apos) (e :: es) [] pos) X.env = (do
      let ov ← eval o X.env
      standAt apos.atName
      let (f, first) ← holding [ov] (getMethod ov m pl)
      callWith pos f first (backTo pos (starEach (e :: es) X.env)) (backToKw pos (keywordEach [] X.env))) := by rfl) :
    PE X (.Call (.Attribute o m apos) (e :: es) [] pos) (tMethED C m sp dvs E ta t) := by
  refine ⟨fun pins s σ H Q I h => PySem.W.methodCall_KW (pl := pl) (thn (he.run pins s σ H _ I h) fun u s1 ⟨x, H1, I1, rx, a, dx, fs, ex, ea, l, q⟩ => ?_) ht⟩
  subst ex
  obtain rfl : u = Value.ref a := rx
  refine getmeth_ok I1 ea c hm l (PySem.W.callWith_K (first := [.ref a]) (h₀ := X.base) I.ok.mod.kin hm.kp (thn (ha.run pos pins s1 σ H1 _ I1 q) fun us s2 ⟨vs, H2, I2, rv, q2⟩ => ⟨I2.kIn, ?_⟩) st pl2)
  exact run_fnSD (us := .ref a :: us) (vs := .ref a :: vs) F hr hb hd (hx σ) I2 (.cons rfl rv) q2
end
/-! ### the two counts agree -/
theorem asc_mem {z : List Nat} {d : Nat} : d ∈ asc z ↔ d ∈ z := (asc_perm z).mem_iff
theorem clash_asc (R : Rows) (M : List Cell) (z : List Nat) (c : Cell) : clashB R M (asc z) c = clashB R M z c := by
  unfold clashB
  rw [show decide (sgn R c ∈ asc z) = decide (sgn R c ∈ z) from decide_eq_decide.mpr asc_mem]
theorem clashL_eq (R : Rows) (M : List Cell) (x y : Int) (cs : List Cnd) : clashL R M x y cs = (cs.filter fun c => clashB R M c.2 (placeC x y c)).map (placeC x y) := by
  unfold clashL
  rw [List.filter_map, List.map_map]
  rfl
theorem found_perm {κ hue : Nat} {st : List Nat} {cs ms : List Cnd} (h : Made κ hue st cs ms) (R : Rows) (M : List Cell) (x y : Int) (z : List Nat) : (clashL R M x y (condsOf κ z ms)).Perm (foundL R M x y κ z cs) := by
  rw [clashL_eq]
  unfold foundL
  rcases h.2 with ⟨k2, _, pm⟩ | ⟨k2, _, pm⟩
  · unfold condsOf
    rw [if_neg k2]
    have p1 := (pm.filter fun c => clashB R M c.2 (placeC x y c)).map (placeC x y)
    rw [List.filter_map, List.map_map] at p1
    have e1 : (cs.filter ((fun c => clashB R M c.2 (placeC x y c)) ∘ ascC)) = cs.filter (clashC R M x y κ z) := by
      refine List.filter_congr fun c _ => ?_
      show clashB R M (asc c.2) (placeC x y c) = clashC R M x y κ z c
      unfold clashC
      rw [if_neg k2, clash_asc]
    rw [e1] at p1
    exact p1
  · unfold condsOf
    rw [if_pos k2]
    have p0 := pm.map fun c : Cnd => ((c.1, z) : Cnd)
    rw [List.map_map] at p0
    have p1 := (p0.filter fun c => clashB R M c.2 (placeC x y c)).map (placeC x y)
    rw [List.filter_map, List.filter_map, List.map_map, List.map_map] at p1
    rw [List.filter_map, List.map_map]
    have e1 : (cs.filter ((fun c => clashB R M c.2 (placeC x y c)) ∘ ((fun c : Cnd => ((c.1, z) : Cnd)) ∘ fun c => ascC (wideC c.1)))) = cs.filter (clashC R M x y κ z) := by
      refine List.filter_congr fun c _ => ?_
      show clashB R M z (placeC x y c) = clashC R M x y κ z c
      unfold clashC
      rw [if_pos k2]
    rw [e1] at p1
    exact p1
end Pm
namespace Pm
open PySem PySem.Spec PyProof.Rows L2 SX NdefX
/-! ### a region against a text -/
structure NotT (K : PySem.W.Frag) (C : Addr) (T : String) : Prop where
  ic : PySem.W.isClsIn K C = true
  ty : PySem.W.typeIn K (.ref C) = some (.type "type")
  sub : PySem.W.subIn K (.type T) (.ref C) = some false
theorem NotT.kit {K : PySem.W.Frag} {C : Addr} {T : String} (n : NotT K C T) : PySem.W.kitOne K (.type T) (.ref C) = some false := by
  unfold PySem.W.kitOne
  rw [if_neg (by simp)]
  show (if ((PySem.W.clsIn K C).isSome && PySem.W.typeIn K (.ref C) == some (.type "type")) = true then PySem.W.subIn K (.type T) (.ref C) else none) = some false
  rw [if_pos (by rw [show (PySem.W.clsIn K C).isSome = true from n.ic, n.ty]; rfl)]
  exact n.sub
section
variable {P : Program} {w : World} {K : PySem.W.Frag} {mg : Str → Option Value} {base : Heap}
def spEqS (C : Addr) : Sp := fun vs H Q _ => ∃ r M t, vs = [.ref r, .str t] ∧ RegAt C H r M ∧ Q (.bl false) H
theorem scEq : FnScope ["self", "other"] ["self", "other"] (defScope cRegionEq) := ⟨rfl, rfl, rfl, by decide +kernel, rfl, by decide +kernel, by decide +kernel⟩
theorem ok_eqS {f C : Addr} {fd : FuncData} (F : Fun K "__eq__" "Region.__eq__" cRegionEq f fd) (T : RTxt K mg C) (isi : mg "isinstance" = none) (n : NotT K C "str") : FnOk P w K mg base CX0 1 f fd ["self", "other"] (spEqS C) := by
  refine F.ok scEq (fun vs H Q E h => ?_) (fun cdv A outer s H vs Q E hr h => ?_)
  · obtain ⟨r, M, t, rfl, _⟩ := h
    rfl
  · obtain ⟨r, M, t, rfl, hM, q⟩ := h
    refine ⟨_, pss_one (ps_ret (pe_and (pe_callB call_isi (by rfl) isi (by decide +kernel) (pa_cons (pv 1) (pa_cons (pe_glob (v := .ref C) (by rfl) T.mgC rfl) pa_nil)))
      (pe_one (pe_cmpR op_eq (pe_fld (pv 0) rfl) (pe_fld (pv 1) rfl) (nomark _))))), ?_⟩
    exact ⟨_, rfl, .str t, .ref C, .type "str", .ref C, false, rfl, .own C, .base (.str _), n.kit, false, rfl, q⟩
end
section
variable {X : Cx} {C f : Addr} {fd : FuncData} {k : Nat}
def rEqS (C : Addr) : R2 := fun x y H Q => ∃ r M t, x = .ref r ∧ y = .str t ∧ RegAt C H r M ∧ Q (.bl false) H
theorem op_eqS (O : FnOk X.prog X.w X.K X.mg X.base CX0 k f fd ["self", "other"] (spEqS C)) (hr : Room k X.A) (b : Binds X.K fd ["self", "other"] []) (m : OwnM X.K C "__eq__" f) (n : NotT X.K C "str") : OpR X (compareOp .Eq) (rEqS C) := by
  intro pins s σ H x y v u Q I rx ry h
  obtain ⟨r, M, t, rfl, rfl, hM, q⟩ := h
  obtain rfl : v = Value.ref r := rx
  obtain ⟨tk, rfl⟩ := ry
  have hM0 := hM
  obtain ⟨dx, d, hr0, _⟩ := hM
  obtain ⟨mA, J, _⟩ := ins_get I.hok hr0
  obtain ⟨od, J, _⟩ := J.look
  obtain ⟨mm, hF⟩ := I.fr
  have hu := hu_of hr
  show wpAny _ _ (richCompare .Eq _ _) _ _ _
  refine PySem.W.cmp_K (op := .Eq) (tb := .type "str") (by omega) hF I.ok.mod.kin J (PySem.W.Looks.of_pure rfl) ?_ m.at_ m.fn ?_
  · show ((Value.type "str" == .ref C) || (PySem.W.subIn X.K (.type "str") (.ref C) == some false)) = true
    rw [n.sub]
    simp
  refine wpAny_mono (run_at (Q := fun v H' => v = .bl false ∧ H' = H) (E := E0) (vs := [.ref r, .str t]) O hr rfl b pass0 I (.cons rfl (.cons ⟨tk, rfl⟩ .nil)) ⟨r, M, t, rfl, hM0, rfl, rfl⟩) (fun v s' z => ?_) fun _ _ z => z
  obtain ⟨v', H', I', rv, rfl, rfl⟩ := z
  cases rv
  exact ⟨.bl false, _, I', rfl, q⟩
end
/-! ### what clashes answers -/
inductive Res where
  | lst (M : List Cell)
  | out (x y : Int)
  | wrong (z : List Nat)
def ResAt (H : Hp) (v : V) : Res → Prop
  | .lst M => ∃ p ks, v = .ref p ∧ H p = some (.lst (refs ks)) ∧ Tups H ks ∧ cellsOf ks = M
  | .out x y => ∃ t, v = .ref t ∧ H t = some (.tup [.str "out", .int x, .int y, .bl true])
  | .wrong z => ∃ t, v = .ref t ∧ H t = some (.tup [.str "wrong", .str (S z), .bl true])
theorem ResAt.same {H H' : Hp} {v : V} {r : Res} (h : ResAt H v r) (s : Same H H') : ResAt H' v r := by
  cases r with
  | lst M =>
    obtain ⟨p, ks, a, b, c, d⟩ := h
    exact ⟨p, ks, a, s _ _ b, c.same s, d⟩
  | out x y =>
    obtain ⟨t, a, b⟩ := h
    exact ⟨t, a, s _ _ b⟩
  | wrong z =>
    obtain ⟨t, a, b⟩ := h
    exact ⟨t, a, s _ _ b⟩
def lowZ (z : List Nat) : Prop := ∀ c ∈ z, c < 256
def dRes : Res → PyData
  | .lst M => .list (M.map dC)
  | .out x y => .tuple [.str "out", .int x, .int y, .bool true]
  | .wrong z => .tuple [.str "wrong", .str (S z), .bool true]
def Res.low : Res → Prop
  | .wrong z => lowZ z
  | _ => True
theorem strOk_S {z : List Nat} (h : ∀ c ∈ z, c < 256) : PyData.strOk (S z) = true := by
  show (S z).cps.all (· < 0x110000) = true
  rw [Array.all_eq_true]
  intro i hi
  have m := h _ (List.getElem_mem (l := z) (n := i) (by simpa using hi))
  exact decide_eq_true (Nat.lt_of_lt_of_le (by simpa using m) (by decide))
theorem dRes_shaped {r : Res} (h : r.low) : SeqAt.shaped (dRes r) = true := by
  cases r with
  | lst M => exact dCs_shaped M
  | out x y =>
    have e2 : PyData.strOk ("out" : Str) = true := by decide +kernel
    simp [SeqAt.shaped, dRes, PyData.canLayAll0, PyData.canLay0, PyData.depth, PyData.depthAll, e2]
  | wrong z =>
    have e : PyData.strOk (S z) = true := strOk_S h
    have e2 : PyData.strOk ("wrong" : Str) = true := by decide +kernel
    simp [SeqAt.shaped, dRes, PyData.canLayAll0, PyData.canLay0, PyData.depth, PyData.depthAll, e, e2]
theorem ResAt.dp {K : PySem.W.Frag} {H : Hp} {v : V} {r : Res} (h : ResAt H v r) : Dp K H v (dRes r) := by
  cases r with
  | lst M =>
    obtain ⟨p, ks, rfl, b, c, rfl⟩ := h
    exact dp_cl (SqL.of b) c
  | out x y =>
    obtain ⟨t, rfl, b⟩ := h
    exact .tup (SqT.of b) (.cons (.str _) (.cons (.int _) (.cons (.int _) (.cons (.bl _) .nil))))
  | wrong z =>
    obtain ⟨t, rfl, b⟩ := h
    exact .tup (SqT.of b) (.cons (.str _) (.cons (.str _) (.cons (.bl _) .nil)))
theorem eqD {d : PyData} (h : SeqAt.shaped d = true) : PyData.eqv d d = true := SeqAt.eqv_refl d (SeqAt.canLay_of_shaped h)
/-- what the program answers -/
def resP (R : Rows) (M : List Cell) (x y : Int) (κ : Nat) (st z : List Nat) (ms : List Cnd) : Res := if inB R x y = true then (if laysB κ st z = true then .lst (clashL R M x y (condsOf κ z ms)) else .wrong z) else .out x y
structure FTx (K : PySem.W.Frag) (mg : Str → Option Value) (CO CW CE : Addr) : Prop where
  gO : mg "OutOfPicture" = some (.ref CO)
  gW : mg "WrongStone" = some (.ref CW)
  gE : mg "SmaltiError" = some (.ref CE)
  erO : ErrC K CO
  erW : ErrC K CW
  nX : PySem.W.findIn K (.ref CO) "x" = some none
  nY : PySem.W.findIn K (.ref CO) "y" = some none
  nS : PySem.W.findIn K (.ref CW) "stone" = some none
  teO : PySem.W.exmOne K (.ref CO) (.ref CO) = some true
  teW : PySem.W.exmOne K (.ref CW) (.ref CW) = some true
  teWO : PySem.W.exmOne K (.ref CW) (.ref CO) = some false
  kO : PySem.W.kitOne K (.ref CO) (.ref CE) = some true
  kW : PySem.W.kitOne K (.ref CW) (.ref CE) = some true
structure Cla3 (P : Program) (w : World) (K : PySem.W.Frag) (mg : Str → Option Value) (base : Heap) (CR CC CS CP CG CO CW fF : Addr) (dF : FuncData) (ds : List Value) : Prop where
  T : ∀ κ, κ < 3 → RCls K (clsOf CR CC CS κ)
  m : ∀ κ, κ < 3 → Meth K (clsOf CR CC CS κ) "clashes" fF
  ok : ∀ κ, κ < 3 → FnOk P w K mg base (L2.CX P w) 5 fF dF ["self", "picture", "x", "y", "stone", "loose"] (spClashes (clsOf CR CC CS κ) CP CG CO CW κ)
  bd : Binds K dF ["self", "picture", "x", "y", "stone", "loose"] ds
  dv : Vals [.non] ds
  kw : KBn K dF ["self", "picture", "x", "y", "stone", "loose"] 5 ["loose"] (fun us ws => us ++ ws) (fun vs zs => vs ++ zs)
section
variable {P : Program} {w : World} {K : PySem.W.Frag} {mg : Str → Option Value} {base : Heap} {CR CC CS CP CG CO CW CE CI : Addr}
abbrev left : Str := "left out"
/-- what may stand for the region: nothing said, None, a region -/
def RegV (CG : Addr) (H : Hp) (v : V) (M : List Cell) : Prop := (v = .str left ∧ M = []) ∨ (v = .non ∧ M = []) ∨ ∃ r, v = .ref r ∧ RegAt CG H r M
theorem RegV.same {H H' : Hp} {v : V} {M : List Cell} (h : RegV CG H v M) (s : Same H H') : RegV CG H' v M := by
  rcases h with h | h | ⟨r, e, h⟩
  · exact .inl h
  · exact .inr (.inl h)
  · exact .inr (.inr ⟨r, e, h.same s⟩)
def rEqLeft (CG : Addr) : R2 := fun x y H Q => rEq x y H Q ∨ rEqS CG x y H Q
def tArgs : TA := tCons (tVar 1) (tCons (tVar 2) (tCons (tVar 3) (tCons (tVar 4) tNil)))
def tbAq (CR CC CS CP CG CO CW : Addr) (W : WX) : TS :=
  tSeq (tIfS (tTest (tOp (rEqLeft CG) (tVar 5) (tC (.str "left out")))) (tRet (fun σ H Q => ∃ κ, κ < 3 ∧ tMethED (clsOf CR CC CS κ) "clashes" (spClashes (clsOf CR CC CS κ) CP CG CO CW κ) [.non] (WE W) (tVar 0) tArgs σ H Q)) tNext)
  (tRet (fun σ H Q => ∃ κ, κ < 3 ∧ tMethN (clsOf CR CC CS κ) "clashes" 5 1 (spClashes (clsOf CR CC CS κ) CP CG CO CW κ) (fun vs zs => vs ++ zs) (WE W) (tVar 0) tArgs (tCons (tVar 5) tNil) σ H Q))
def isXq (K : PySem.W.Frag) (a : Addr) (cls : Value) (d : Option Addr) (c : V) : TE := tCB (rIsX K a cls d) (tCons (tVar 6) (tCons (tC c) tNil))
def tsAq1 (K : PySem.W.Frag) (CE : Addr) : Addr → Value → Option Addr → TS := fun a cls d => tRet (tTup (tCons (tC (.str "out")) (tCons (tErrX K a cls d "x" (tVar 6)) (tCons (tErrX K a cls d "y" (tVar 6)) (tCons (isXq K a cls d (.ref CE)) tNil)))))
def tsAq2 (K : PySem.W.Frag) (CE : Addr) : Addr → Value → Option Addr → TS := fun a cls d => tRet (tTup (tCons (tC (.str "wrong")) (tCons (tErrX K a cls d "stone" (tVar 6)) (tCons (isXq K a cls d (.ref CE)) tNil))))
def spAsked (CR CC CS CP CG : Addr) : Sp := fun vs H Q _ => ∃ r pic x y z v R n κ st need ms M, vs = [.ref r, .ref pic, .int x, .int y, .str (S z), v] ∧ κ < 3 ∧ RuleAt (clsOf CR CC CS κ) H r κ st need ms ∧ PicAt CP H pic R ∧ Grid R n ∧ RegV CG H v M ∧ z.length ≤ 1000 ∧ ms.length ≤ 1000 ∧ (∀ c ∈ ms, c.2.length ≤ 1000) ∧
  ∀ p H', Same H H' → H p = none → ResAt H' (.ref p) (resP R M x y κ st z ms) → Q (.ref p) H'
abbrev nAq : List Str := ["_law_made_here", "_law_picture", "_law_cx", "_law_cy", "_law_hue", "_law_region", "e"]
theorem scAq : FnScope nAq ["_law_made_here", "_law_picture", "_law_cx", "_law_cy", "_law_hue", "_law_region"] (defScope lAsked) := ⟨rfl, rfl, rfl, by decide +kernel, rfl, by decide +kernel, by decide +kernel⟩
theorem ok_asked {f fF fE : Addr} {fd dF dE : FuncData} {ds : List Value} (F : Fun K "_law_asked" "_law_asked" lAsked f fd) (L : LTxt K mg) (Y : FTx K mg CO CW CE) (FF : Cla3 P w K mg base CR CC CS CP CG CO CW fF dF ds)
    (OE : FnOk P w K mg base CX0 1 fE dE ["self", "other"] (spEqS CG)) (bE : Binds K dE ["self", "other"] []) (mE : OwnM K CG "__eq__" fE) (nt : NotT K CG "str") :
    FnOk P w K mg base CX0 6 f fd ["_law_made_here", "_law_picture", "_law_cx", "_law_cy", "_law_hue", "_law_region"] (spAsked CR CC CS CP CG) := by
  refine F.ok scAq (fun vs H Q E h => ?_) (fun cdv A outer s H vs Q E hr h => ?_)
  · obtain ⟨r, pic, x, y, z, v, R, n, κ, st, need, ms, M, rfl, _⟩ := h
    rfl
  · obtain ⟨r, pic, x, y, z, v, R, n, κ, st, need, ms, M, rfl, k3, hR, hp, g, hv, lz, few, each, k⟩ := h
    have hr1 : Room 1 _ := hr.mono (by decide)
    refine ⟨_, pss_one (ps_try_clauses (i := 6) (n := "e") (l := [(.ref CO, tsAq1 K CE), (.ref CW, tsAq2 K CE)]) (tb := tbAq CR CC CS CP CG CO CW) (Wout := fun _ _ _ _ => False) rfl rfl scAq.nd rfl rfl takes0
        (fun W pn xe tk _ => pss_cons (ps_if (pt_cmpR (by exact (op_eq.or (op_eqS OE hr1 bE mE nt))) (pv 5) pe_str (nomark _)) (pss_one (ps_ret (by exact pe_or3 (fun κ k3 => pe_methED (E := WE W) (pv 0) (FF.T κ k3).cl (FF.m κ k3) (FF.ok κ k3) hr FF.bd FF.dv (fun σ => passAt tk σ) (by exact pa_cons (pv 1) (pa_cons (pv 2) (pa_cons (pv 3) (pa_cons (pv 4) pa_nil)))))))) pss_nil)
          (pss_one (ps_ret (by exact pe_or3 (fun κ k3 => pe_methN (E := WE W) (pv 0) (FF.T κ k3).cl (FF.m κ k3) (FF.ok κ k3) hr FF.kw (fun σ => passAt tk σ) (by exact pa_cons (pv 1) (pa_cons (pv 2) (pa_cons (pv 3) (pa_cons (pv 4) pa_nil)))) (by exact pk_cons (pv 5) pk_nil))))))
        (.cons ⟨rfl, by decide, .inl Y.gO⟩ (fun a oe cls d pn hz hf => pss_one (ps_ret (by exact pe_tup (pa_cons pe_str (pa_cons (pe_errX hz hf (pv 6)) (pa_cons (pe_errX hz hf (pv 6)) (pa_cons (pe_callB (call_isX hz hf) (by rfl) L.isi (by decide +kernel) (pa_cons (pv 6) (pa_cons (pe_glob (v := .ref CE) (by rfl) Y.gE rfl) pa_nil))) pa_nil)))))))
          (.cons ⟨rfl, by decide, .inl Y.gW⟩ (fun a oe cls d pn hz hf => pss_one (ps_ret (by exact pe_tup (pa_cons pe_str (pa_cons (pe_errX hz hf (pv 6)) (pa_cons (pe_callB (call_isX hz hf) (by rfl) L.isi (by decide +kernel) (pa_cons (pv 6) (pa_cons (pe_glob (v := .ref CE) (by rfl) Y.gE rfl) pa_nil))) pa_nil)))))) .nil))), ?_⟩
    have hR0 := hR
    obtain ⟨dx, fs, l, ks2, hr0, h1, h2, h3, h4, hc, ek⟩ := hR
    -- the three ways out
    have wO : ∀ (D : Ends), D.rt = Q → inB R x y = false → Lets (WE (wClauses K 6 (fun _ _ _ _ => False) D [(.ref CO, tsAq1 K CE), (.ref CW, tsAq2 K CE)]) [some (.ref r), some (.ref pic), some (.int x), some (.int y), some (.str (S z)), some v, none]) CO [("y", .int y), ("x", .int x)] H := by
      intro D eD io d G nd hd sG
      refine ⟨true, Y.teO, fun _ ea na => ?_, fun z => nomatch z⟩
      refine ⟨_, rfl, CO, d, _, .int x, rfl, rfl, rfl, Y.erO, Y.nX, hd, rfl, _, rfl, CO, d, _, .int y, rfl, rfl, rfl, Y.erO, Y.nY, hd, rfl, _, rfl, CO, d, _, .ref CE, .ref CE, true, rfl, rfl, rfl, Y.erO, hd, fun u z => z, Y.kO, by show 4 ≤ sizeLine; decide, fun T nT => ?_⟩
      show D.rt (.ref T) _
      rw [eD]
      refine k T _ (sG.trans (same_upd nT)) (back sG nT) ?_
      unfold resP
      rw [if_neg (by rw [io]; decide)]
      exact ⟨T, rfl, upd_same⟩
    have wW : ∀ (D : Ends), D.rt = Q → inB R x y = true → laysB κ st z = false → Lets (WE (wClauses K 6 (fun _ _ _ _ => False) D [(.ref CO, tsAq1 K CE), (.ref CW, tsAq2 K CE)]) [some (.ref r), some (.ref pic), some (.int x), some (.int y), some (.str (S z)), some v, none]) CW [("stone", .str (S z))] H := by
      intro D eD io ly d G nd hd sG
      refine ⟨false, Y.teWO, (fun z => nomatch z), fun _ => ⟨true, Y.teW, fun _ ea na => ?_, fun z => nomatch z⟩⟩
      refine ⟨_, rfl, CW, d, _, .str (S z), rfl, rfl, rfl, Y.erW, Y.nS, hd, rfl, _, rfl, CW, d, _, .ref CE, .ref CE, true, rfl, rfl, rfl, Y.erW, hd, fun u z => z, Y.kW, by show 3 ≤ sizeLine; decide, fun T nT => ?_⟩
      show D.rt (.ref T) _
      rw [eD]
      refine k T _ (sG.trans (same_upd nT)) (back sG nT) ?_
      unfold resP
      rw [if_pos io, if_neg (by rw [ly]; decide)]
      exact ⟨T, rfl, upd_same⟩
    have wL : inB R x y = true → laysB κ st z = true → ∀ p ks H', Same H H' → H p = none → H' p = some (.lst (refs ks)) → Tups H' ks → cellsOf ks = clashL R M x y (condsOf κ z ms) → Q (.ref p) H' := by
      intro io ly p ks H' s np hp' tks ec
      refine k p H' s np ?_
      unfold resP
      rw [if_pos io, if_pos ly]
      exact ⟨p, ks, rfl, hp', tks, ec⟩
    rcases hv with ⟨rfl, rfl⟩ | ⟨rfl, rfl⟩ | ⟨rg, rfl, hM⟩
    · refine ⟨_, rfl, .inl ⟨rfl, _, rfl, iteTe (decide_eq_true rfl) ?_⟩⟩
      exact ⟨κ, k3, _, rfl, r, dx, fs, rfl, hr0, h4 _ (by decide), _, rfl, _, rfl, _, rfl, _, rfl, r, pic, x, y, z, .non, R, n, [], st, need, ms, rfl, hR0, hp, g, .inl ⟨rfl, rfl⟩, lz, few, each, wO _ rfl, wW _ rfl, wL⟩
    · refine ⟨_, rfl, .inl ⟨rfl, _, rfl, iteFe (by rfl) ?_⟩⟩
      exact ⟨κ, k3, _, rfl, r, dx, fs, rfl, hr0, h4 _ (by decide), _, rfl, _, rfl, _, rfl, _, rfl, _, rfl, rfl, rfl, r, pic, x, y, z, .non, R, n, [], st, need, ms, rfl, hR0, hp, g, .inl ⟨rfl, rfl⟩, lz, few, each, wO _ rfl, wW _ rfl, wL⟩
    · refine ⟨_, rfl, .inr ⟨rg, M, _, rfl, rfl, hM, _, rfl, iteF ?_⟩⟩
      exact ⟨κ, k3, _, rfl, r, dx, fs, rfl, hr0, h4 _ (by decide), _, rfl, _, rfl, _, rfl, _, rfl, _, rfl, rfl, rfl, r, pic, x, y, z, .ref rg, R, n, M, st, need, ms, rfl, hR0, hp, g, .inr ⟨rg, rfl, hM⟩, lz, few, each, wO _ rfl, wW _ rfl, wL⟩
end
end Pm
namespace Pm
open PySem PySem.Spec PyProof.Rows L2 SX NdefX
/-! ### sorted lists of the same cells -/
theorem flip1_inj {c d : Cell} (h : flip1 c = flip1 d) : c = d := Prod.ext (congrArg Prod.snd h) (congrArg Prod.fst h)
theorem lexc_eq {p q : Int × Int} (h1 : SrtO.lexB p q = false) (h2 : SrtO.lexB q p = false) : p = q := by
  have a := SrtO.lexB_no.mp h1
  have b := SrtO.lexB_no.mp h2
  exact Prod.ext (by omega) (by omega)
theorem rd_uniq : ∀ {M N : List Cell}, M.Perm N → RdOrd M → RdOrd N → M = N
  | [], N, p, _, _ => List.Perm.nil_eq p
  | a :: M, [], p, _, _ => absurd p.length_eq (by simp)
  | a :: M, b :: N, p, h1, h2 => by
    have ha := List.pairwise_cons.mp h1
    have hb := List.pairwise_cons.mp h2
    have ab : a = b := by
      have m1 : a ∈ b :: N := p.mem_iff.mp List.mem_cons_self
      have m2 : b ∈ a :: M := p.mem_iff.mpr List.mem_cons_self
      rcases List.mem_cons.mp m1 with e | e
      · exact e
      · rcases List.mem_cons.mp m2 with e2 | e2
        · exact e2.symm
        · exact flip1_inj (lexc_eq (hb.1 a e) (ha.1 b e2))
    subst ab
    rw [rd_uniq p.cons_inv ha.2 hb.2]
theorem clash_rd {R : Rows} {M : List Cell} {x y : Int} {cs : List Cnd} (h : Ord cs) : RdOrd (clashL R M x y cs) := by
  rw [clashL_eq]
  unfold RdOrd
  refine List.pairwise_map.mpr ((List.Pairwise.filter _ h).imp fun {p q} e => ?_)
  have a := SrtO.lexB_no.mp e
  refine SrtO.lexB_no.mpr ?_
  show _
  simp only [fl, flip1, placeC] at a ⊢
  omega
theorem conds_ord {κ hue : Nat} {st : List Nat} {cs ms : List Cnd} (h : Made κ hue st cs ms) (z : List Nat) : Ord (condsOf κ z ms) := by
  unfold condsOf
  by_cases k2 : κ = 2
  · rw [if_pos k2]
    exact List.pairwise_map.mpr (h.1.imp fun e => e)
  · rw [if_neg k2]
    exact h.1
/-- what is due -/
structure DueR (R : Rows) (M : List Cell) (x y : Int) (κ hue : Nat) (z : List Nat) (cs : List Cnd) (res : Res) : Prop where
  out : inB R x y = false → res = .out x y
  wrong : inB R x y = true → (decide (κ = 2) || decide (z = [hue])) = false → res = .wrong z
  lst : inB R x y = true → (decide (κ = 2) || decide (z = [hue])) = true → ∃ N, res = .lst N ∧ N.Perm (foundL R M x y κ z cs) ∧ RdOrd N
theorem due_eq {R : Rows} {M M' : List Cell} {x y : Int} {κ hue : Nat} {z st : List Nat} {cs ms : List Cnd} {res : Res} (h : DueR R M x y κ hue z cs res) (hM : Made κ hue st cs ms) (hl : Let hue) (sz : stoneB z = true) (mem : ∀ c, c ∈ M' ↔ c ∈ M) : resP R M' x y κ st z ms = res := by
  have ly := hM.lays hl z
  rw [sz, Bool.true_and] at ly
  unfold resP
  cases io : inB R x y with
  | false =>
    rw [if_neg (by decide)]
    exact (h.out io).symm
  | true =>
    rw [if_pos rfl, ← ly]
    cases hh : (decide (κ = 2) || decide (z = [hue])) with
    | false =>
      rw [if_neg (by decide)]
      exact (h.wrong io hh).symm
    | true =>
      rw [if_pos rfl]
      obtain ⟨N, e, p, o⟩ := h.lst io hh
      rw [e]
      have e1 : foundL R M' x y κ z cs = foundL R M x y κ z cs := by
        have : clashC R M' x y κ z = clashC R M x y κ z := by
          funext c
          unfold clashC clashB
          rw [show decide (placeC x y c ∈ M') = decide (placeC x y c ∈ M) from decide_eq_decide.mpr (mem _)]
        unfold foundL
        rw [this]
      have p2 := found_perm hM R M' x y z
      rw [e1] at p2
      rw [rd_uniq (p2.trans p.symm) (clash_rd (conds_ord hM z)) o]
theorem sgn_hash {R : Rows} {n : Nat} (g : Grid R n) (x y : Int) : decide (sgn R (x, y) = 35) = !inB R x y := by
  unfold sgn
  cases io : inB R x y with
  | false =>
    rw [if_neg (by decide)]
    rfl
  | true =>
    rw [if_pos rfl]
    obtain ⟨i, j, rfl, rfl, hi, hj⟩ := g.inside io
    obtain ⟨e, m, l⟩ := g.at hj
    have gi : (rowAt R j)[i]? = some ((rowAt R j)[i]'(by omega)) := List.getElem?_eq_getElem (by omega)
    have mem := List.getElem_mem (l := rowAt R j) (n := i) (by omega)
    have gd := g.sgn _ m _ mem
    show decide ((rowAt R ((j : Int)).toNat).getD ((i : Int)).toNat 0 = 35) = false
    rw [show ((j : Int)).toNat = j from rfl, show ((i : Int)).toNat = i from rfl, List.getD_eq_getElem?_getD, gi]
    refine decide_eq_false fun e => ?_
    have e : (rowAt R j)[i]'(by omega) = 35 := e
    rw [e] at gd
    unfold Good Let at gd
    omega
section
variable {P : Program} {w : World} {K : PySem.W.Frag} {mg : Str → Option Value} {base : Heap} {CR CC CS CP CG CO CW CE CI : Addr}
def spDueL : Sp := fun vs H Q _ => ∃ t pl κ hue ks need rl R n x y z p fs, vs = [.ref t, .ref rl, .int x, .int y, .str (S z), .ref p] ∧ RuleT H t pl κ hue ks need ∧ H rl = some (.lst (rowsV R)) ∧ Grid R n ∧ z.length ≤ 1000 ∧ H p = some (.lst (refs fs)) ∧ Tups H fs ∧
  ∀ q H' res, Same H H' → H q = none → ResAt H' (.ref q) res → DueR R (cellsOf fs) x y κ hue z (ks.map (·.2)) res → Q (.ref q) H'
theorem scDue : FnScope ["_law_rule_here", "_law_rows", "_law_cx", "_law_cy", "_law_hue", "_law_free"] ["_law_rule_here", "_law_rows", "_law_cx", "_law_cy", "_law_hue", "_law_free"] (defScope lDue) := ⟨rfl, rfl, rfl, by decide +kernel, rfl, by decide +kernel, by decide +kernel⟩
theorem ok_duel {f a1 a2 a3 : Addr} {fd b1 b2 b3 : FuncData} (F : Fun K "_law_due" "_law_due" lDue f fd) (cSg : Cl P w K mg base CX0 1 "_law_sign" ["_law_rows", "_law_cx", "_law_cy"] spSign a1 b1) (cLy : Cl P w K mg base CX0 1 "_law_lays" ["_law_rule_here", "_law_hue"] spLaysL a2 b2)
    (cCl : Cl P w K mg base CX0 2 "_law_clashing" ["_law_rule_here", "_law_rows", "_law_cx", "_law_cy", "_law_hue", "_law_free"] spClashing a3 b3) : FnOk P w K mg base CX0 3 f fd ["_law_rule_here", "_law_rows", "_law_cx", "_law_cy", "_law_hue", "_law_free"] spDueL := by
  refine F.ok scDue (fun vs H Q E h => ?_) (fun cdv A outer s H vs Q E hr h => ?_)
  · obtain ⟨t, pl, κ, hue, ks, need, rl, R, n, x, y, z, p, fs, rfl, _⟩ := h
    rfl
  · obtain ⟨t, pl, κ, hue, ks, need, rl, R, n, x, y, z, p, fs, rfl, hT, hrl, g, lz, hp, hf, k⟩ := h
    have hr1 : Room 1 _ := hr.mono (by decide)
    have hr2 : Room 2 _ := hr
    refine ⟨_, (pss_cons (ps_if (pt_cmpR op_eq (pe_call cSg.ok hr1 (by rfl) cSg.gl cSg.kp cSg.bd .nil pass0 (pa_cons (pv 1) (pa_cons (pv 2) (pa_cons (pv 3) pa_nil)))) pe_str (nomark _)) (pss_one (ps_ret (pe_tup (pa_cons pe_str (pa_cons (pv 2) (pa_cons (pv 3) (pa_cons pe_bl pa_nil))))))) pss_nil)
      (pss_cons (ps_if (pt_not (pt_val (pe_call cLy.ok hr1 (by rfl) cLy.gl cLy.kp cLy.bd .nil pass0 (pa_cons (pv 0) (pa_cons (pv 4) pa_nil))))) (pss_one (ps_ret (pe_tup (pa_cons pe_str (pa_cons (pv 4) (pa_cons pe_bl pa_nil)))))) pss_nil)
      (pss_one (ps_ret (pe_call cCl.ok hr2 (by rfl) cCl.gl cCl.kp cCl.bd .nil pass0 (pa_cons (pv 0) (pa_cons (pv 1) (pa_cons (pv 2) (pa_cons (pv 3) (pa_cons (pv 4) (pa_cons (pv 5) pa_nil))))))))))), ?_⟩
    have es : signAt R x y = [sgn R (x, y)] := sign_sgn R (x, y)
    refine seqIfN (b := !inB R x y) (fun _ q => ⟨_, rfl, _, rfl, _, rfl, rl, R, n, x, y, rfl, hrl, g, by rw [es]; exact ⟨rfl, _, rfl, by rw [hash1, one_str, sgn_hash g]; exact q⟩⟩) (fun e => ?_) (fun e => ?_)
    · have io : inB R x y = false := by simpa using e
      refine ⟨_, rfl, _, rfl, by show 4 ≤ sizeLine; decide, fun T nT => ?_⟩
      exact k T _ (.out x y) (same_upd nT) nT ⟨T, rfl, upd_same⟩ ⟨fun _ => rfl, (fun h => by rw [io] at h; cases h), (fun h => by rw [io] at h; cases h)⟩
    have io : inB R x y = true := not_f e
    refine seqIfN (fun _ q => tNotW (fun _ q1 => ⟨_, rfl, _, rfl, t, pl, κ, hue, ks, need, z, rfl, hT, _, rfl, q1⟩) q) (fun e => ?_) (fun e => ?_)
    · have ly : (decide (κ = 2) || decide (z = [hue])) = false := by simpa using e
      refine ⟨_, rfl, by show 3 ≤ sizeLine; decide, fun T nT => ?_⟩
      exact k T _ (.wrong z) (same_upd nT) nT ⟨T, rfl, upd_same⟩ ⟨(fun h => by rw [io] at h; cases h), fun _ _ => rfl, (fun _ h => by rw [ly] at h; cases h)⟩
    have ly : (decide (κ = 2) || decide (z = [hue])) = true := not_f e
    refine ⟨_, rfl, _, rfl, _, rfl, _, rfl, _, rfl, _, rfl, t, pl, κ, hue, ks, need, rl, R, n, x, y, z, p, fs, rfl, hT, hrl, g, lz, hp, hf, fun q ms G sG nq hq hms pm od => ?_⟩
    exact k q G (.lst (cellsOf ms)) sG nq ⟨q, ms, rfl, hq, hms, rfl⟩ ⟨(fun h => by rw [io] at h; cases h), (fun _ h => by rw [ly] at h; cases h), fun _ _ => ⟨_, rfl, pm, od⟩⟩
def spRightL : Sp := fun vs H Q _ => ∃ v u res, vs = [v, u] ∧ ResAt H v res ∧ ResAt H u res ∧ res.low ∧ Q (.bl true) H
theorem scRight : FnScope ["_law_told", "_law_due_here"] ["_law_told", "_law_due_here"] (defScope lRight) := ⟨rfl, rfl, rfl, by decide +kernel, rfl, by decide +kernel, by decide +kernel⟩
theorem ok_rightl {f g : Addr} {fd gd : FuncData} (F : Fun K "_law_right" "_law_right" lRight f fd) (L : LTxt K mg) (cZ : Cl P w K mg base CX0 3 "_law_is_cells" ["_law_value"] spIsCells g gd) : FnOk P w K mg base CX0 4 f fd ["_law_told", "_law_due_here"] spRightL := by
  refine F.ok scRight (fun vs H Q E h => ?_) (fun cdv A outer s H vs Q E hr h => ?_)
  · obtain ⟨v, u, res, rfl, _⟩ := h
    rfl
  · obtain ⟨v, u, res, rfl, hv, hu, low, k⟩ := h
    refine ⟨_, (pss_cons (ps_if (PW.pt (pw_and (pt_val (pe_callB call_isi (by rfl) L.isi (by decide +kernel) (pa_cons (pv 1) (pa_cons (pe_bltn (v := .ty "list") (by rfl) L.lst (by decide +kernel) rfl) pa_nil)))) (pw_and1 (pt_not (pt_val (pe_call cZ.ok hr (by rfl) cZ.gl cZ.kp cZ.bd .nil pass0 (pa_cons (pv 0) pa_nil))))))) (pss_one (ps_ret pe_bl)) pss_nil)
      (pss_one (ps_ret (pe_cmpR (op_eqD hr.units) (pv 0) (pv 1) (nomark _))))), ?_⟩
    have fin : ∀ (D : Ends), D.rt = Q → tRet (tOp (rEqD K) (tVar 0) (tVar 1)) D [some v, some u] H := by
      intro D eD
      refine ⟨_, rfl, _, rfl, dRes res, dRes res, hv.dp, hu.dp, dRes_shaped low, dRes_shaped low, ?_⟩
      rw [eqD (dRes_shaped low), eD]
      exact k
    refine seqIfN (b := false) (fun _ q => ?_) (fun e => nomatch e) (fun _ => fin _ rfl)
    cases res with
    | lst M =>
      obtain ⟨p, ks, rfl, b, c, d⟩ := hv
      obtain ⟨p2, ks2, rfl, b2, c2, d2⟩ := hu
      exact ⟨_, rfl, .ref p2, .ty "list", .type "list", .type "list", true, rfl, .ty _, .base (.lst b2), kit_ty (by decide +kernel), true, rfl, iteT ⟨_, rfl, p, ks, rfl, b, c, true, rfl, q⟩⟩
    | out x y =>
      obtain ⟨t, rfl, b⟩ := hv
      obtain ⟨t2, rfl, b2⟩ := hu
      exact ⟨_, rfl, .ref t2, .ty "list", .type "tuple", .type "list", false, rfl, .ty _, .base (.tup b2), kit_ty (by decide +kernel), false, rfl, iteF q⟩
    | wrong z =>
      obtain ⟨t, rfl, b⟩ := hv
      obtain ⟨t2, rfl, b2⟩ := hu
      exact ⟨_, rfl, .ref t2, .ty "list", .type "tuple", .type "list", false, rfl, .ty _, .base (.tup b2), kit_ty (by decide +kernel), false, rfl, iteF q⟩
end
end Pm
namespace Pm
open PySem PySem.Spec PyProof.Rows L2 SX NdefX
/-! ### wishes whose pieces add to the heap -/
theorem andS {ta tb : TE} {σ : L2.St} {G : Hp} {Q : VK} (b c : Bool) (ha : ∀ Q' : VK, Q' (.bl b) G → ta σ G Q') (hb : ∀ Q' : VK, (∀ G', Same G G' → Q' (.bl c) G') → tb σ G Q') (h : ∀ G', Same G G' → Q (.bl (b && c)) G') : tAndV ta tb σ G Q := by
  refine ha _ ⟨_, rfl, ?_⟩
  cases b
  · exact iteF (h G (Same.refl G))
  · exact iteT (hb _ h)
theorem seqIfS {c : TT} {a r : TS} {D : Ends} {σ : L2.St} {G : Hp} (hc : ∀ Q' : Bool → Hp → Prop, (∀ G', Same G G' → Q' false G') → c σ G Q') (hF : ∀ G', Same G G' → r D σ G') : tSeq (tIfS c a tNext) r D σ G := hc _ fun G' s => iteF (hF G' s)
theorem ifS {c : TT} {a : TS} {D : Ends} {σ : L2.St} {G : Hp} (hc : ∀ Q' : Bool → Hp → Prop, (∀ G', Same G G' → Q' false G') → c σ G Q') (hF : ∀ G', Same G G' → D.nx σ G') : tIfS c a tNext D σ G := hc _ fun G' s => iteF (hF G' s)
theorem setS {te : TE} {i : Nat} {r : TS} {D : Ends} {σ : L2.St} {G : Hp} (v : V) (he : ∀ Q' : VK, (∀ G', Same G G' → Q' v G') → te σ G Q') (h : ∀ G', Same G G' → r D (σ.set i (some v)) G') : tSeq (tAsg te (gName i)) r D σ G := he _ fun G' s => h G' s
/-! ### what the bag leaves alone -/
theorem SameBut.tup {p a : Addr} {H H' : Hp} {xs ys : List V} (s : SameBut p H H') (hp : H p = some (.lst xs)) (h : H a = some (.tup ys)) : H' a = some (.tup ys) := s a _ (fun e => by rw [e, hp] at h; cases h) h
theorem CndsAt.but {p a : Addr} {H H' : Hp} {xs : List V} {ks : List (Addr × Cnd)} (h : CndsAt H a ks) (s : SameBut p H H') (hp : H p = some (.lst xs)) (ne : a ≠ p) : CndsAt H' a ks := ⟨s a _ ne h.lst, fun q m => s.tup hp (h.each q m)⟩
theorem RuleT.but {p : Addr} {H H' : Hp} {xs : List V} {t pl : Addr} {κ hue : Nat} {ks : List (Addr × Cnd)} {need : Int} (h : RuleT H t pl κ hue ks need) (s : SameBut p H H') (hp : H p = some (.lst xs)) (ne : pl ≠ p) : RuleT H' t pl κ hue ks need := ⟨s.tup hp h.at_, h.cs.but s hp ne, h.good⟩

theorem RuleAt.bag {C r b l : Addr} {H H' : Hp} {κ : Nat} {st : List Nat} {need : Int} {ms : List Cnd} (h : RuleAt C H r κ st need ms) (hb : BagL H b l) (s : SameBut b H H') : RuleAt C H' r κ st need ms := by
  obtain ⟨dx, fs, lr, ks, a, c, d, e, f, g, k⟩ := h
  obtain ⟨ns, i, p, q, hbb, _⟩ := hb
  have rb : r ≠ b := fun e => by rw [e, hbb] at a; cases a
  have lb : lr ≠ b := fun e => by
    have := g.lst
    rw [e, hbb] at this
    have e2 := HO.lst.inj (Option.some.inj this)
    cases ks with
    | nil => cases e2
    | cons k1 ks =>
      cases ks with
      | nil => cases e2
      | cons k2 ks => cases e2
  exact ⟨dx, fs, lr, ks, s _ _ rb a, c, d, e, f, ⟨s _ _ lb g.lst, fun q m => s _ _ (fun e => by have := g.each q m; rw [e, hbb] at this; cases this) (g.each q m)⟩, k⟩
theorem rows_bag {a b l : Addr} {H : Hp} {R : Rows} (h : H a = some (.lst (rowsV R))) (hb : BagL H b l) : a ≠ b := fun e => by
  obtain ⟨ns, i, p, q, hbb, _⟩ := hb
  rw [e, hbb] at h
  have e2 := HO.lst.inj (Option.some.inj h)
  cases R with
  | nil => cases e2
  | cons k1 ks => cases e2
theorem refs_bag {a b l : Addr} {H : Hp} {ks : CL} (h : H a = some (.lst (refs ks))) (hb : BagL H b l) : a ≠ b := fun e => by
  obtain ⟨ns, i, p, q, hbb, _⟩ := hb
  rw [e, hbb] at h
  have e2 := HO.lst.inj (Option.some.inj h)
  cases ks with
  | nil => cases e2
  | cons k1 ks =>
    cases ks with
    | nil => cases e2
    | cons k2 ks => cases e2
theorem PicAt.bag {C r b l : Addr} {H H' : Hp} {R : Rows} (h : PicAt C H r R) (hb : BagL H b l) (s : SameBut b H H') : PicAt C H' r R := by
  obtain ⟨dx, lr, a, c⟩ := h
  have lb := rows_bag c hb
  obtain ⟨xs, hbb⟩ := bag_b hb
  exact ⟨dx, lr, s _ _ (fun e => by rw [e, hbb] at a; cases a) a, s _ _ lb c⟩
theorem Made.each {κ hue : Nat} {st : List Nat} {cs ms : List Cnd} (h : Made κ hue st cs ms) (g : ∀ c ∈ cs, c.2.length ≤ 1000) : ∀ c ∈ ms, c.2.length ≤ 1000 := by
  intro c m
  rcases h.2 with ⟨_, _, p⟩ | ⟨_, _, p⟩
  · obtain ⟨d, hd, rfl⟩ := List.mem_map.mp (p.mem_iff.mp m)
    show (asc d.2).length ≤ 1000
    rw [(asc_perm d.2).length_eq]
    exact g d hd
  · obtain ⟨d, hd, rfl⟩ := List.mem_map.mp (p.mem_iff.mp m)
    show (asc alphaL).length ≤ 1000
    rw [(asc_perm alphaL).length_eq, alphaL_len]
    decide

/-! ### the cells around -/
def sh (c : Cell) : Cell := (c.1 - 2, c.2 - 2)
theorem sh_inj {c d : Cell} (h : sh c = sh d) : c = d := by
  have a := congrArg Prod.fst h
  have b := congrArg Prod.snd h
  unfold sh at a b
  exact Prod.ext (by omega) (by omega)
theorem around_nd (n m : Nat) : ((allC n m).map sh).Nodup := List.pairwise_map.mpr ((allC_asc n m).imp fun {c d} h e => by
  have := sh_inj e
  subst this
  exact bef_irr _ h)
theorem same_updO {H H2 : Hp} {p : Addr} {o : HO} (s : Same H H2) (np : H p = none) : Same H (upd H2 p o) := fun a x e => by
  have ne : a ≠ p := by
    rintro rfl
    rw [np] at e
    cases e
  rw [upd_ne ne]
  exact s a x e
theorem res_len {R : Rows} {M N : List Cell} {x y : Int} {κ : Nat} {st z : List Nat} {ms : List Cnd} (h : resP R M x y κ st z ms = .lst N) : N.length ≤ ms.length := by
  unfold resP at h
  split at h
  · split at h
    · cases h
      unfold clashL
      rw [List.length_map]
      have f := List.length_filter_le (fun q : Cell × List Nat => clashB R M q.2 q.1) ((condsOf κ z ms).map (lookC x y))
      rw [List.length_map, condsOf_len] at f
      exact f
    · cases h
  · cases h
theorem rd_asc {N : List Cell} (h : RdOrd N) (nd : N.Nodup) : N.Pairwise bef := by
  refine (List.Pairwise.and h nd).imp fun {p q} e => ?_
  have a := SrtO.lexB_no.mp e.1
  have ne : p ≠ q := e.2
  unfold flip1 at a
  unfold bef
  by_cases h2 : p.2 = q.2
  · refine .inr ⟨h2, ?_⟩
    have : p.1 ≠ q.1 := fun h1 => ne (Prod.ext h1 h2)
    simp only at a
    omega
  · simp only at a
    exact .inl (by omega)
theorem DueR.low {R : Rows} {M : List Cell} {x y : Int} {κ hue : Nat} {z : List Nat} {cs : List Cnd} {res : Res} (h : DueR R M x y κ hue z cs res) (lz : lowZ z) : res.low := by
  cases io : inB R x y with
  | false =>
    rw [h.out io]
    trivial
  | true =>
    cases hh : (decide (κ = 2) || decide (z = [hue])) with
    | false =>
      rw [h.wrong io hh]
      exact lz
    | true =>
      obtain ⟨N, e, _⟩ := h.lst io hh
      rw [e]
      trivial
def textsK : Rows := [[65], [], [97, 98], [35], [46]]
theorem textsK_V : [V.str "A", .str "", .str "ab", .str "#", .str "."] = rowsV textsK := by rfl
theorem textsK_ok : ∀ z ∈ textsK, z.length ≤ 1000 ∧ lowZ z ∧ stoneB z = false := by
  intro z m
  simp only [textsK, List.mem_cons, List.not_mem_nil, or_false] at m
  rcases m with rfl | rfl | rfl | rfl | rfl <;> refine ⟨by decide, by unfold lowZ; decide, by decide⟩
/-- what stays from the rule on -/
structure W0 (CP CR CC CS : Addr) (G : Hp) (rl t r pic pl : Addr) (R : Rows) (κ hue : Nat) (ks : List (Addr × Cnd)) (need : Int) (st : List Nat) (ms : List Cnd) : Prop where
  rows : G rl = some (.lst (rowsV R))
  rule : RuleT G t pl κ hue ks need
  made : RuleAt (clsOf CR CC CS κ) G r κ st need ms
  pic : PicAt CP G pic R
theorem W0.same {CP CR CC CS : Addr} {G G' : Hp} {rl t r pic pl : Addr} {R : Rows} {κ hue : Nat} {ks : List (Addr × Cnd)} {need : Int} {st : List Nat} {ms : List Cnd} (h : W0 CP CR CC CS G rl t r pic pl R κ hue ks need st ms) (s : Same G G') : W0 CP CR CC CS G' rl t r pic pl R κ hue ks need st ms :=
  ⟨s _ _ h.rows, h.rule.same s, h.made.same s, h.pic.same s⟩
theorem W0.bag {CP CR CC CS b l : Addr} {G G' : Hp} {rl t r pic pl : Addr} {R : Rows} {κ hue : Nat} {ks : List (Addr × Cnd)} {need : Int} {st : List Nat} {ms : List Cnd} (h : W0 CP CR CC CS G rl t r pic pl R κ hue ks need st ms) (hb : BagL G b l) (s : SameBut b G G') (pb : pl ≠ b) : W0 CP CR CC CS G' rl t r pic pl R κ hue ks need st ms := by
  obtain ⟨xb, hxb⟩ := bag_b hb
  exact ⟨s _ _ (rows_bag h.rows hb) h.rows, h.rule.but s hxb pb, h.made.bag hb s, h.pic.bag hb s⟩
section
variable {P : Program} {w : World} {K : PySem.W.Frag} {mg : Str → Option Value} {base : Heap} {CR CC CS CP CG CO CE CI : Addr}
def spLaw (K : PySem.W.Frag) : Sp := fun vs H Q _ => ∃ (a : Addr) (ns : List Int), vs = [.ref a] ∧ SqL K H a (ns.map V.int) ∧ ns.length ≤ 63 ∧ ∀ H', Q (.bl true) H'
abbrev nLaw : List Str := ["_law_script", "_law_bag_here", "_law_palette_here", "_law_rows", "_law_rule_here", "_law_made_here", "_law_picture", "_law_cx", "_law_cy", "_law_hue", "_law_around", "_law_down", "_law_right_here", "_law_free", "_law_region", "_law_plain", "_law_told", "_law_text", "_law_due_here"]
theorem scLaw : FnScope nLaw ["_law_script"] (defScope lLaw) := ⟨rfl, rfl, rfl, by decide +kernel, rfl, by decide +kernel, by decide +kernel⟩
theorem ok_law {f fP fG fL a1 a2 a3 a4 a5 a6 a7 a8 a9 a10 a11 a12 a13 : Addr} {fd dP' dG dL b1 b2 b3 b4 b5 b6 b7 b8 b9 b10 b11 b12 b13 : FuncData} (F : Fun K "law" "law" lLaw f fd) (L : LTxt K mg) (gP : mg "Picture" = some (.ref CP)) (TP : PCls K CP) (TR : RTxt K mg CG)
    (MP : Mk K CP fP) (OP : FnOk P w K mg base (L2.CX P w) 5 fP dP' ["self", "rows"] (spInit CP CI)) (bP : Binds K dP' ["self", "rows"] []) (MG : Mk K CG fG) (OG : FnOk P w K mg base CX0 1 fG dG ["self", "cells"] (spRInit K CG)) (bG : Binds K dG ["self", "cells"] [])
    (mLi : Meth K CP "lines" fL) (OLi : FnOk P w K mg base CX0 1 fL dL ["self"] (spLines CP)) (bLi : Binds K dL ["self"] [])
    (cBag : Cl P w K mg base CX0 1 "_law_bag" ["_law_script"] (spBag K) a1 b1) (cTake : Cl P w K mg base CX0 1 "_law_take" tkNames spTake a2 b2) (cPal : Cl P w K mg base CX0 2 "_law_palette" ["_law_bag_here"] spPal a3 b3) (cGrid : Cl P w K mg base CX0 3 "_law_grid" ["_law_bag_here", "_law_palette_here"] spGrid a4 b4)
    (cRule : Cl P w K mg base CX0 4 "_law_rule" ["_law_bag_here", "_law_palette_here"] spRule a5 b5) (cMade : Cl P w K mg base CX0 7 "_law_made" ["_law_rule_here"] (spMade CR CC CS) a6 b6) (cSub : Cl P w K mg base CX0 2 "_law_subset" ["_law_bag_here", "_law_cells", "_law_share"] spSubset a7 b7)
    (cDue : Cl P w K mg base CX0 3 "_law_due" ["_law_rule_here", "_law_rows", "_law_cx", "_law_cy", "_law_hue", "_law_free"] spDueL a8 b8) (cRi : Cl P w K mg base CX0 4 "_law_right" ["_law_told", "_law_due_here"] spRightL a9 b9)
    (cAq : Cl P w K mg base CX0 6 "_law_asked" ["_law_made_here", "_law_picture", "_law_cx", "_law_cy", "_law_hue", "_law_region"] (spAsked CR CC CS CP CG) a10 b10) (cSg : Cl P w K mg base CX0 1 "_law_sign" ["_law_rows", "_law_cx", "_law_cy"] spSign a11 b11)
    (cRg : Cl P w K mg base CX0 4 "_law_region_is" ["_law_region", "_law_due_here"] (spRegIs K CG) a12 b12) (cRd : Cl P w K mg base CX0 1 "_law_reading" ["_law_cells"] spReading a13 b13) :
    FnOk P w K mg base CX0 8 f fd ["_law_script"] (spLaw K) := by
  refine F.ok scLaw (fun vs H Q E h => ?_) (fun cdv A outer s H vs Q E hr h => ?_)
  · obtain ⟨a, ns, rfl, _⟩ := h
    rfl
  · obtain ⟨a, ns, rfl, ha, few, k⟩ := h
    have hr1 : Room 1 _ := hr.mono (by decide)
    have hr2 : Room 2 _ := hr.mono (by decide)
    have hr3 : Room 3 _ := hr.mono (by decide)
    have hr4 : Room 4 _ := hr.mono (by decide)
    have hr6 : Room 6 _ := hr.mono (by decide)
    refine ⟨_, (pss_cons (ps_set (i := 1) scLaw.nd rfl (.inl rfl) (pe_call cBag.ok hr1 (by rfl) cBag.gl cBag.kp cBag.bd .nil pass0 (pa_cons (pv 0) pa_nil)))
      (pss_cons (ps_set (i := 2) scLaw.nd rfl (.inl rfl) (pe_call cPal.ok hr2 (by rfl) cPal.gl cPal.kp cPal.bd .nil pass0 (pa_cons (pv 1) pa_nil)))
      (pss_cons (ps_set (i := 3) scLaw.nd rfl (.inl rfl) (pe_call cGrid.ok hr3 (by rfl) cGrid.gl cGrid.kp cGrid.bd .nil pass0 (pa_cons (pv 1) (pa_cons (pv 2) pa_nil))))
      (pss_cons (ps_set (i := 4) scLaw.nd rfl (.inl rfl) (pe_call cRule.ok hr4 (by rfl) cRule.gl cRule.kp cRule.bd .nil pass0 (pa_cons (pv 1) (pa_cons (pv 2) pa_nil))))
      (pss_cons (ps_set (i := 5) scLaw.nd rfl (.inl rfl) (pe_call cMade.ok hr (by rfl) cMade.gl cMade.kp cMade.bd .nil pass0 (pa_cons (pv 4) pa_nil)))
      (pss_cons (ps_set (i := 6) scLaw.nd rfl (.inl rfl) (pe_makeS (E := fun _ => E0) MP OP hr6 (by rfl) gP bP (fun σ pins H s e s' I c => passF pins σ H s e s' I c) (pa_cons (pe_callTy call_list_of (by rfl) L.lst (by decide +kernel) (pa_cons (pv 3) pa_nil)) pa_nil)))
      (pss_cons (ps_set (i := 7) scLaw.nd rfl (.inl rfl) (pe_op op_sub (pe_call cTake.ok hr1 (by rfl) cTake.gl cTake.kp cTake.bd .nil pass0 (pa_cons (pv 1) (pa_cons (pe_op op_add (pe_callB call_len_str (by rfl) L.len PySem.boot_len (pa_cons (pe_ix ix_list (pv 3) pe_int (fun _ _ => rfl)) pa_nil)) pe_int) pa_nil))) pe_int))
      (pss_cons (ps_set (i := 8) scLaw.nd rfl (.inl rfl) (pe_op op_sub (pe_call cTake.ok hr1 (by rfl) cTake.gl cTake.kp cTake.bd .nil pass0 (pa_cons (pv 1) (pa_cons (pe_op op_add (pe_callB call_len_seq (by rfl) L.len PySem.boot_len (pa_cons (pv 3) pa_nil)) pe_int) pa_nil))) pe_int))
      (pss_cons (ps_set (i := 9) scLaw.nd rfl (.inl rfl) (pe_ix ix_str (pv 2) (pe_call cTake.ok hr1 (by rfl) cTake.gl cTake.kp cTake.bd .nil pass0 (pa_cons (pv 1) (pa_cons pe_int pa_nil))) (fun _ _ => rfl)))
      (pss_cons (ps_set (i := 10) scLaw.nd rfl (.inl rfl) (pe_lst pa_nil))
      (pss_cons (ps_for PassesOwn.never rfl (pi_range1 (by rfl) L.rng (pa_cons (pe_op op_add (pe_callB call_len_seq (by rfl) L.len PySem.boot_len (pa_cons (pv 3) pa_nil)) pe_int) pa_nil)) (pg_name (i := 11) scLaw.nd rfl (.inl rfl)) (pss_one (ps_for PassesOwn.never rfl (pi_range1 (by rfl) L.rng (pa_cons (pe_op op_add (pe_callB call_len_str (by rfl) L.len PySem.boot_len (pa_cons (pe_ix ix_list (pv 3) pe_int (fun _ _ => rfl)) pa_nil)) pe_int) pa_nil)) (pg_name (i := 12) scLaw.nd rfl (.inl rfl)) (pss_one (ps_expr (pe_bm PySem.F.plainAttrs_list PySem.F.slot_list_append PySem.F.type_list_append mt_append (pv 10) (pa_cons (pe_tup (pa_cons (pe_op op_sub (pv 12) pe_int) (pa_cons (pe_op op_sub (pv 11) pe_int) pa_nil))) pa_nil)))))))
      (pss_cons (ps_set (i := 13) scLaw.nd rfl (.inl rfl) (pe_call cSub.ok hr2 (by rfl) cSub.gl cSub.kp cSub.bd .nil pass0 (pa_cons (pv 1) (pa_cons (pv 10) (pa_cons (pe_op op_add pe_int (pe_call cTake.ok hr1 (by rfl) cTake.gl cTake.kp cTake.bd .nil pass0 (pa_cons (pv 1) (pa_cons pe_int pa_nil)))) pa_nil)))))
      (pss_cons (ps_set (i := 14) scLaw.nd rfl (.inl rfl) (pe_make MG OG hr2 (by rfl) TR.mgC bG .nil pass0 (pa_cons (pe_callTy call_list_of (by rfl) L.lst (by decide +kernel) (pa_cons (pv 13) pa_nil)) pa_nil)))
      (pss_cons (ps_set (i := 15) scLaw.nd rfl (.inl rfl) (pe_call cDue.ok hr3 (by rfl) cDue.gl cDue.kp cDue.bd .nil pass0 (pa_cons (pv 4) (pa_cons (pv 3) (pa_cons (pv 7) (pa_cons (pv 8) (pa_cons (pv 9) (pa_cons (pe_lst pa_nil) pa_nil))))))))
      (pss_cons (ps_if (pt_not (pt_val (pe_call cRi.ok hr4 (by rfl) cRi.gl cRi.kp cRi.bd .nil pass0 (pa_cons (pe_call cAq.ok hr6 (by rfl) cAq.gl cAq.kp cAq.bd .nil pass0 (pa_cons (pv 5) (pa_cons (pv 6) (pa_cons (pv 7) (pa_cons (pv 8) (pa_cons (pv 9) (pa_cons pe_str pa_nil))))))) (pa_cons (pv 15) pa_nil))))) (pss_one (ps_ret pe_bl)) pss_nil)
      (pss_cons (ps_set (i := 16) scLaw.nd rfl (.inl rfl) (pe_call cAq.ok hr6 (by rfl) cAq.gl cAq.kp cAq.bd .nil pass0 (pa_cons (pv 5) (pa_cons (pv 6) (pa_cons (pv 7) (pa_cons (pv 8) (pa_cons (pv 9) (pa_cons (pv 14) pa_nil))))))))
      (pss_cons (ps_if (pt_not (pt_val (pe_call cRi.ok hr4 (by rfl) cRi.gl cRi.kp cRi.bd .nil pass0 (pa_cons (pv 16) (pa_cons (pe_call cDue.ok hr3 (by rfl) cDue.gl cDue.kp cDue.bd .nil pass0 (pa_cons (pv 4) (pa_cons (pv 3) (pa_cons (pv 7) (pa_cons (pv 8) (pa_cons (pv 9) (pa_cons (pv 13) pa_nil))))))) pa_nil))))) (pss_one (ps_ret pe_bl)) pss_nil)
      (pss_cons (ps_if (pt_val (pe_callB call_isi (by rfl) L.isi (by decide +kernel) (pa_cons (pv 16) (pa_cons (pe_bltn (v := .ty "list") (by rfl) L.lst (by decide +kernel) rfl) pa_nil)))) (pss_one (ps_expr (pe_bm PySem.F.plainAttrs_list PySem.F.slot_list_append PySem.F.type_list_append mt_append (pv 16) (pa_cons (pe_tup (pa_cons pe_int (pa_cons pe_int pa_nil))) pa_nil)))) pss_nil)
      (pss_cons (ps_if (pt_not (pt_val (pe_call cRi.ok hr4 (by rfl) cRi.gl cRi.kp cRi.bd .nil pass0 (pa_cons (pe_call cAq.ok hr6 (by rfl) cAq.gl cAq.kp cAq.bd .nil pass0 (pa_cons (pv 5) (pa_cons (pv 6) (pa_cons (pv 7) (pa_cons (pv 8) (pa_cons (pv 9) (pa_cons (pv 14) pa_nil))))))) (pa_cons (pe_call cDue.ok hr3 (by rfl) cDue.gl cDue.kp cDue.bd .nil pass0 (pa_cons (pv 4) (pa_cons (pv 3) (pa_cons (pv 7) (pa_cons (pv 8) (pa_cons (pv 9) (pa_cons (pv 13) pa_nil))))))) pa_nil))))) (pss_one (ps_ret pe_bl)) pss_nil)
      (pss_cons (ps_if (pt_not (pt_val (pe_call cRi.ok hr4 (by rfl) cRi.gl cRi.kp cRi.bd .nil pass0 (pa_cons (pe_call cAq.ok hr6 (by rfl) cAq.gl cAq.kp cAq.bd .nil pass0 (pa_cons (pv 5) (pa_cons (pv 6) (pa_cons (pv 7) (pa_cons (pv 8) (pa_cons (pv 9) (pa_cons pe_non pa_nil))))))) (pa_cons (pv 15) pa_nil))))) (pss_one (ps_ret pe_bl)) pss_nil)
      (pss_cons (ps_for PassesOwn.never rfl (pi_list (pe_lst (pa_cons pe_str (pa_cons pe_str (pa_cons pe_str (pa_cons pe_str (pa_cons pe_str pa_nil))))))) (pg_name (i := 17) scLaw.nd rfl (.inl rfl)) (pss_cons (ps_set (i := 18) scLaw.nd rfl (.inl rfl) (pe_tup (pa_cons pe_str (pa_cons (pv 17) (pa_cons pe_bl pa_nil)))))
        (pss_cons (ps_if (pt_cmpR op_eq (pe_call cSg.ok hr1 (by rfl) cSg.gl cSg.kp cSg.bd .nil pass0 (pa_cons (pv 3) (pa_cons (pv 7) (pa_cons (pv 8) pa_nil)))) pe_str (nomark _)) (pss_one (ps_set (i := 18) scLaw.nd rfl (.inl rfl) (pe_tup (pa_cons pe_str (pa_cons (pv 7) (pa_cons (pv 8) (pa_cons pe_bl pa_nil))))))) pss_nil)
        (pss_one (ps_if (pt_cmpR (op_neD hr.units) (pe_call cAq.ok hr6 (by rfl) cAq.gl cAq.kp cAq.bd .nil pass0 (pa_cons (pv 5) (pa_cons (pv 6) (pa_cons (pv 7) (pa_cons (pv 8) (pa_cons (pv 17) (pa_cons (pv 14) pa_nil))))))) (pv 18) (nomark _)) (pss_one (ps_ret pe_bl)) pss_nil)))))
      (pss_one (ps_ret (pe_and (pe_call cRg.ok hr4 (by rfl) cRg.gl cRg.kp cRg.bd .nil pass0 (pa_cons (pv 14) (pa_cons (pe_call cRd.ok hr1 (by rfl) cRd.gl cRd.kp cRd.bd .nil pass0 (pa_cons (pv 13) pa_nil)) pa_nil))) (pe_one (pe_cmpR (op_eqD hr.units) (pe_meth0 (pv 6) TP.cl mLi OLi hr1 bLi .nil pass0) (pv 3) (nomark _))))))))))))))))))))))))))), ?_⟩
    refine ⟨_, rfl, a, ns, rfl, ha, few, fun b l H1 s1 nb hb => ?_⟩
    refine ⟨_, rfl, b, l, rfl, hb, fun z H2 hz u2 b2 => ?_⟩
    have hz0 := hz
    have lz : (S z).length ≤ sizeLine := by rw [len_S, hz.len]; exact small_line (by decide)
    refine ⟨_, rfl, _, rfl, b, l, _, rfl, b2, hz0, fun rl R n H3 g s3 b3 nrl hrl sz64 => ?_⟩
    refine ⟨_, rfl, _, rfl, b, l, _, rfl, b3, hz0, fun t pl κ hue ks need H4 s4 b4 hT tb pb => ?_⟩
    have hrl4 := s4 _ _ (rows_bag hrl b3) hrl
    refine ⟨_, rfl, t, pl, κ, hue, ks, need, rfl, hT, fun r st ms H5 s5 hR hM => ?_⟩
    have h8 := g.h8
    have h1 := g.h1
    have w8 := g.w8
    have k3 := hT.good.k3
    have hue_ok := hT.good.hue
    have b5 := bag_sb b4 s5
    refine ⟨_, rfl, rl, _, rfl, .inl (SqL.of (s5 _ _ hrl4)), fun q nq pic dx nx nd ne => ?_⟩
    refine ⟨pic, dx, q, R, rfl, upd_same, made_same nx nd _ _ upd_same, by omega, fun y m => by rw [g.row y m]; omega, gone (by rw [g.line]; decide), fun _ H6 hpic sb => ⟨rfl, ?_⟩⟩
    have s6 := (same_upd (o := .lst (rowsV R)) nq).trans (made_but nx nd sb)
    clear sb nx nd ne nq
    have b6 := bag_sb b5 s6
    have s56 := s5.trans s6
    have W6 : W0 CP CR CC CS H6 rl t r pic pl R κ hue ks need st ms := ⟨s56 _ _ hrl4, hT.same s56, hR.same s6, hpic⟩
    have eachK : ∀ x ∈ ks.map (·.2), x.2.length ≤ 1000 := fun x m => by
      have := ((hT.good.each x m).2).few
      omega
    have fewM : ms.length ≤ 1000 := by
      have := hT.good.few
      rw [hM.len]
      omega
    have eachM := hM.each eachK
    clear hpic s56 s6 s5 hrl4 hR b5 b4 b3 s4 s3 hrl nrl b2 u2 hb nb s1 hT
    have r0 : atI (rowsV R) 0 = some (.str (S (rowAt R 0))) := atI_nat (j := 0) (rowsV_get g (by omega))
    have l0 : (rowAt R 0).length = n := (g.at (show 0 < R.length by omega)).2.2
    have zl0 : (S (rowAt R 0)).length ≤ sizeLine := by rw [len_S, l0]; exact small_line (by omega)
    refine ⟨_, rfl, _, rfl, rl, _, 0, _, rfl, rfl, SqL.of W6.rows, r0, _, rfl, zl0, _, _, rfl, rfl, b, l, _, rfl, b6, by omega, by rw [len_S, l0]; omega, fun cx0 H7 _ _ u7 b7 => ⟨_, _, rfl, rfl, ?_⟩⟩
    have W7 := W6.bag b6 (but_same u7) pb
    refine ⟨_, rfl, _, rfl, rl, _, rfl, .inl (SqL.of W7.rows), _, _, rfl, rfl, b, l, _, rfl, b7, by omega, by rw [rowsV_len]; omega, fun cy0 H8 _ _ u8 b8 => ⟨_, _, rfl, rfl, ?_⟩⟩
    have W8 := W7.bag b7 (but_same u8) pb
    refine ⟨_, rfl, _, rfl, b, l, 3, rfl, b8, by decide, by decide, fun v3 H9 v0 v1 u9 b9 => ?_⟩
    obtain ⟨hd, ehd, lhd⟩ := pal_at hz0 v0 v1
    have W9 := W8.bag b8 (but_same u9) pb
    refine ⟨_, v3, hd, rfl, rfl, lz, ehd, ?_⟩
    clear W6 W7 W8 b6 b7 b8 u7 u8 u9 v0 v1 ehd
    refine ⟨by show 0 ≤ sizeLine; decide, fun D nD => ?_⟩
    have zD := same_upd (o := .lst []) nD
    have Db : D ≠ b := fun e => by
      obtain ⟨xs, e2⟩ := bag_b b9
      rw [e, e2] at nD
      cases nD
    have Dl : D ≠ l := fun e => by
      obtain ⟨xs, e2⟩ := bag_l b9
      rw [e, e2] at nD
      cases nD
    refine ⟨_, rfl, rl, _, rfl, .inl (SqL.of (zD _ _ W9.rows)), _, _, rfl, rfl, _, rfl, by rw [rowsV_len]; omega, by rw [rowsV_len]; omega, ?_⟩
    rw [rowsV_len, show ((R.length : Int) + 4).toNat = R.length + 4 by omega]
    refine for_range (lo := 0) (n := R.length + 4) (fun j σ G => ∃ y11 y12, σ = [some (.ref a), some (.ref b), some (.str (S z)), some (.ref rl), some (.ref t), some (.ref r), some (.ref pic), some (.int (cx0 - 2)), some (.int (cy0 - 2)), some (.str (S [hd])), some (.ref D), y11, y12, none, none, none, none, none, none] ∧ Same H9 G ∧ ∃ as : CL, G D = some (.lst (refs as)) ∧ Tups G as ∧ cellsOf as = (allC (n + 4) j).map sh) ⟨_, _, rfl, zD, [], upd_same, (fun q hq => nomatch hq), rfl⟩ ?_ ?_
    · rintro j σ G hj ⟨y11, y12, rfl, sG, as, hD, has, eas⟩
      refine ⟨_, rfl, rl, _, 0, _, rfl, rfl, SqL.of (sG _ _ W9.rows), r0, _, rfl, zl0, _, _, rfl, rfl, _, rfl, by rw [len_S, l0]; omega, by rw [len_S, l0]; omega, ?_⟩
      rw [len_S, l0, show ((n : Int) + 4).toNat = n + 4 by omega]
      refine for_range (lo := 0) (n := n + 4) (fun i σ G => ∃ y12, σ = [some (.ref a), some (.ref b), some (.str (S z)), some (.ref rl), some (.ref t), some (.ref r), some (.ref pic), some (.int (cx0 - 2)), some (.int (cy0 - 2)), some (.str (S [hd])), some (.ref D), some (.int (0 + (j : Int))), y12, none, none, none, none, none, none] ∧ Same H9 G ∧ ∃ as : CL, G D = some (.lst (refs as)) ∧ Tups G as ∧ cellsOf as = (allC (n + 4) j ++ rowC i j).map sh) ⟨_, rfl, sG, as, hD, has, by rw [eas]; congr 1; exact (List.append_nil _).symm⟩ ?_ ?_
      · rintro i σ G hi ⟨y12, rfl, sG, as, hD, has, eas⟩
        have las : as.length ≤ 1000 := by
          have e := congrArg List.length eas
          rw [cells_len, List.length_map, List.length_append, allC_len, rowC_len] at e
          have : j * (n + 4) ≤ 12 * 12 := Nat.mul_le_mul (by omega) (by omega)
          omega
        refine ⟨_, rfl, .inl ⟨rfl, _, SqL.of hD⟩, _, rfl, _, _, rfl, rfl, _, rfl, _, _, rfl, rfl, by show 2 ≤ sizeLine; decide, fun T nT => ?_⟩
        have zT := same_upd (o := CellO ((0 + (i : Int)) - 2, (0 + (j : Int)) - 2)) nT
        obtain ⟨a1, a2, a3, a4⟩ := cellMore las nD (sG.trans zT) (zT _ _ hD) (has.same zT) (upd_same (H := G) (a := T) (o := CellO ((0 + (i : Int)) - 2, (0 + (j : Int)) - 2)))
        refine ⟨D, _, _, rfl, rfl, zT _ _ hD, a1, _, rfl, a2, _, a3, a4, ?_⟩
        have esh : (((0 : Int) + (i : Int)) - 2, ((0 : Int) + (j : Int)) - 2) = sh ((i : Int), (j : Int)) := Prod.ext (by show (0 + (i : Int)) - 2 = (i : Int) - 2; omega) (by show (0 + (j : Int)) - 2 = (j : Int) - 2; omega)
        rw [cellsOf_snoc, eas, rowC_succ, ← List.append_assoc, esh]
        simp only [List.map_append]
        rfl
      · rintro σ G ⟨y12, rfl, sG, as, hD, has, eas⟩
        exact ⟨_, _, rfl, sG, as, hD, has, eas⟩
    rintro σ G ⟨y11, y12, rfl, sG, as, hD, has, eas⟩
    have WG := W9.same sG
    have bGG := bag_sb b9 sG
    have las : as.length ≤ 64 := by
      have e := congrArg List.length eas
      rw [cells_len, List.length_map, allC_len] at e
      omega
    refine ⟨_, rfl, _, rfl, _, rfl, b, l, 3, rfl, bGG, by decide, by decide, fun v H10 v0 v1 u10 b10 => ⟨_, _, rfl, rfl, ?_⟩⟩
    have W10' := WG.bag bGG (but_same u10) pb
    have hD10 : H10 D = some (.lst (refs as)) := (u10 D Db).trans hD
    have has10 : Tups H10 as := fun q m => by
      have e := has q m
      obtain ⟨xb, hxb⟩ := bag_b bGG
      rw [u10 q.1 (fun e2 => by rw [e2, hxb] at e; cases e)]
      exact e
    refine ⟨b, l, D, as, 2 + v, rfl, b10, hD10, has10, Db, by omega, by omega, by omega, fun q2 fs H11 s11 b11 nq2 hq2 hfs sub => ?_⟩
    have W11 := W10'.bag b10 s11 pb
    have lfs : fs.length ≤ 64 := by
      have := sub.length_le
      rw [cells_len, cells_len] at this
      omega
    have ndf : (cellsOf fs).Nodup := sub.nodup (by rw [eas]; exact around_nd _ _)
    clear WG W10' W9 sG hD has eas las u10 hD10 has10 sub s11 b10 bGG b9
    refine ⟨_, rfl, q2, _, rfl, .inl (SqL.of hq2), fun q3 nq3 rg dx nx nd ne => ?_⟩
    have z3 := same_upd (o := .lst (refs fs)) nq3
    refine ⟨rg, dx, q3, fs, rfl, upd_same, SqL.of (made_same nx nd _ _ upd_same), fun x m => made_same nx nd _ _ (z3 _ _ (hfs x m)), by omega, fun G M hRd hreg sb => ⟨rfl, ?_⟩⟩
    have s12 := z3.trans (made_but nx nd sb)
    clear sb nx nd ne nq3 z3
    have W := W11.same s12
    have hq := s12 _ _ hq2
    have hf := hfs.same s12
    clear W11 hq2 hfs s12
    have sz1 : stoneB [hd] = true := stone_good lhd
    have lz1 : [hd].length ≤ 1000 := by show 1 ≤ 1000; decide
    have low1 : lowZ [hd] := fun c m => by
      rw [List.mem_singleton.mp m]
      unfold Let at lhd
      omega
    have mem0 : ∀ c : Cell, c ∈ ([] : List Cell) ↔ c ∈ ([] : List Cell) := fun _ => Iff.rfl
    have memM := hRd.mem
    refine ⟨_, rfl, _, rfl, _, rfl, _, rfl, _, rfl, by show 0 ≤ sizeLine; decide, fun p0 n0 => ⟨t, pl, κ, hue, ks, need, rl, R, n, (cx0 - 2), (cy0 - 2), [hd], p0, [], rfl, W.rule.same (same_upd n0), (same_upd n0) _ _ W.rows, g, lz1, upd_same, (fun p hp => nomatch hp), fun qp G1 res1 s1 nqp hres1 hdue1 => ?_⟩⟩
    have t1 := (same_upd (o := .lst []) n0).trans s1
    replace W := W.same t1
    replace hq := t1 _ _ hq
    replace hf := hf.same t1
    replace hreg := hreg.same t1
    have e1 := due_eq hdue1 hM hue_ok sz1 mem0
    have low_1 := hdue1.low low1
    clear t1 s1
    refine setG ?_
    dsimp only
    refine seqIfS (fun Q' q => ⟨_, rfl, _, rfl, _, rfl, _, rfl, _, rfl, r, pic, (cx0 - 2), (cy0 - 2), [hd], _, R, n, κ, st, need, ms, [], rfl, k3, W.made, W.pic, g, .inl ⟨rfl, rfl⟩, lz1, fewM, eachM, fun p G' s' np hres => ⟨_, rfl, _, _, res1, rfl, by rw [← e1]; exact hres, hres1.same s', low_1, _, rfl, q G' s'⟩⟩) (fun G2 t2 => ?_)
    replace W := W.same t2
    replace hq := t2 _ _ hq
    replace hf := hf.same t2
    replace hreg := hreg.same t2
    replace hres1 := hres1.same t2
    refine ⟨_, rfl, _, rfl, _, rfl, _, rfl, _, rfl, _, rfl, r, pic, (cx0 - 2), (cy0 - 2), [hd], _, R, n, κ, st, need, ms, M, rfl, k3, W.made, W.pic, g, .inr (.inr ⟨rg, rfl, hreg⟩), lz1, fewM, eachM, fun pt G3 s3 npt hresT => ?_⟩
    refine setG ?_
    dsimp only
    have W3 := W.same s3
    refine seqIfS (fun Q' q => ⟨_, rfl, _, rfl, _, rfl, _, rfl, _, rfl, _, rfl, _, rfl, t, pl, κ, hue, ks, need, rl, R, n, (cx0 - 2), (cy0 - 2), [hd], q2, fs, rfl, W3.rule, W3.rows, g, lz1, s3 _ _ hq, hf.same s3, fun qd G' res' s' nq' hr' hd' => ⟨_, _, res', rfl, by rw [← due_eq hd' hM hue_ok sz1 memM]; exact hresT.same s', hr', hd'.low low1, _, rfl, q G' s'⟩⟩) (fun G4 t4 => ?_)
    have s34 := s3.trans t4
    have hresT4 := hresT.same t4
    refine joinW (fun σ' G' => ∃ y16, σ' = [some (.ref a), some (.ref b), some (.str (S z)), some (.ref rl), some (.ref t), some (.ref r), some (.ref pic), some (.int (cx0 - 2)), some (.int (cy0 - 2)), some (.str (S [hd])), some (.ref D), y11, y12, some (.ref q2), some (.ref rg), some (.ref qp), y16, none, none] ∧ Same G2 G') (fun nx hnx => ?_) ?_
    · have lres : ∀ N, resP R M (cx0 - 2) (cy0 - 2) κ st [hd] ms = .lst N → N.length ≤ 1000 := fun N e => Nat.le_trans (res_len e) fewM
      generalize resP R M (cx0 - 2) (cy0 - 2) κ st [hd] ms = rT at hresT4 lres
      cases rT with
      | lst N =>
        obtain ⟨p, kT, ep, bp, cT, dT⟩ := hresT4
        cases ep
        have lk := lres N rfl
        rw [← dT, cells_len] at lk
        refine ifN (b := true) (fun _ q => ⟨_, rfl, .ref pt, .ty "list", .type "list", .type "list", true, rfl, .ty _, .base (.lst bp), kit_ty (by decide +kernel), true, rfl, q⟩) (fun _ => ?_) (fun e => nomatch e)
        exact ⟨_, rfl, .inl ⟨rfl, _, SqL.of bp⟩, by show 2 ≤ sizeLine; decide, fun T nT => ⟨pt, _, _, rfl, rfl, same_upd nT _ _ bp, by rw [refs_len]; exact small1000 lk, hnx _ _ ⟨_, rfl, same_updO (s34.trans (same_upd nT)) npt⟩⟩⟩
      | out x y =>
        obtain ⟨p, ep, bp⟩ := hresT4
        cases ep
        exact ifN (b := false) (fun _ q => ⟨_, rfl, .ref pt, .ty "list", .type "tuple", .type "list", false, rfl, .ty _, .base (.tup bp), kit_ty (by decide +kernel), false, rfl, q⟩) (fun e => nomatch e) (fun _ => hnx _ _ ⟨_, rfl, s34⟩)
      | wrong x =>
        obtain ⟨p, ep, bp⟩ := hresT4
        cases ep
        exact ifN (b := false) (fun _ q => ⟨_, rfl, .ref pt, .ty "list", .type "tuple", .type "list", false, rfl, .ty _, .base (.tup bp), kit_ty (by decide +kernel), false, rfl, q⟩) (fun e => nomatch e) (fun _ => hnx _ _ ⟨_, rfl, s34⟩)
    rintro σ5 G5 ⟨y16, rfl, s25⟩
    replace W := W.same s25
    replace hq := s25 _ _ hq
    replace hf := hf.same s25
    replace hreg := hreg.same s25
    replace hres1 := hres1.same s25
    clear hresT4 s34 t4 hresT npt s3 W3 s25
    refine seqIfS (fun Q' q => ⟨_, rfl, _, rfl, _, rfl, _, rfl, _, rfl, _, rfl, r, pic, (cx0 - 2), (cy0 - 2), [hd], _, R, n, κ, st, need, ms, M, rfl, k3, W.made, W.pic, g, .inr (.inr ⟨rg, rfl, hreg⟩), lz1, fewM, eachM, fun p G' s' np hres => ⟨_, rfl, _, rfl, _, rfl, _, rfl, _, rfl, _, rfl, t, pl, κ, hue, ks, need, rl, R, n, (cx0 - 2), (cy0 - 2), [hd], q2, fs, rfl, (W.same s').rule, (W.same s').rows, g, lz1, s' _ _ hq, hf.same s', fun qd G'' res' s'' nq' hr' hd' => ⟨_, _, res', rfl, by rw [← due_eq hd' hM hue_ok sz1 memM]; exact hres.same s'', hr', hd'.low low1, _, rfl, q G'' (s'.trans s'')⟩⟩⟩) (fun G6 t6 => ?_)
    replace W := W.same t6
    replace hq := t6 _ _ hq
    replace hf := hf.same t6
    replace hreg := hreg.same t6
    replace hres1 := hres1.same t6
    refine seqIfS (fun Q' q => ⟨_, rfl, _, rfl, _, rfl, _, rfl, _, rfl, r, pic, (cx0 - 2), (cy0 - 2), [hd], _, R, n, κ, st, need, ms, [], rfl, k3, W.made, W.pic, g, .inr (.inl ⟨rfl, rfl⟩), lz1, fewM, eachM, fun p G' s' np hres => ⟨_, rfl, _, _, res1, rfl, by rw [← e1]; exact hres, hres1.same s', low_1, _, rfl, q G' s'⟩⟩) (fun G7 t7 => ?_)
    replace W := W.same t7
    replace hq := t7 _ _ hq
    replace hf := hf.same t7
    replace hreg := hreg.same t7
    refine ⟨by show 5 ≤ sizeLine; decide, fun pq npq => ?_⟩
    rw [textsK_V]
    have t8 := same_upd (o := .lst (rowsV textsK)) npq
    have hpq : upd G7 pq (.lst (rowsV textsK)) pq = some (.lst (rowsV textsK)) := upd_same
    replace W := W.same t8
    replace hq := t8 _ _ hq
    replace hf := hf.same t8
    replace hreg := hreg.same t8
    generalize upd G7 pq (.lst (rowsV textsK)) = G8 at W hq hf hreg hpq ⊢
    clear t8 npq t7 t6
    have es : signAt R (cx0 - 2) (cy0 - 2) = [sgn R ((cx0 - 2), (cy0 - 2))] := sign_sgn R ((cx0 - 2), (cy0 - 2))
    refine ⟨pq, rfl, ⟨_, SqL.of hpq⟩, for_list (K := K) (a := pq) (xs := rowsV textsK) (fun i σ G => (∃ y17 y18, σ = [some (.ref a), some (.ref b), some (.str (S z)), some (.ref rl), some (.ref t), some (.ref r), some (.ref pic), some (.int (cx0 - 2)), some (.int (cy0 - 2)), some (.str (S [hd])), some (.ref D), y11, y12, some (.ref q2), some (.ref rg), some (.ref qp), y16, y17, y18]) ∧ Same G8 G) ⟨⟨_, _, rfl⟩, Same.refl G8⟩ (fun i σ G _ h => SqL.of (h.2 _ _ hpq)) ?_ ?_⟩
    · rintro i v2 σ2 G hx ⟨⟨y17, y18, rfl⟩, sG⟩
      obtain ⟨tx, htx, rfl⟩ := rowsV_at hx
      obtain ⟨ltx, lowtx, nst⟩ := textsK_ok tx (List.mem_of_getElem? htx)
      have WG := W.same sG
      refine setG ?_
      dsimp only
      refine ⟨_, rfl, by show 3 ≤ sizeLine; decide, fun T nT => ?_⟩
      have zT := same_upd (o := .tup [.str "wrong", .str (S tx), .bl true]) nT
      have hT1 : upd G T (.tup [.str "wrong", .str (S tx), .bl true]) T = some (.tup [.str "wrong", .str (S tx), .bl true]) := upd_same
      refine setG ?_
      dsimp only
      refine joinW (fun σ' G' => ∃ u, σ' = [some (.ref a), some (.ref b), some (.str (S z)), some (.ref rl), some (.ref t), some (.ref r), some (.ref pic), some (.int (cx0 - 2)), some (.int (cy0 - 2)), some (.str (S [hd])), some (.ref D), y11, y12, some (.ref q2), some (.ref rg), some (.ref qp), y16, some (.str (S tx)), some (.ref u)] ∧ Same G G' ∧ ResAt G' (.ref u) (if inB R (cx0 - 2) (cy0 - 2) = true then .wrong tx else .out (cx0 - 2) (cy0 - 2))) (fun nx hnx => ?_) ?_
      · refine ifN (b := !inB R (cx0 - 2) (cy0 - 2)) (fun _ q => ⟨_, rfl, _, rfl, _, rfl, rl, R, n, (cx0 - 2), (cy0 - 2), rfl, zT _ _ WG.rows, g, by rw [es]; exact ⟨rfl, _, rfl, by rw [hash1, one_str, sgn_hash g]; exact q⟩⟩) (fun e => ?_) (fun e => ?_)
        · have io : inB R (cx0 - 2) (cy0 - 2) = false := by simpa using e
          refine ⟨_, rfl, _, rfl, by show 4 ≤ sizeLine; decide, fun T2 n2 => hnx _ _ ⟨T2, rfl, zT.trans (same_upd n2), ?_⟩⟩
          rw [if_neg (by rw [io]; decide)]
          exact ⟨T2, rfl, upd_same⟩
        · have io : inB R (cx0 - 2) (cy0 - 2) = true := not_f e
          refine hnx _ _ ⟨T, rfl, zT, ?_⟩
          rw [if_pos io]
          exact ⟨T, rfl, hT1⟩
      rintro σ' G' ⟨u, rfl, sG', hu⟩
      have W2 := WG.same sG'
      have ly : laysB κ st tx = false := by
        rw [← hM.lays hue_ok tx, nst]
        rfl
      have eres : ∀ M', resP R M' (cx0 - 2) (cy0 - 2) κ st tx ms = (if inB R (cx0 - 2) (cy0 - 2) = true then .wrong tx else .out (cx0 - 2) (cy0 - 2)) := fun M' => by
        unfold resP
        rw [ly]
        rfl
      have lowr : Res.low (if inB R (cx0 - 2) (cy0 - 2) = true then .wrong tx else .out (cx0 - 2) (cy0 - 2)) := by
        split
        · exact lowtx
        · trivial
      refine ifS (fun Q' q => ⟨_, rfl, _, rfl, _, rfl, _, rfl, _, rfl, _, rfl, r, pic, (cx0 - 2), (cy0 - 2), tx, _, R, n, κ, st, need, ms, M, rfl, k3, W2.made, W2.pic, g, .inr (.inr ⟨rg, rfl, (hreg.same sG).same sG'⟩), ltx, fewM, eachM, fun p G'' s'' np hres => ?_⟩) (fun G3 t3 => ⟨⟨_, _, rfl⟩, (sG.trans sG').trans t3⟩)
      rw [eres] at hres
      refine ⟨_, rfl, _, _, hres.dp, (hu.same s'').dp, dRes_shaped lowr, dRes_shaped lowr, _, rfl, ?_⟩
      rw [eqD (dRes_shaped lowr)]
      exact q G'' s''
    · rintro σ2 G ⟨⟨y17, y18, rfl⟩, sG⟩
      have WG := W.same sG
      refine ⟨_, rfl, _, rfl, q2, fs, rfl, sG _ _ hq, hf.same sG, by omega, fun pr rs Gr sr npr hpr hrs pm od => ⟨rg, pr, M, rs, rfl, (hreg.same sG).same sr, SqL.of hpr, hrs, ?_, fun G' s' => ⟨_, rfl, iteT ?_⟩⟩⟩
      · exact asc_uniq (rd_asc od (pm.nodup_iff.mpr ndf)) hRd.asc fun c => (pm.mem_iff).trans (memM c).symm
      · have hP7 := (WG.pic.same sr).same s'
        have hP70 := hP7
        obtain ⟨px, pll, q1, q2'⟩ := hP7
        refine ⟨_, rfl, pic, px, _, rfl, q1, rfl, pic, R, rfl, hP70, fun pq G8 s8 npq hpq => ?_⟩
        refine ⟨_, rfl, _, _, dp_list hpq, dp_list (s8 _ _ (s' _ _ (sr _ _ WG.rows))), dRs_shaped g.low, dRs_shaped g.low, ?_⟩
        rw [dRs_eqv, decide_eq_true rfl]
        exact k G8
end
end Pm
namespace Pm
open PySem PySem.Spec PyProof.Rows L2 SX
theorem kit_cls {K : PySem.W.Frag} {D S : Addr} {cd : ClassData} {b : Bool} (ne : (D == S) = false) (c : PySem.W.clsIn K S = some cd) (t : PySem.W.typeIn K (.ref S) = some (.type "type")) (sub : PySem.W.subIn K (.ref D) (.ref S) = some b) : PySem.W.kitOne K (.ref D) (.ref S) = some b := by
  unfold PySem.W.kitOne
  rw [if_neg (by simpa using ne)]
  show (if ((PySem.W.clsIn K S).isSome && PySem.W.typeIn K (.ref S) == some (.type "type")) = true then PySem.W.subIn K (.ref D) (.ref S) else none) = some b
  rw [if_pos (by rw [c, t]; rfl), sub]
theorem kit_val {K : PySem.W.Frag} {D : Addr} (sub : PySem.W.subIn K (.ref D) (.type "ValueError") = some true) : PySem.W.kitOne K (.ref D) (.type "ValueError") = some true := by
  unfold PySem.W.kitOne
  rw [if_neg (by simp)]
  show (if PySem.W.kitMeta "ValueError" = true then PySem.W.subIn K (.ref D) (.type "ValueError") else none) = some true
  rw [if_pos (by decide +kernel), sub]
theorem exm_self {K : PySem.W.Frag} {D : Addr} (a : PySem.W.subIn K (.ref D) (.type "BaseException") = some true) (b : PySem.W.isClsIn K D = true) (c : PySem.W.typeIn K (.ref D) = some (.type "type")) (d : PySem.W.subIn K (.ref D) (.ref D) = some true) : PySem.W.exmOne K (.ref D) (.ref D) = some true := by
  have b2 : (PySem.W.clsIn K D).isSome = true := b
  show (if (PySem.W.subIn K (.ref D) (.type "BaseException") == some true) = true then _ else none) = some true
  rw [if_pos (by rw [a]; rfl)]
  show (if ((PySem.W.clsIn K D).isSome && PySem.W.typeIn K (.ref D) == some (.type "type")) = true then PySem.W.subIn K (.ref D) (.ref D) else none) = some true
  rw [if_pos (by rw [b2, c]; rfl), d]
theorem exm_cls {K : PySem.W.Frag} {D S : Addr} {b : Bool} (a : PySem.W.subIn K (.ref S) (.type "BaseException") = some true) (s1 : PySem.W.isClsIn K S = true) (c : PySem.W.typeIn K (.ref S) = some (.type "type")) (d : PySem.W.subIn K (.ref D) (.ref S) = some b) : PySem.W.exmOne K (.ref D) (.ref S) = some b := by
  have b2 : (PySem.W.clsIn K S).isSome = true := s1
  show (if (PySem.W.subIn K (.ref S) (.type "BaseException") == some true) = true then _ else none) = some b
  rw [if_pos (by rw [a]; rfl)]
  show (if ((PySem.W.clsIn K S).isSome && PySem.W.typeIn K (.ref S) == some (.type "type")) = true then PySem.W.subIn K (.ref D) (.ref S) else none) = some b
  rw [if_pos (by rw [b2, c]; rfl), d]
theorem kit_self {K : PySem.W.Frag} {C : Addr} : PySem.W.kitOne K (.ref C) (.ref C) = some true := by
  unfold PySem.W.kitOne
  rw [if_pos (beq_self_eq_true _)]
/-! ### what the top has left -/
theorem all_mk {l : PySem.W.OpenLaw} {w : World} {K : PySem.W.Frag} {h : Heap} {mg : Str → Option Value} {fa CP fIP fLi fCn fGi CG fRI fIn fEq fRc CR CC CS fIR fLa fCo fIS fLS fCoS fCl kdCl fIC ccIC cdaIC CI fEi CW fEw CB fEb CO fEo CE fIs fKc fSo fBa fBl fDf fAs fPc fCk fNd fIo fCa fBag fTake fIi fIc fIz fRd fPal fRow fGrid fOf fSg fPa fRu fSgn fLy fLc fSu fRi fMa fAq fDu fRt fLaw : Addr} {cdtCR : ClassData} {cdtCC : ClassData} {cdtCS : ClassData} {vsIC : Array Value} {fileIC : Str} {tfIC : Tok} {nmCI qnCI : Str} {nsCI : Addr} {bsCI bmCI sbCI : List Value} {snCI : List Str} {abCI : Bool} {coCI : Option Bool} {ddCI : Option Addr} {x0CI x1CI x2CI x3CI x5CI : Option Value} {cdtCI : ClassData} {nmCW qnCW : Str} {nsCW : Addr} {bsCW bmCW sbCW : List Value} {snCW : List Str} {abCW : Bool} {coCW : Option Bool} {ddCW : Option Addr} {x0CW x1CW x2CW x3CW x5CW : Option Value} {cdtCW : ClassData} {nmCB qnCB : Str} {nsCB : Addr} {bsCB bmCB sbCB : List Value} {snCB : List Str} {abCB : Bool} {coCB : Option Bool} {ddCB : Option Addr} {x0CB x1CB x2CB x3CB x5CB : Option Value} {cdtCB : ClassData} {nmCO qnCO : Str} {nsCO : Addr} {bsCO bmCO sbCO : List Value} {snCO : List Str} {abCO : Bool} {coCO : Option Bool} {ddCO : Option Addr} {x0CO x1CO x2CO x3CO x5CO : Option Value} {cdtCO : ClassData} {cdtCE : ClassData} (X : K.In h) (G : h.Ns mainGlobals mg) (hfa : mg "law" = some (.ref fa))
    {odIP anIP odLi anLi odCn anCn odGi anGi odRI anRI odIn anIn odEq anEq odRc anRc odIR anIR odLa anLa odCo anCo odIS anIS odLS anLS odCoS anCoS odCl anCl odIC anIC cldIC cddIC odEi anEi odEw anEw odEb anEb odEo anEo odIs anIs odKc anKc odSo anSo odBa anBa odBl anBl odDf anDf odAs anAs odPc anPc odCk anCk odNd anNd odIo anIo odCa anCa odBag anBag odTake anTake odIi anIi odIc anIc odIz anIz odRd anRd odPal anPal odRow anRow odGrid anGrid odOf anOf odSg anSg odPa anPa odRu anRu odSgn anSgn odLy anLy odLc anLc odSu anSu odRi anRi odMa anMa odAq anAq odDu anDu odRt anRt odLaw anLaw : Option Addr}
    {slIP slLi slCn slGi slRI slIn slEq slRc slIR slLa slCo slIS slLS slCoS slCl slIC cslIC ccsIC slEi slEw slEb slEo slIs slKc slSo slBa slBl slDf slAs slPc slCk slNd slIo slCa slBag slTake slIi slIc slIz slRd slPal slRow slGrid slOf slSg slPa slRu slSgn slLy slLc slSu slRi slMa slAq slDu slRt slLaw : Array (Option Value)}
    {uHo uEd uEg ocIP kVIP dcIP pmIP cdIP ctIP ocLi kVLi dcLi pmLi cdLi ctLi ocCn kVCn dcCn pmCn cdCn ctCn ocGi kVGi dcGi pmGi cdGi ctGi ocRI kVRI dcRI pmRI cdRI ctRI ocIn kVIn dcIn pmIn cdIn ctIn ocEq kVEq dcEq pmEq cdEq ctEq ocRc kVRc dcRc pmRc cdRc ctRc uSn uMo uRe uMc ocIR kVIR dcIR pmIR cdIR ctIR ocLa kVLa dcLa pmLa cdLa ctLa ocCo kVCo dcCo pmCo cdCo ctCo ocIS kVIS dcIS pmIS cdIS ctIS ocLS kVLS dcLS pmLS cdLS ctLS ocCoS kVCoS dcCoS pmCoS cdCoS ctCoS ocCl dcCl pmCl cdCl ctCl udCl ocIC kVIC dcIC pmIC ctIC clIC cclIC ocEi kVEi dcEi pmEi cdEi ctEi ocEw kVEw dcEw pmEw cdEw ctEw ocEb kVEb dcEb pmEb cdEb ctEb ocEo kVEo dcEo pmEo cdEo ctEo ocIs kVIs dcIs pmIs cdIs ctIs ocKc kVKc dcKc pmKc cdKc ctKc ocSo kVSo dcSo pmSo cdSo ctSo ocBa kVBa dcBa pmBa cdBa ctBa ocBl kVBl dcBl pmBl cdBl ctBl ocDf kVDf dcDf pmDf cdDf ctDf ocAs kVAs dcAs pmAs cdAs ctAs ocPc kVPc dcPc pmPc cdPc ctPc ocCk kVCk dcCk pmCk cdCk ctCk ocNd kVNd dcNd pmNd cdNd ctNd ocIo kVIo dcIo pmIo cdIo ctIo ocCa kVCa dcCa pmCa cdCa ctCa ocBag kVBag dcBag pmBag cdBag ctBag ocTake kVTake dcTake pmTake cdTake ctTake ocIi kVIi dcIi pmIi cdIi ctIi ocIc kVIc dcIc pmIc cdIc ctIc ocIz kVIz dcIz pmIz cdIz ctIz ocRd kVRd dcRd pmRd cdRd ctRd ocPal kVPal dcPal pmPal cdPal ctPal ocRow kVRow dcRow pmRow cdRow ctRow ocGrid kVGrid dcGrid pmGrid cdGrid ctGrid ocOf kVOf dcOf pmOf cdOf ctOf ocSg kVSg dcSg pmSg cdSg ctSg ocPa kVPa dcPa pmPa cdPa ctPa ocRu kVRu dcRu pmRu cdRu ctRu ocSgn kVSgn dcSgn pmSgn cdSgn ctSgn ocLy kVLy dcLy pmLy cdLy ctLy ocLc kVLc dcLc pmLc cdLc ctLc ocSu kVSu dcSu pmSu cdSu ctSu ocRi kVRi dcRi pmRi cdRi ctRi ocMa kVMa dcMa pmMa cdMa ctMa ocAq kVAq dcAq pmAq cdAq ctAq ocDu kVDu dcDu pmDu cdDu ctDu ocRt kVRt dcRt pmRt cdRt ctRt ocLaw kVLaw dcLaw pmLaw cdLaw ctLaw : Value}
    (cn : PySem.W.specialIn K (.builtin "object.__class__") "__get__" = some (some (.builtin "getset_descriptor.__get__")))
    (ct : PySem.W.takesIn K (.builtin "object.__class__") = some true)
    (gCP : PySem.W.nsIn K mainGlobals "Picture" = some (some (.ref CP)))
    (pgCP : PySem.W.plainGet K CP Str.empty = true)
    (hdCP : PySem.W.hasDictIn K CP = true)
    (poCP : PySem.W.plainOver K CP = true)
    (saCP : PySem.W.findIn K (.ref CP) "__setattr__" = some (some (.builtin "object.__setattr__")))
    (mkCP : PySem.W.makesIn K CP = true)
    (kpCP : PySem.W.keepIn K (.ref CP) = true)
    (nCP_rows : PySem.W.findIn K (.ref CP) "_rows" = some none)
    (nCP_width : PySem.W.findIn K (.ref CP) "width" = some none)
    (nCP_height : PySem.W.findIn K (.ref CP) "height" = some none)
    (rdCP : PySem.W.readsIn K CP (.type "type") = true)
    (gaCP : PySem.W.specialIn K (.ref CP) "__getattribute__" = some (some (.builtin "type.__getattribute__")))
    (aHo : PySem.W.findCls K (.ref CP) (.type "type") "HOLE" = some (.val uHo))
    (rlHo : L2.RelV (.str ".") uHo)
    (aEd : PySem.W.findCls K (.ref CP) (.type "type") "EDGE" = some (.val uEd))
    (rlEd : L2.RelV (.str "#") uEd)
    (aEg : PySem.W.findIn K (.ref CP) "EDGE" = some (some uEg))
    (rlEg : L2.RelV (.str "#") uEg)
    (ggEg : PySem.W.specialIn K uEg "__get__" = some none)
    (aIP : PySem.W.findIn K (.ref CP) "__init__" = some (some (.ref fIP)))
    (iIP : PySem.W.isFn K (.ref fIP) = true)
    (lIP : K.lookup fIP = some ⟨ocIP, odIP, .func (PySem.W.fnOf "__init__" "Picture.__init__" (defArgs cPictureInit) (defBody cPictureInit) (defScope cPictureInit) .none kVIP dcIP pmIP anIP cdIP ctIP), slIP⟩)
    (cIP : PySem.W.codeIn K cdIP "Picture.__init__" = true)
    (kIP : PySem.W.keepIn K (.ref fIP) = true)
    (aLi : PySem.W.findIn K (.ref CP) "lines" = some (some (.ref fLi)))
    (iLi : PySem.W.isFn K (.ref fLi) = true)
    (lLi : K.lookup fLi = some ⟨ocLi, odLi, .func (PySem.W.fnOf "lines" "Picture.lines" (defArgs cPictureLines) (defBody cPictureLines) (defScope cPictureLines) .none kVLi dcLi pmLi anLi cdLi ctLi), slLi⟩)
    (cLi : PySem.W.codeIn K cdLi "Picture.lines" = true)
    (kLi : PySem.W.keepIn K (.ref fLi) = true)
    (aCn : PySem.W.findIn K (.ref CP) "contains" = some (some (.ref fCn)))
    (iCn : PySem.W.isFn K (.ref fCn) = true)
    (lCn : K.lookup fCn = some ⟨ocCn, odCn, .func (PySem.W.fnOf "contains" "Picture.contains" (defArgs cPictureContains) (defBody cPictureContains) (defScope cPictureContains) .none kVCn dcCn pmCn anCn cdCn ctCn), slCn⟩)
    (cCn : PySem.W.codeIn K cdCn "Picture.contains" = true)
    (kCn : PySem.W.keepIn K (.ref fCn) = true)
    (aGi : PySem.W.findIn K (.ref CP) "__getitem__" = some (some (.ref fGi)))
    (iGi : PySem.W.isFn K (.ref fGi) = true)
    (lGi : K.lookup fGi = some ⟨ocGi, odGi, .func (PySem.W.fnOf "__getitem__" "Picture.__getitem__" (defArgs cPictureGetitem) (defBody cPictureGetitem) (defScope cPictureGetitem) .none kVGi dcGi pmGi anGi cdGi ctGi), slGi⟩)
    (cGi : PySem.W.codeIn K cdGi "Picture.__getitem__" = true)
    (kGi : PySem.W.keepIn K (.ref fGi) = true)
    (fiGi : PySem.W.fnIn K fGi = true)
    (gCG : PySem.W.nsIn K mainGlobals "Region" = some (some (.ref CG)))
    (pgCG : PySem.W.plainGet K CG Str.empty = true)
    (hdCG : PySem.W.hasDictIn K CG = true)
    (poCG : PySem.W.plainOver K CG = true)
    (saCG : PySem.W.findIn K (.ref CG) "__setattr__" = some (some (.builtin "object.__setattr__")))
    (mkCG : PySem.W.makesIn K CG = true)
    (kpCG : PySem.W.keepIn K (.ref CG) = true)
    (nCG_members : PySem.W.findIn K (.ref CG) "_members" = some none)
    (aRI : PySem.W.findIn K (.ref CG) "__init__" = some (some (.ref fRI)))
    (iRI : PySem.W.isFn K (.ref fRI) = true)
    (lRI : K.lookup fRI = some ⟨ocRI, odRI, .func (PySem.W.fnOf "__init__" "Region.__init__" (defArgs cRegionInit) (defBody cRegionInit) (defScope cRegionInit) .none kVRI dcRI pmRI anRI cdRI ctRI), slRI⟩)
    (cRI : PySem.W.codeIn K cdRI "Region.__init__" = true)
    (kRI : PySem.W.keepIn K (.ref fRI) = true)
    (aIn : PySem.W.findIn K (.ref CG) "__contains__" = some (some (.ref fIn)))
    (iIn : PySem.W.isFn K (.ref fIn) = true)
    (lIn : K.lookup fIn = some ⟨ocIn, odIn, .func (PySem.W.fnOf "__contains__" "Region.__contains__" (defArgs cRegionContains) (defBody cRegionContains) (defScope cRegionContains) .none kVIn dcIn pmIn anIn cdIn ctIn), slIn⟩)
    (cIn : PySem.W.codeIn K cdIn "Region.__contains__" = true)
    (kIn : PySem.W.keepIn K (.ref fIn) = true)
    (aEq : PySem.W.findIn K (.ref CG) "__eq__" = some (some (.ref fEq)))
    (iEq : PySem.W.isFn K (.ref fEq) = true)
    (lEq : K.lookup fEq = some ⟨ocEq, odEq, .func (PySem.W.fnOf "__eq__" "Region.__eq__" (defArgs cRegionEq) (defBody cRegionEq) (defScope cRegionEq) .none kVEq dcEq pmEq anEq cdEq ctEq), slEq⟩)
    (cEq : PySem.W.codeIn K cdEq "Region.__eq__" = true)
    (kEq : PySem.W.keepIn K (.ref fEq) = true)
    (aRc : PySem.W.findIn K (.ref CG) "cells" = some (some (.ref fRc)))
    (iRc : PySem.W.isFn K (.ref fRc) = true)
    (lRc : K.lookup fRc = some ⟨ocRc, odRc, .func (PySem.W.fnOf "cells" "Region.cells" (defArgs cRegionCells) (defBody cRegionCells) (defScope cRegionCells) .none kVRc dcRc pmRc anRc cdRc ctRc), slRc⟩)
    (cRc : PySem.W.codeIn K cdRc "Region.cells" = true)
    (kRc : PySem.W.keepIn K (.ref fRc) = true)
    (caCG : PySem.W.findIn K (.ref CG) "__class__" = some (some (.builtin "object.__class__")))
    (cmCG : PySem.W.mroIn K CG (.type "object") = some true)
    (icCG : PySem.W.isClsIn K CG = true)
    (tyCG : PySem.W.typeIn K (.ref CG) = some (.type "type"))
    (nsCG : PySem.W.subIn K (.type "str") (.ref CG) = some false)
    (aSn : PySem.W.nsIn K mainGlobals "STONES" = some (some uSn))
    (rlSn : L2.RelV (.str alphaS) uSn)
    (aMo : PySem.W.nsIn K mainGlobals "MOST" = some (some uMo))
    (rlMo : L2.RelV (.int 8) uMo)
    (aRe : PySem.W.nsIn K mainGlobals "REACH" = some (some uRe))
    (rlRe : L2.RelV (.int 3) uRe)
    (aMc : PySem.W.nsIn K mainGlobals "MOST_CONDITIONS" = some (some uMc))
    (rlMc : L2.RelV (.int 8) uMc)
    (gCR : PySem.W.nsIn K mainGlobals "Rule" = some (some (.ref CR)))
    (cxCR : PySem.W.clsIn K CR = some cdtCR)
    (tyCR : PySem.W.typeIn K (.ref CR) = some (.type "type"))
    (pgCR : PySem.W.plainGet K CR Str.empty = true)
    (hdCR : PySem.W.hasDictIn K CR = true)
    (poCR : PySem.W.plainOver K CR = true)
    (saCR : PySem.W.findIn K (.ref CR) "__setattr__" = some (some (.builtin "object.__setattr__")))
    (mkCR : PySem.W.makesIn K CR = true)
    (kpCR : PySem.W.keepIn K (.ref CR) = true)
    (nCR_stone : PySem.W.findIn K (.ref CR) "stone" = some none)
    (nCR_conditions : PySem.W.findIn K (.ref CR) "_conditions" = some none)
    (nCR_need : PySem.W.findIn K (.ref CR) "need" = some none)
    (gCC : PySem.W.nsIn K mainGlobals "CountRule" = some (some (.ref CC)))
    (cxCC : PySem.W.clsIn K CC = some cdtCC)
    (tyCC : PySem.W.typeIn K (.ref CC) = some (.type "type"))
    (pgCC : PySem.W.plainGet K CC Str.empty = true)
    (hdCC : PySem.W.hasDictIn K CC = true)
    (poCC : PySem.W.plainOver K CC = true)
    (saCC : PySem.W.findIn K (.ref CC) "__setattr__" = some (some (.builtin "object.__setattr__")))
    (mkCC : PySem.W.makesIn K CC = true)
    (kpCC : PySem.W.keepIn K (.ref CC) = true)
    (nCC_stone : PySem.W.findIn K (.ref CC) "stone" = some none)
    (nCC_conditions : PySem.W.findIn K (.ref CC) "_conditions" = some none)
    (nCC_need : PySem.W.findIn K (.ref CC) "need" = some none)
    (gCS : PySem.W.nsIn K mainGlobals "SameRule" = some (some (.ref CS)))
    (cxCS : PySem.W.clsIn K CS = some cdtCS)
    (tyCS : PySem.W.typeIn K (.ref CS) = some (.type "type"))
    (pgCS : PySem.W.plainGet K CS Str.empty = true)
    (hdCS : PySem.W.hasDictIn K CS = true)
    (poCS : PySem.W.plainOver K CS = true)
    (saCS : PySem.W.findIn K (.ref CS) "__setattr__" = some (some (.builtin "object.__setattr__")))
    (mkCS : PySem.W.makesIn K CS = true)
    (kpCS : PySem.W.keepIn K (.ref CS) = true)
    (nCS_stone : PySem.W.findIn K (.ref CS) "stone" = some none)
    (nCS_conditions : PySem.W.findIn K (.ref CS) "_conditions" = some none)
    (nCS_need : PySem.W.findIn K (.ref CS) "need" = some none)
    (aIR : PySem.W.findIn K (.ref CR) "__init__" = some (some (.ref fIR)))
    (iIR : PySem.W.isFn K (.ref fIR) = true)
    (lIR : K.lookup fIR = some ⟨ocIR, odIR, .func (PySem.W.fnOf "__init__" "Rule.__init__" (defArgs cRuleInit) (defBody cRuleInit) (defScope cRuleInit) .none kVIR dcIR pmIR anIR cdIR ctIR), slIR⟩)
    (cIR : PySem.W.codeIn K cdIR "Rule.__init__" = true)
    (kIR : PySem.W.keepIn K (.ref fIR) = true)
    (aLa : PySem.W.findIn K (.ref CR) "lays" = some (some (.ref fLa)))
    (iLa : PySem.W.isFn K (.ref fLa) = true)
    (lLa : K.lookup fLa = some ⟨ocLa, odLa, .func (PySem.W.fnOf "lays" "Rule.lays" (defArgs cRuleLays) (defBody cRuleLays) (defScope cRuleLays) .none kVLa dcLa pmLa anLa cdLa ctLa), slLa⟩)
    (cLa : PySem.W.codeIn K cdLa "Rule.lays" = true)
    (kLa : PySem.W.keepIn K (.ref fLa) = true)
    (aLaCC : PySem.W.findIn K (.ref CC) "lays" = some (some (.ref fLa)))
    (aCo : PySem.W.findIn K (.ref CR) "conditions" = some (some (.ref fCo)))
    (iCo : PySem.W.isFn K (.ref fCo) = true)
    (lCo : K.lookup fCo = some ⟨ocCo, odCo, .func (PySem.W.fnOf "conditions" "Rule.conditions" (defArgs cRuleConditions) (defBody cRuleConditions) (defScope cRuleConditions) .none kVCo dcCo pmCo anCo cdCo ctCo), slCo⟩)
    (cCo : PySem.W.codeIn K cdCo "Rule.conditions" = true)
    (kCo : PySem.W.keepIn K (.ref fCo) = true)
    (aCoCC : PySem.W.findIn K (.ref CC) "conditions" = some (some (.ref fCo)))
    (aIS : PySem.W.findIn K (.ref CS) "__init__" = some (some (.ref fIS)))
    (iIS : PySem.W.isFn K (.ref fIS) = true)
    (lIS : K.lookup fIS = some ⟨ocIS, odIS, .func (PySem.W.fnOf "__init__" "SameRule.__init__" (defArgs cSameRuleInit) (defBody cSameRuleInit) (defScope cSameRuleInit) .none kVIS dcIS pmIS anIS cdIS ctIS), slIS⟩)
    (cIS : PySem.W.codeIn K cdIS "SameRule.__init__" = true)
    (kIS : PySem.W.keepIn K (.ref fIS) = true)
    (aLS : PySem.W.findIn K (.ref CS) "lays" = some (some (.ref fLS)))
    (iLS : PySem.W.isFn K (.ref fLS) = true)
    (lLS : K.lookup fLS = some ⟨ocLS, odLS, .func (PySem.W.fnOf "lays" "SameRule.lays" (defArgs cSameRuleLays) (defBody cSameRuleLays) (defScope cSameRuleLays) .none kVLS dcLS pmLS anLS cdLS ctLS), slLS⟩)
    (cLS : PySem.W.codeIn K cdLS "SameRule.lays" = true)
    (kLS : PySem.W.keepIn K (.ref fLS) = true)
    (aCoS : PySem.W.findIn K (.ref CS) "conditions" = some (some (.ref fCoS)))
    (iCoS : PySem.W.isFn K (.ref fCoS) = true)
    (lCoS : K.lookup fCoS = some ⟨ocCoS, odCoS, .func (PySem.W.fnOf "conditions" "SameRule.conditions" (defArgs cSameRuleConditions) (defBody cSameRuleConditions) (defScope cSameRuleConditions) .none kVCoS dcCoS pmCoS anCoS cdCoS ctCoS), slCoS⟩)
    (cCoS : PySem.W.codeIn K cdCoS "SameRule.conditions" = true)
    (kCoS : PySem.W.keepIn K (.ref fCoS) = true)
    (aCl : PySem.W.findIn K (.ref CR) "clashes" = some (some (.ref fCl)))
    (aClCC : PySem.W.findIn K (.ref CC) "clashes" = some (some (.ref fCl)))
    (aClCS : PySem.W.findIn K (.ref CS) "clashes" = some (some (.ref fCl)))
    (iCl : PySem.W.isFn K (.ref fCl) = true)
    (lCl : K.lookup fCl = some ⟨ocCl, odCl, .func (PySem.W.fnOf "clashes" "Rule.clashes" (defArgs cRuleClashes) (defBody cRuleClashes) (defScope cRuleClashes) .none (.ref kdCl) dcCl pmCl anCl cdCl ctCl), slCl⟩)
    (cCl : PySem.W.codeIn K cdCl "Rule.clashes" = true)
    (kCl : PySem.W.keepIn K (.ref fCl) = true)
    (dCl : PySem.W.nsIn K kdCl "loose" = some (some udCl))
    (drCl : L2.RelV .non udCl)
    (aIC : PySem.W.findIn K (.ref CC) "__init__" = some (some (.ref fIC)))
    (iIC : PySem.W.isFn K (.ref fIC) = true)
    (lIC : K.lookup fIC = some ⟨ocIC, odIC, .func (PySem.W.fnX "__init__" "CountRule.__init__" (defArgs cCountRuleInit) (defBody cCountRuleInit) (defScope cCountRuleInit) [("__class__", ccIC)] .none kVIC dcIC pmIC anIC (.ref cdaIC) ctIC), slIC⟩)
    (cIC : PySem.W.codeIn K (.ref cdaIC) "CountRule.__init__" = true)
    (xIC : K.lookup ccIC = some ⟨clIC, cldIC, .cell (some (.ref CC)), cslIC⟩)
    (yIC : K.lookup cdaIC = some ⟨cclIC, cddIC, .fields vsIC, ccsIC⟩)
    (vIC : vsIC[2]? = some (.str fileIC tfIC))
    (hIC : ((l.prog.main.file : Str) == fileIC) = true)
    (tIC : (l.prog.main.scope.names.lookup ("super" : Str)).isSome = false)
    (nIC : PySem.W.nsIn K cStatics "thirdparty.any" = some none)
    (mIC : PySem.W.mroIn K CC (.ref CC) = some true)
    (sIC : PySem.W.ks_superIn K CC CC "__init__" = some (some (.ref fIR)))
    (tyIR : PySem.W.typeIn K (.ref fIR) = some (.type "function"))
    (fiIR : PySem.W.fnIn K fIR = true)
    (gCI : PySem.W.nsIn K mainGlobals "InvalidRule" = some (some (.ref CI)))
    (lkCI : K.lookup CI = some (excClassObj nmCI qnCI CI nsCI bsCI bmCI true snCI sbCI abCI coCI ddCI x0CI x1CI x2CI x3CI x5CI "ValueError.__new__"))
    (vbCI : PySem.HandSPX.refsVE bmCI = true)
    (atCI : PySem.W.findIn K (.ref CI) "__init__" = some (some (.ref fEi)))
    (ftCI : PySem.W.typeIn K (.ref fEi) = some (.type "function"))
    (lEi : K.lookup fEi = some ⟨ocEi, odEi, .func (PySem.W.fnOf "__init__" "InvalidRule.__init__" (defArgs cInvalidRuleInit) (defBody cInvalidRuleInit) (defScope cInvalidRuleInit) .none kVEi dcEi pmEi anEi cdEi ctEi), slEi⟩)
    (cEi : PySem.W.codeIn K cdEi "InvalidRule.__init__" = true)
    (kEi : PySem.W.keepIn K (.ref fEi) = true)
    (cxCI : PySem.W.clsIn K CI = some cdtCI)
    (tyCI : PySem.W.typeIn K (.ref CI) = some (.type "type"))
    (hgCI : PySem.W.findIn K (.ref CI) "__getattribute__" = some (some (.builtin "BaseException.__getattribute__")))
    (hkCI : PySem.W.findIn K (.ref CI) "__getattr__" = some none)
    (svCI : PySem.W.subIn K (.ref CI) (.type "BaseException") = some true)
    (sxCI : PySem.W.subIn K (.ref CI) (.ref CI) = some true)
    (icCI : PySem.W.isClsIn K CI = true)
    (haCI : PySem.W.findIn K (.ref CI) "__class__" = some (some (.builtin "object.__class__")))
    (hmCI : PySem.W.mroIn K CI (.type "object") = some true)
    (hdCI : PySem.W.hasDictIn K CI = true)
    (kpCI : PySem.W.keepIn K (.ref CI) = true)
    (nCI_part : PySem.W.findIn K (.ref CI) "part" = some none)
    (saCI : PySem.W.findIn K (.ref CI) "__setattr__" = some (some (.builtin "object.__setattr__")))
    (gCW : PySem.W.nsIn K mainGlobals "WrongStone" = some (some (.ref CW)))
    (lkCW : K.lookup CW = some (excClassObj nmCW qnCW CW nsCW bsCW bmCW true snCW sbCW abCW coCW ddCW x0CW x1CW x2CW x3CW x5CW "ValueError.__new__"))
    (vbCW : PySem.HandSPX.refsVE bmCW = true)
    (atCW : PySem.W.findIn K (.ref CW) "__init__" = some (some (.ref fEw)))
    (ftCW : PySem.W.typeIn K (.ref fEw) = some (.type "function"))
    (lEw : K.lookup fEw = some ⟨ocEw, odEw, .func (PySem.W.fnOf "__init__" "WrongStone.__init__" (defArgs cWrongStoneInit) (defBody cWrongStoneInit) (defScope cWrongStoneInit) .none kVEw dcEw pmEw anEw cdEw ctEw), slEw⟩)
    (cEw : PySem.W.codeIn K cdEw "WrongStone.__init__" = true)
    (kEw : PySem.W.keepIn K (.ref fEw) = true)
    (cxCW : PySem.W.clsIn K CW = some cdtCW)
    (tyCW : PySem.W.typeIn K (.ref CW) = some (.type "type"))
    (hgCW : PySem.W.findIn K (.ref CW) "__getattribute__" = some (some (.builtin "BaseException.__getattribute__")))
    (hkCW : PySem.W.findIn K (.ref CW) "__getattr__" = some none)
    (svCW : PySem.W.subIn K (.ref CW) (.type "BaseException") = some true)
    (sxCW : PySem.W.subIn K (.ref CW) (.ref CW) = some true)
    (icCW : PySem.W.isClsIn K CW = true)
    (haCW : PySem.W.findIn K (.ref CW) "__class__" = some (some (.builtin "object.__class__")))
    (hmCW : PySem.W.mroIn K CW (.type "object") = some true)
    (hdCW : PySem.W.hasDictIn K CW = true)
    (kpCW : PySem.W.keepIn K (.ref CW) = true)
    (nCW_stone : PySem.W.findIn K (.ref CW) "stone" = some none)
    (saCW : PySem.W.findIn K (.ref CW) "__setattr__" = some (some (.builtin "object.__setattr__")))
    (gCB : PySem.W.nsIn K mainGlobals "InvalidPicture" = some (some (.ref CB)))
    (lkCB : K.lookup CB = some (excClassObj nmCB qnCB CB nsCB bsCB bmCB true snCB sbCB abCB coCB ddCB x0CB x1CB x2CB x3CB x5CB "ValueError.__new__"))
    (vbCB : PySem.HandSPX.refsVE bmCB = true)
    (atCB : PySem.W.findIn K (.ref CB) "__init__" = some (some (.ref fEb)))
    (ftCB : PySem.W.typeIn K (.ref fEb) = some (.type "function"))
    (lEb : K.lookup fEb = some ⟨ocEb, odEb, .func (PySem.W.fnOf "__init__" "InvalidPicture.__init__" (defArgs cInvalidPictureInit) (defBody cInvalidPictureInit) (defScope cInvalidPictureInit) .none kVEb dcEb pmEb anEb cdEb ctEb), slEb⟩)
    (cEb : PySem.W.codeIn K cdEb "InvalidPicture.__init__" = true)
    (kEb : PySem.W.keepIn K (.ref fEb) = true)
    (cxCB : PySem.W.clsIn K CB = some cdtCB)
    (tyCB : PySem.W.typeIn K (.ref CB) = some (.type "type"))
    (hgCB : PySem.W.findIn K (.ref CB) "__getattribute__" = some (some (.builtin "BaseException.__getattribute__")))
    (hkCB : PySem.W.findIn K (.ref CB) "__getattr__" = some none)
    (svCB : PySem.W.subIn K (.ref CB) (.type "BaseException") = some true)
    (sxCB : PySem.W.subIn K (.ref CB) (.ref CB) = some true)
    (icCB : PySem.W.isClsIn K CB = true)
    (haCB : PySem.W.findIn K (.ref CB) "__class__" = some (some (.builtin "object.__class__")))
    (hmCB : PySem.W.mroIn K CB (.type "object") = some true)
    (hdCB : PySem.W.hasDictIn K CB = true)
    (kpCB : PySem.W.keepIn K (.ref CB) = true)
    (nCB_line : PySem.W.findIn K (.ref CB) "line" = some none)
    (saCB : PySem.W.findIn K (.ref CB) "__setattr__" = some (some (.builtin "object.__setattr__")))
    (gCO : PySem.W.nsIn K mainGlobals "OutOfPicture" = some (some (.ref CO)))
    (lkCO : K.lookup CO = some (excClassObj nmCO qnCO CO nsCO bsCO bmCO true snCO sbCO abCO coCO ddCO x0CO x1CO x2CO x3CO x5CO "ValueError.__new__"))
    (vbCO : PySem.HandSPX.refsVE bmCO = true)
    (atCO : PySem.W.findIn K (.ref CO) "__init__" = some (some (.ref fEo)))
    (ftCO : PySem.W.typeIn K (.ref fEo) = some (.type "function"))
    (lEo : K.lookup fEo = some ⟨ocEo, odEo, .func (PySem.W.fnOf "__init__" "OutOfPicture.__init__" (defArgs cOutOfPictureInit) (defBody cOutOfPictureInit) (defScope cOutOfPictureInit) .none kVEo dcEo pmEo anEo cdEo ctEo), slEo⟩)
    (cEo : PySem.W.codeIn K cdEo "OutOfPicture.__init__" = true)
    (kEo : PySem.W.keepIn K (.ref fEo) = true)
    (cxCO : PySem.W.clsIn K CO = some cdtCO)
    (tyCO : PySem.W.typeIn K (.ref CO) = some (.type "type"))
    (hgCO : PySem.W.findIn K (.ref CO) "__getattribute__" = some (some (.builtin "BaseException.__getattribute__")))
    (hkCO : PySem.W.findIn K (.ref CO) "__getattr__" = some none)
    (svCO : PySem.W.subIn K (.ref CO) (.type "BaseException") = some true)
    (sxCO : PySem.W.subIn K (.ref CO) (.ref CO) = some true)
    (icCO : PySem.W.isClsIn K CO = true)
    (haCO : PySem.W.findIn K (.ref CO) "__class__" = some (some (.builtin "object.__class__")))
    (hmCO : PySem.W.mroIn K CO (.type "object") = some true)
    (hdCO : PySem.W.hasDictIn K CO = true)
    (kpCO : PySem.W.keepIn K (.ref CO) = true)
    (nCO_x : PySem.W.findIn K (.ref CO) "x" = some none)
    (nCO_y : PySem.W.findIn K (.ref CO) "y" = some none)
    (saCO : PySem.W.findIn K (.ref CO) "__setattr__" = some (some (.builtin "object.__setattr__")))
    (gCE : PySem.W.nsIn K mainGlobals "SmaltiError" = some (some (.ref CE)))
    (cxCE : PySem.W.clsIn K CE = some cdtCE)
    (tyCE : PySem.W.typeIn K (.ref CE) = some (.type "type"))
    (sbCOCE : PySem.W.subIn K (.ref CO) (.ref CE) = some true)
    (neCOCE : (CO == CE) = false)
    (sbCWCE : PySem.W.subIn K (.ref CW) (.ref CE) = some true)
    (neCWCE : (CW == CE) = false)
    (sWO : PySem.W.subIn K (.ref CW) (.ref CO) = some false)
    (aIs : PySem.W.nsIn K mainGlobals "is_stone" = some (some (.ref fIs)))
    (lIs : K.lookup fIs = some ⟨ocIs, odIs, .func (PySem.W.fnOf "is_stone" "is_stone" (defArgs gIsStone) (defBody gIsStone) (defScope gIsStone) .none kVIs dcIs pmIs anIs cdIs ctIs), slIs⟩)
    (cIs : PySem.W.codeIn K cdIs "is_stone" = true)
    (kIs : PySem.W.keepIn K (.ref fIs) = true)
    (aKc : PySem.W.nsIn K mainGlobals "check_cell" = some (some (.ref fKc)))
    (lKc : K.lookup fKc = some ⟨ocKc, odKc, .func (PySem.W.fnOf "check_cell" "check_cell" (defArgs gCheckCell) (defBody gCheckCell) (defScope gCheckCell) .none kVKc dcKc pmKc anKc cdKc ctKc), slKc⟩)
    (cKc : PySem.W.codeIn K cdKc "check_cell" = true)
    (kKc : PySem.W.keepIn K (.ref fKc) = true)
    (aSo : PySem.W.nsIn K mainGlobals "is_stone_or_hole" = some (some (.ref fSo)))
    (lSo : K.lookup fSo = some ⟨ocSo, odSo, .func (PySem.W.fnOf "is_stone_or_hole" "is_stone_or_hole" (defArgs gIsStoneOrHole) (defBody gIsStoneOrHole) (defScope gIsStoneOrHole) .none kVSo dcSo pmSo anSo cdSo ctSo), slSo⟩)
    (cSo : PySem.W.codeIn K cdSo "is_stone_or_hole" = true)
    (kSo : PySem.W.keepIn K (.ref fSo) = true)
    (aBa : PySem.W.nsIn K mainGlobals "_is_bad_row" = some (some (.ref fBa)))
    (lBa : K.lookup fBa = some ⟨ocBa, odBa, .func (PySem.W.fnOf "_is_bad_row" "_is_bad_row" (defArgs gIsBadRow) (defBody gIsBadRow) (defScope gIsBadRow) .none kVBa dcBa pmBa anBa cdBa ctBa), slBa⟩)
    (cBa : PySem.W.codeIn K cdBa "_is_bad_row" = true)
    (kBa : PySem.W.keepIn K (.ref fBa) = true)
    (aBl : PySem.W.nsIn K mainGlobals "_bad_line" = some (some (.ref fBl)))
    (lBl : K.lookup fBl = some ⟨ocBl, odBl, .func (PySem.W.fnOf "_bad_line" "_bad_line" (defArgs gBadLine) (defBody gBadLine) (defScope gBadLine) .none kVBl dcBl pmBl anBl cdBl ctBl), slBl⟩)
    (cBl : PySem.W.codeIn K cdBl "_bad_line" = true)
    (kBl : PySem.W.keepIn K (.ref fBl) = true)
    (aDf : PySem.W.nsIn K mainGlobals "are_different_signs" = some (some (.ref fDf)))
    (lDf : K.lookup fDf = some ⟨ocDf, odDf, .func (PySem.W.fnOf "are_different_signs" "are_different_signs" (defArgs gAreDifferentSigns) (defBody gAreDifferentSigns) (defScope gAreDifferentSigns) .none kVDf dcDf pmDf anDf cdDf ctDf), slDf⟩)
    (cDf : PySem.W.codeIn K cdDf "are_different_signs" = true)
    (kDf : PySem.W.keepIn K (.ref fDf) = true)
    (aAs : PySem.W.nsIn K mainGlobals "in_ascii_order" = some (some (.ref fAs)))
    (lAs : K.lookup fAs = some ⟨ocAs, odAs, .func (PySem.W.fnOf "in_ascii_order" "in_ascii_order" (defArgs gInAsciiOrder) (defBody gInAsciiOrder) (defScope gInAsciiOrder) .none kVAs dcAs pmAs anAs cdAs ctAs), slAs⟩)
    (cAs : PySem.W.codeIn K cdAs "in_ascii_order" = true)
    (kAs : PySem.W.keepIn K (.ref fAs) = true)
    (aPc : PySem.W.nsIn K mainGlobals "_is_place" = some (some (.ref fPc)))
    (lPc : K.lookup fPc = some ⟨ocPc, odPc, .func (PySem.W.fnOf "_is_place" "_is_place" (defArgs gIsPlace) (defBody gIsPlace) (defScope gIsPlace) .none kVPc dcPc pmPc anPc cdPc ctPc), slPc⟩)
    (cPc : PySem.W.codeIn K cdPc "_is_place" = true)
    (kPc : PySem.W.keepIn K (.ref fPc) = true)
    (aCk : PySem.W.nsIn K mainGlobals "_check_conditions" = some (some (.ref fCk)))
    (lCk : K.lookup fCk = some ⟨ocCk, odCk, .func (PySem.W.fnOf "_check_conditions" "_check_conditions" (defArgs gCheckConditions) (defBody gCheckConditions) (defScope gCheckConditions) .none kVCk dcCk pmCk anCk cdCk ctCk), slCk⟩)
    (cCk : PySem.W.codeIn K cdCk "_check_conditions" = true)
    (kCk : PySem.W.keepIn K (.ref fCk) = true)
    (aNd : PySem.W.nsIn K mainGlobals "_check_need" = some (some (.ref fNd)))
    (lNd : K.lookup fNd = some ⟨ocNd, odNd, .func (PySem.W.fnOf "_check_need" "_check_need" (defArgs gCheckNeed) (defBody gCheckNeed) (defScope gCheckNeed) .none kVNd dcNd pmNd anNd cdNd ctNd), slNd⟩)
    (cNd : PySem.W.codeIn K cdNd "_check_need" = true)
    (kNd : PySem.W.keepIn K (.ref fNd) = true)
    (aIo : PySem.W.nsIn K mainGlobals "_in_order" = some (some (.ref fIo)))
    (lIo : K.lookup fIo = some ⟨ocIo, odIo, .func (PySem.W.fnOf "_in_order" "_in_order" (defArgs gInOrder) (defBody gInOrder) (defScope gInOrder) .none kVIo dcIo pmIo anIo cdIo ctIo), slIo⟩)
    (cIo : PySem.W.codeIn K cdIo "_in_order" = true)
    (kIo : PySem.W.keepIn K (.ref fIo) = true)
    (aCa : PySem.W.nsIn K mainGlobals "_clashes_at" = some (some (.ref fCa)))
    (lCa : K.lookup fCa = some ⟨ocCa, odCa, .func (PySem.W.fnOf "_clashes_at" "_clashes_at" (defArgs gClashesAt) (defBody gClashesAt) (defScope gClashesAt) .none kVCa dcCa pmCa anCa cdCa ctCa), slCa⟩)
    (cCa : PySem.W.codeIn K cdCa "_clashes_at" = true)
    (kCa : PySem.W.keepIn K (.ref fCa) = true)
    (aBag : PySem.W.nsIn K mainGlobals "_law_bag" = some (some (.ref fBag)))
    (lBag : K.lookup fBag = some ⟨ocBag, odBag, .func (PySem.W.fnOf "_law_bag" "_law_bag" (defArgs lBag) (defBody lBag) (defScope lBag) .none kVBag dcBag pmBag anBag cdBag ctBag), slBag⟩)
    (cBag : PySem.W.codeIn K cdBag "_law_bag" = true)
    (kBag : PySem.W.keepIn K (.ref fBag) = true)
    (aTake : PySem.W.nsIn K mainGlobals "_law_take" = some (some (.ref fTake)))
    (lTake : K.lookup fTake = some ⟨ocTake, odTake, .func (PySem.W.fnOf "_law_take" "_law_take" (defArgs lTake) (defBody lTake) (defScope lTake) .none kVTake dcTake pmTake anTake cdTake ctTake), slTake⟩)
    (cTake : PySem.W.codeIn K cdTake "_law_take" = true)
    (kTake : PySem.W.keepIn K (.ref fTake) = true)
    (aIi : PySem.W.nsIn K mainGlobals "_law_is_int" = some (some (.ref fIi)))
    (lIi : K.lookup fIi = some ⟨ocIi, odIi, .func (PySem.W.fnOf "_law_is_int" "_law_is_int" (defArgs lIsInt) (defBody lIsInt) (defScope lIsInt) .none kVIi dcIi pmIi anIi cdIi ctIi), slIi⟩)
    (cIi : PySem.W.codeIn K cdIi "_law_is_int" = true)
    (kIi : PySem.W.keepIn K (.ref fIi) = true)
    (aIc : PySem.W.nsIn K mainGlobals "_law_is_cell" = some (some (.ref fIc)))
    (lIc : K.lookup fIc = some ⟨ocIc, odIc, .func (PySem.W.fnOf "_law_is_cell" "_law_is_cell" (defArgs lIsCell) (defBody lIsCell) (defScope lIsCell) .none kVIc dcIc pmIc anIc cdIc ctIc), slIc⟩)
    (cIc : PySem.W.codeIn K cdIc "_law_is_cell" = true)
    (kIc : PySem.W.keepIn K (.ref fIc) = true)
    (aIz : PySem.W.nsIn K mainGlobals "_law_is_cells" = some (some (.ref fIz)))
    (lIz : K.lookup fIz = some ⟨ocIz, odIz, .func (PySem.W.fnOf "_law_is_cells" "_law_is_cells" (defArgs lIsCells) (defBody lIsCells) (defScope lIsCells) .none kVIz dcIz pmIz anIz cdIz ctIz), slIz⟩)
    (cIz : PySem.W.codeIn K cdIz "_law_is_cells" = true)
    (kIz : PySem.W.keepIn K (.ref fIz) = true)
    (aRd : PySem.W.nsIn K mainGlobals "_law_reading" = some (some (.ref fRd)))
    (lRd : K.lookup fRd = some ⟨ocRd, odRd, .func (PySem.W.fnOf "_law_reading" "_law_reading" (defArgs lReading) (defBody lReading) (defScope lReading) .none kVRd dcRd pmRd anRd cdRd ctRd), slRd⟩)
    (cRd : PySem.W.codeIn K cdRd "_law_reading" = true)
    (kRd : PySem.W.keepIn K (.ref fRd) = true)
    (aPal : PySem.W.nsIn K mainGlobals "_law_palette" = some (some (.ref fPal)))
    (lPal : K.lookup fPal = some ⟨ocPal, odPal, .func (PySem.W.fnOf "_law_palette" "_law_palette" (defArgs lPalette) (defBody lPalette) (defScope lPalette) .none kVPal dcPal pmPal anPal cdPal ctPal), slPal⟩)
    (cPal : PySem.W.codeIn K cdPal "_law_palette" = true)
    (kPal : PySem.W.keepIn K (.ref fPal) = true)
    (aRow : PySem.W.nsIn K mainGlobals "_law_row" = some (some (.ref fRow)))
    (lRow : K.lookup fRow = some ⟨ocRow, odRow, .func (PySem.W.fnOf "_law_row" "_law_row" (defArgs lRow) (defBody lRow) (defScope lRow) .none kVRow dcRow pmRow anRow cdRow ctRow), slRow⟩)
    (cRow : PySem.W.codeIn K cdRow "_law_row" = true)
    (kRow : PySem.W.keepIn K (.ref fRow) = true)
    (aGrid : PySem.W.nsIn K mainGlobals "_law_grid" = some (some (.ref fGrid)))
    (lGrid : K.lookup fGrid = some ⟨ocGrid, odGrid, .func (PySem.W.fnOf "_law_grid" "_law_grid" (defArgs lGrid) (defBody lGrid) (defScope lGrid) .none kVGrid dcGrid pmGrid anGrid cdGrid ctGrid), slGrid⟩)
    (cGrid : PySem.W.codeIn K cdGrid "_law_grid" = true)
    (kGrid : PySem.W.keepIn K (.ref fGrid) = true)
    (aOf : PySem.W.nsIn K mainGlobals "_law_offset" = some (some (.ref fOf)))
    (lOf : K.lookup fOf = some ⟨ocOf, odOf, .func (PySem.W.fnOf "_law_offset" "_law_offset" (defArgs lOffset) (defBody lOffset) (defScope lOffset) .none kVOf dcOf pmOf anOf cdOf ctOf), slOf⟩)
    (cOf : PySem.W.codeIn K cdOf "_law_offset" = true)
    (kOf : PySem.W.keepIn K (.ref fOf) = true)
    (aSg : PySem.W.nsIn K mainGlobals "_law_signs" = some (some (.ref fSg)))
    (lSg : K.lookup fSg = some ⟨ocSg, odSg, .func (PySem.W.fnOf "_law_signs" "_law_signs" (defArgs lSigns) (defBody lSigns) (defScope lSigns) .none kVSg dcSg pmSg anSg cdSg ctSg), slSg⟩)
    (cSg : PySem.W.codeIn K cdSg "_law_signs" = true)
    (kSg : PySem.W.keepIn K (.ref fSg) = true)
    (aPa : PySem.W.nsIn K mainGlobals "_law_parts" = some (some (.ref fPa)))
    (lPa : K.lookup fPa = some ⟨ocPa, odPa, .func (PySem.W.fnOf "_law_parts" "_law_parts" (defArgs lParts) (defBody lParts) (defScope lParts) .none kVPa dcPa pmPa anPa cdPa ctPa), slPa⟩)
    (cPa : PySem.W.codeIn K cdPa "_law_parts" = true)
    (kPa : PySem.W.keepIn K (.ref fPa) = true)
    (aRu : PySem.W.nsIn K mainGlobals "_law_rule" = some (some (.ref fRu)))
    (lRu : K.lookup fRu = some ⟨ocRu, odRu, .func (PySem.W.fnOf "_law_rule" "_law_rule" (defArgs lRule) (defBody lRule) (defScope lRule) .none kVRu dcRu pmRu anRu cdRu ctRu), slRu⟩)
    (cRu : PySem.W.codeIn K cdRu "_law_rule" = true)
    (kRu : PySem.W.keepIn K (.ref fRu) = true)
    (aSgn : PySem.W.nsIn K mainGlobals "_law_sign" = some (some (.ref fSgn)))
    (lSgn : K.lookup fSgn = some ⟨ocSgn, odSgn, .func (PySem.W.fnOf "_law_sign" "_law_sign" (defArgs lSign) (defBody lSign) (defScope lSign) .none kVSgn dcSgn pmSgn anSgn cdSgn ctSgn), slSgn⟩)
    (cSgn : PySem.W.codeIn K cdSgn "_law_sign" = true)
    (kSgn : PySem.W.keepIn K (.ref fSgn) = true)
    (aLy : PySem.W.nsIn K mainGlobals "_law_lays" = some (some (.ref fLy)))
    (lLy : K.lookup fLy = some ⟨ocLy, odLy, .func (PySem.W.fnOf "_law_lays" "_law_lays" (defArgs lLays) (defBody lLays) (defScope lLays) .none kVLy dcLy pmLy anLy cdLy ctLy), slLy⟩)
    (cLy : PySem.W.codeIn K cdLy "_law_lays" = true)
    (kLy : PySem.W.keepIn K (.ref fLy) = true)
    (aLc : PySem.W.nsIn K mainGlobals "_law_clashing" = some (some (.ref fLc)))
    (lLc : K.lookup fLc = some ⟨ocLc, odLc, .func (PySem.W.fnOf "_law_clashing" "_law_clashing" (defArgs lClashing) (defBody lClashing) (defScope lClashing) .none kVLc dcLc pmLc anLc cdLc ctLc), slLc⟩)
    (cLc : PySem.W.codeIn K cdLc "_law_clashing" = true)
    (kLc : PySem.W.keepIn K (.ref fLc) = true)
    (aSu : PySem.W.nsIn K mainGlobals "_law_subset" = some (some (.ref fSu)))
    (lSu : K.lookup fSu = some ⟨ocSu, odSu, .func (PySem.W.fnOf "_law_subset" "_law_subset" (defArgs lSubset) (defBody lSubset) (defScope lSubset) .none kVSu dcSu pmSu anSu cdSu ctSu), slSu⟩)
    (cSu : PySem.W.codeIn K cdSu "_law_subset" = true)
    (kSu : PySem.W.keepIn K (.ref fSu) = true)
    (aRi : PySem.W.nsIn K mainGlobals "_law_region_is" = some (some (.ref fRi)))
    (lRi : K.lookup fRi = some ⟨ocRi, odRi, .func (PySem.W.fnOf "_law_region_is" "_law_region_is" (defArgs lRegionIs) (defBody lRegionIs) (defScope lRegionIs) .none kVRi dcRi pmRi anRi cdRi ctRi), slRi⟩)
    (cRi : PySem.W.codeIn K cdRi "_law_region_is" = true)
    (kRi : PySem.W.keepIn K (.ref fRi) = true)
    (aMa : PySem.W.nsIn K mainGlobals "_law_made" = some (some (.ref fMa)))
    (lMa : K.lookup fMa = some ⟨ocMa, odMa, .func (PySem.W.fnOf "_law_made" "_law_made" (defArgs lMade) (defBody lMade) (defScope lMade) .none kVMa dcMa pmMa anMa cdMa ctMa), slMa⟩)
    (cMa : PySem.W.codeIn K cdMa "_law_made" = true)
    (kMa : PySem.W.keepIn K (.ref fMa) = true)
    (aAq : PySem.W.nsIn K mainGlobals "_law_asked" = some (some (.ref fAq)))
    (lAq : K.lookup fAq = some ⟨ocAq, odAq, .func (PySem.W.fnOf "_law_asked" "_law_asked" (defArgs lAsked) (defBody lAsked) (defScope lAsked) .none kVAq dcAq pmAq anAq cdAq ctAq), slAq⟩)
    (cAq : PySem.W.codeIn K cdAq "_law_asked" = true)
    (kAq : PySem.W.keepIn K (.ref fAq) = true)
    (aDu : PySem.W.nsIn K mainGlobals "_law_due" = some (some (.ref fDu)))
    (lDu : K.lookup fDu = some ⟨ocDu, odDu, .func (PySem.W.fnOf "_law_due" "_law_due" (defArgs lDue) (defBody lDue) (defScope lDue) .none kVDu dcDu pmDu anDu cdDu ctDu), slDu⟩)
    (cDu : PySem.W.codeIn K cdDu "_law_due" = true)
    (kDu : PySem.W.keepIn K (.ref fDu) = true)
    (aRt : PySem.W.nsIn K mainGlobals "_law_right" = some (some (.ref fRt)))
    (lRt : K.lookup fRt = some ⟨ocRt, odRt, .func (PySem.W.fnOf "_law_right" "_law_right" (defArgs lRight) (defBody lRight) (defScope lRight) .none kVRt dcRt pmRt anRt cdRt ctRt), slRt⟩)
    (cRt : PySem.W.codeIn K cdRt "_law_right" = true)
    (kRt : PySem.W.keepIn K (.ref fRt) = true)
    (aLaw : PySem.W.nsIn K mainGlobals "law" = some (some (.ref fLaw)))
    (lLaw : K.lookup fLaw = some ⟨ocLaw, odLaw, .func (PySem.W.fnOf "law" "law" (defArgs lLaw) (defBody lLaw) (defScope lLaw) .none kVLaw dcLaw pmLaw anLaw cdLaw ctLaw), slLaw⟩)
    (cLaw : PySem.W.codeIn K cdLaw "law" = true)
    (kLaw : PySem.W.keepIn K (.ref fLaw) = true)
    (zisinstance : PySem.W.nsIn K mainGlobals "isinstance" = some none)
    (zint : PySem.W.nsIn K mainGlobals "int" = some none)
    (zbool : PySem.W.nsIn K mainGlobals "bool" = some none)
    (ztuple : PySem.W.nsIn K mainGlobals "tuple" = some none)
    (zlist : PySem.W.nsIn K mainGlobals "list" = some none)
    (zlen : PySem.W.nsIn K mainGlobals "len" = some none)
    (zrange : PySem.W.nsIn K mainGlobals "range" = some none)
    (zall : PySem.W.nsIn K mainGlobals "all" = some none)
    (zenumerate : PySem.W.nsIn K mainGlobals "enumerate" = some none)
    (zsorted : PySem.W.nsIn K mainGlobals "sorted" = some none)
    (zset : PySem.W.nsIn K mainGlobals "set" = some none)
    (zstr : PySem.W.nsIn K mainGlobals "str" = some none)
    (zsuper : PySem.W.nsIn K mainGlobals "super" = some none) :
    ∃ fd : FuncData, (∀ (s : Shared) (v : Value), BindsTo s fd ⟨[v], []⟩ [("_law_script", v)]) ∧ ∀ base : Heap, K.In base → base.Ns mainGlobals mg → FnOk l.prog w K mg base CX0 8 fa fd ["_law_script"] (spLaw K) := by
  have e := hfa.symm.trans (PySem.W.mg_of X G aLaw)
  cases e
  have g : ∀ {x : Str} {u : Value}, PySem.W.nsIn K mainGlobals x = some (some u) → mg x = some u := fun z => PySem.W.mg_of X G z
  have n : ∀ {x : Str}, PySem.W.nsIn K mainGlobals x = some none → mg x = none := fun z => PySem.W.mg_none_of X G z
  have clCP : L2.Cls K CP := ⟨pgCP, hdCP, poCP, saCP⟩
  have FIP := fun_mk (st := Pm.cPictureInit) lIP cIP kIP
  have bIP := FIP.binds (ps := ["self", "rows"]) fun _ _ _ _ _ _ us hl => match us, hl with | [_, _], _ => rfl
  have FLi := fun_mk (st := Pm.cPictureLines) lLi cLi kLi
  have bLi := FLi.binds (ps := ["self"]) fun _ _ _ _ _ _ us hl => match us, hl with | [_], _ => rfl
  have FCn := fun_mk (st := Pm.cPictureContains) lCn cCn kCn
  have bCn := FCn.binds (ps := ["self", "x", "y"]) fun _ _ _ _ _ _ us hl => match us, hl with | [_, _, _], _ => rfl
  have FGi := fun_mk (st := Pm.cPictureGetitem) lGi cGi kGi
  have bGi := FGi.binds (ps := ["self", "at"]) fun _ _ _ _ _ _ us hl => match us, hl with | [_, _], _ => rfl
  have clCG : L2.Cls K CG := ⟨pgCG, hdCG, poCG, saCG⟩
  have FRI := fun_mk (st := Pm.cRegionInit) lRI cRI kRI
  have bRI := FRI.binds (ps := ["self", "cells"]) fun _ _ _ _ _ _ us hl => match us, hl with | [_, _], _ => rfl
  have FIn := fun_mk (st := Pm.cRegionContains) lIn cIn kIn
  have bIn := FIn.binds (ps := ["self", "cell"]) fun _ _ _ _ _ _ us hl => match us, hl with | [_, _], _ => rfl
  have FEq := fun_mk (st := Pm.cRegionEq) lEq cEq kEq
  have bEq := FEq.binds (ps := ["self", "other"]) fun _ _ _ _ _ _ us hl => match us, hl with | [_, _], _ => rfl
  have FRc := fun_mk (st := Pm.cRegionCells) lRc cRc kRc
  have bRc := FRc.binds (ps := ["self"]) fun _ _ _ _ _ _ us hl => match us, hl with | [_], _ => rfl
  have clCR : L2.Cls K CR := ⟨pgCR, hdCR, poCR, saCR⟩
  have clCC : L2.Cls K CC := ⟨pgCC, hdCC, poCC, saCC⟩
  have clCS : L2.Cls K CS := ⟨pgCS, hdCS, poCS, saCS⟩
  have FIR := fun_mk (st := Pm.cRuleInit) lIR cIR kIR
  have bIR := FIR.binds (ps := ["self", "stone", "conditions"]) fun _ _ _ _ _ _ us hl => match us, hl with | [_, _, _], _ => rfl
  have FLa := fun_mk (st := Pm.cRuleLays) lLa cLa kLa
  have bLa := FLa.binds (ps := ["self", "stone"]) fun _ _ _ _ _ _ us hl => match us, hl with | [_, _], _ => rfl
  have FCo := fun_mk (st := Pm.cRuleConditions) lCo cCo kCo
  have bCo := FCo.binds (ps := ["self", "stone"]) fun _ _ _ _ _ _ us hl => match us, hl with | [_, _], _ => rfl
  have FIS := fun_mk (st := Pm.cSameRuleInit) lIS cIS kIS
  have bIS := FIS.binds (ps := ["self", "places", "need"]) fun _ _ _ _ _ _ us hl => match us, hl with | [_, _, _], _ => rfl
  have FLS := fun_mk (st := Pm.cSameRuleLays) lLS cLS kLS
  have bLS := FLS.binds (ps := ["self", "stone"]) fun _ _ _ _ _ _ us hl => match us, hl with | [_, _], _ => rfl
  have FCoS := fun_mk (st := Pm.cSameRuleConditions) lCoS cCoS kCoS
  have bCoS := FCoS.binds (ps := ["self", "stone"]) fun _ _ _ _ _ _ us hl => match us, hl with | [_, _], _ => rfl
  have FCl : FunD K "clashes" "Rule.clashes" (defArgs cRuleClashes) (defBody cRuleClashes) (defScope cRuleClashes) [] [("loose", .non)] fCl (PySem.W.fnOf "clashes" "Rule.clashes" (defArgs cRuleClashes) (defBody cRuleClashes) (defScope cRuleClashes) .none (.ref kdCl) dcCl pmCl anCl cdCl ctCl) := ⟨⟨_, _, _, _, _, _, _, _, _, _, rfl, lCl, cCl, .inl ⟨rfl, rfl⟩, .inr ⟨kdCl, rfl, fun q m => by rw [List.mem_singleton.mp m]; exact ⟨_, dCl, drCl⟩⟩⟩, kCl⟩
  have kwCl : KBn K (PySem.W.fnOf "clashes" "Rule.clashes" (defArgs cRuleClashes) (defBody cRuleClashes) (defScope cRuleClashes) .none (.ref kdCl) dcCl pmCl anCl cdCl ctCl) ["self", "picture", "x", "y", "stone", "loose"] 5 ["loose"] (fun us ws => us ++ ws) (fun vs zs => vs ++ zs) := ⟨fun s us ws _ l1 l2 => match us, ws, l1, l2 with | [_, _, _, _, _], [_], _, _ => .of_eq rfl, fun r1 r2 => r1.append r2⟩
  obtain ⟨dsCl, dvCl, bCl⟩ := FCl.binds0 (ps := ["self", "picture", "x", "y", "stone", "loose"]) 5 (by decide) rfl fun _ _ _ _ _ _ us ks l1 l2 => match us, ks, l1, l2 with | [_, _, _, _, _], [_], _, _ => ⟨_, _, _, _, _, _, rfl, rfl, rfl⟩
  have FIC : FunS l.prog K "__init__" "CountRule.__init__" cCountRuleInit CC fIC ccIC cdaIC _ := ⟨⟨_, _, _, _, _, _, _, _, _, rfl, lIC, cIC⟩, ⟨_, _, _, xIC⟩, ⟨_, _, _, _, _, _, yIC, vIC, hIC⟩, ⟨_, cxCC⟩, tIC, nIC, ⟨_, rfl, rfl⟩⟩
  have bIC : Binds K (PySem.W.fnX "__init__" "CountRule.__init__" (defArgs cCountRuleInit) (defBody cCountRuleInit) (defScope cCountRuleInit) [("__class__", ccIC)] .none kVIC dcIC pmIC anIC (.ref cdaIC) ctIC) ["self", "stone", "conditions", "need"] [] := .all fun us hl => match us, hl with | [_, _, _, _], _ => rfl
  have FEi := fun_mk (st := Pm.cInvalidRuleInit) lEi cEi kEi
  have bEi := FEi.binds (ps := ["self", "part"]) fun _ _ _ _ _ _ us hl => match us, hl with | [_, _], _ => rfl
  have erCI : ErrC K CI := ⟨by rw [cxCI]; rfl, hgCI, hkCI, svCI, haCI, cn, ct, hmCI, hdCI⟩
  have teCI : PySem.W.exmOne K (.ref CI) (.ref CI) = some true := exm_self svCI icCI tyCI sxCI
  have oxCI : OexC K CI := ⟨⟨nmCI, qnCI, nsCI, bsCI, bmCI, snCI, sbCI, abCI, coCI, ddCI, x0CI, x1CI, x2CI, x3CI, x5CI, lkCI, vbCI⟩, saCI, svCI, tyCI, kpCI⟩
  have FEw := fun_mk (st := Pm.cWrongStoneInit) lEw cEw kEw
  have bEw := FEw.binds (ps := ["self", "stone"]) fun _ _ _ _ _ _ us hl => match us, hl with | [_, _], _ => rfl
  have erCW : ErrC K CW := ⟨by rw [cxCW]; rfl, hgCW, hkCW, svCW, haCW, cn, ct, hmCW, hdCW⟩
  have teCW : PySem.W.exmOne K (.ref CW) (.ref CW) = some true := exm_self svCW icCW tyCW sxCW
  have oxCW : OexC K CW := ⟨⟨nmCW, qnCW, nsCW, bsCW, bmCW, snCW, sbCW, abCW, coCW, ddCW, x0CW, x1CW, x2CW, x3CW, x5CW, lkCW, vbCW⟩, saCW, svCW, tyCW, kpCW⟩
  have FEb := fun_mk (st := Pm.cInvalidPictureInit) lEb cEb kEb
  have bEb := FEb.binds (ps := ["self", "line"]) fun _ _ _ _ _ _ us hl => match us, hl with | [_, _], _ => rfl
  have erCB : ErrC K CB := ⟨by rw [cxCB]; rfl, hgCB, hkCB, svCB, haCB, cn, ct, hmCB, hdCB⟩
  have teCB : PySem.W.exmOne K (.ref CB) (.ref CB) = some true := exm_self svCB icCB tyCB sxCB
  have oxCB : OexC K CB := ⟨⟨nmCB, qnCB, nsCB, bsCB, bmCB, snCB, sbCB, abCB, coCB, ddCB, x0CB, x1CB, x2CB, x3CB, x5CB, lkCB, vbCB⟩, saCB, svCB, tyCB, kpCB⟩
  have FEo := fun_mk (st := Pm.cOutOfPictureInit) lEo cEo kEo
  have bEo := FEo.binds (ps := ["self", "x", "y"]) fun _ _ _ _ _ _ us hl => match us, hl with | [_, _, _], _ => rfl
  have erCO : ErrC K CO := ⟨by rw [cxCO]; rfl, hgCO, hkCO, svCO, haCO, cn, ct, hmCO, hdCO⟩
  have teCO : PySem.W.exmOne K (.ref CO) (.ref CO) = some true := exm_self svCO icCO tyCO sxCO
  have oxCO : OexC K CO := ⟨⟨nmCO, qnCO, nsCO, bsCO, bmCO, snCO, sbCO, abCO, coCO, ddCO, x0CO, x1CO, x2CO, x3CO, x5CO, lkCO, vbCO⟩, saCO, svCO, tyCO, kpCO⟩
  have kitCOCE : PySem.W.kitOne K (.ref CO) (.ref CE) = some true := kit_cls neCOCE cxCE tyCE sbCOCE
  have kitCWCE : PySem.W.kitOne K (.ref CW) (.ref CE) = some true := kit_cls neCWCE cxCE tyCE sbCWCE
  have FIs := fun_mk (st := Pm.gIsStone) lIs cIs kIs
  have bIs := FIs.binds (ps := ["sign"]) fun _ _ _ _ _ _ us hl => match us, hl with | [_], _ => rfl
  have FKc := fun_mk (st := Pm.gCheckCell) lKc cKc kKc
  have bKc := FKc.binds (ps := ["picture", "x", "y"]) fun _ _ _ _ _ _ us hl => match us, hl with | [_, _, _], _ => rfl
  have FSo := fun_mk (st := Pm.gIsStoneOrHole) lSo cSo kSo
  have bSo := FSo.binds (ps := ["sign"]) fun _ _ _ _ _ _ us hl => match us, hl with | [_], _ => rfl
  have FBa := fun_mk (st := Pm.gIsBadRow) lBa cBa kBa
  have bBa := FBa.binds (ps := ["row", "width"]) fun _ _ _ _ _ _ us hl => match us, hl with | [_, _], _ => rfl
  have FBl := fun_mk (st := Pm.gBadLine) lBl cBl kBl
  have bBl := FBl.binds (ps := ["rows"]) fun _ _ _ _ _ _ us hl => match us, hl with | [_], _ => rfl
  have FDf := fun_mk (st := Pm.gAreDifferentSigns) lDf cDf kDf
  have bDf := FDf.binds (ps := ["signs", "besides"]) fun _ _ _ _ _ _ us hl => match us, hl with | [_, _], _ => rfl
  have FAs := fun_mk (st := Pm.gInAsciiOrder) lAs cAs kAs
  have bAs := FAs.binds (ps := ["signs"]) fun _ _ _ _ _ _ us hl => match us, hl with | [_], _ => rfl
  have FPc := fun_mk (st := Pm.gIsPlace) lPc cPc kPc
  have bPc := FPc.binds (ps := ["dx", "dy"]) fun _ _ _ _ _ _ us hl => match us, hl with | [_, _], _ => rfl
  have FCk := fun_mk (st := Pm.gCheckConditions) lCk cCk kCk
  have bCk := FCk.binds (ps := ["conditions"]) fun _ _ _ _ _ _ us hl => match us, hl with | [_], _ => rfl
  have FNd := fun_mk (st := Pm.gCheckNeed) lNd cNd kNd
  have bNd := FNd.binds (ps := ["need", "count"]) fun _ _ _ _ _ _ us hl => match us, hl with | [_, _], _ => rfl
  have FIo := fun_mk (st := Pm.gInOrder) lIo cIo kIo
  have bIo := FIo.binds (ps := ["conditions"]) fun _ _ _ _ _ _ us hl => match us, hl with | [_], _ => rfl
  have FCa := fun_mk (st := Pm.gClashesAt) lCa cCa kCa
  have bCa := FCa.binds (ps := ["picture", "position", "signs", "loose"]) fun _ _ _ _ _ _ us hl => match us, hl with | [_, _, _, _], _ => rfl
  have FBag := fun_mk (st := Pm.lBag) lBag cBag kBag
  have bBag := FBag.binds (ps := ["_law_script"]) fun _ _ _ _ _ _ us hl => match us, hl with | [_], _ => rfl
  have FTake := fun_mk (st := Pm.lTake) lTake cTake kTake
  have bTake := FTake.binds (ps := ["_law_bag_here", "_law_size"]) fun _ _ _ _ _ _ us hl => match us, hl with | [_, _], _ => rfl
  have FIi := fun_mk (st := Pm.lIsInt) lIi cIi kIi
  have bIi := FIi.binds (ps := ["_law_value"]) fun _ _ _ _ _ _ us hl => match us, hl with | [_], _ => rfl
  have FIc := fun_mk (st := Pm.lIsCell) lIc cIc kIc
  have bIc := FIc.binds (ps := ["_law_value"]) fun _ _ _ _ _ _ us hl => match us, hl with | [_], _ => rfl
  have FIz := fun_mk (st := Pm.lIsCells) lIz cIz kIz
  have bIz := FIz.binds (ps := ["_law_value"]) fun _ _ _ _ _ _ us hl => match us, hl with | [_], _ => rfl
  have FRd := fun_mk (st := Pm.lReading) lRd cRd kRd
  have bRd := FRd.binds (ps := ["_law_cells"]) fun _ _ _ _ _ _ us hl => match us, hl with | [_], _ => rfl
  have FPal := fun_mk (st := Pm.lPalette) lPal cPal kPal
  have bPal := FPal.binds (ps := ["_law_bag_here"]) fun _ _ _ _ _ _ us hl => match us, hl with | [_], _ => rfl
  have FRow := fun_mk (st := Pm.lRow) lRow cRow kRow
  have bRow := FRow.binds (ps := ["_law_bag_here", "_law_palette_here", "_law_wide"]) fun _ _ _ _ _ _ us hl => match us, hl with | [_, _, _], _ => rfl
  have FGrid := fun_mk (st := Pm.lGrid) lGrid cGrid kGrid
  have bGrid := FGrid.binds (ps := ["_law_bag_here", "_law_palette_here"]) fun _ _ _ _ _ _ us hl => match us, hl with | [_, _], _ => rfl
  have FOf := fun_mk (st := Pm.lOffset) lOf cOf kOf
  have bOf := FOf.binds (ps := ["_law_bag_here"]) fun _ _ _ _ _ _ us hl => match us, hl with | [_], _ => rfl
  have FSg := fun_mk (st := Pm.lSigns) lSg cSg kSg
  have bSg := FSg.binds (ps := ["_law_bag_here", "_law_palette_here"]) fun _ _ _ _ _ _ us hl => match us, hl with | [_, _], _ => rfl
  have FPa := fun_mk (st := Pm.lParts) lPa cPa kPa
  have bPa := FPa.binds (ps := ["_law_bag_here", "_law_palette_here"]) fun _ _ _ _ _ _ us hl => match us, hl with | [_, _], _ => rfl
  have FRu := fun_mk (st := Pm.lRule) lRu cRu kRu
  have bRu := FRu.binds (ps := ["_law_bag_here", "_law_palette_here"]) fun _ _ _ _ _ _ us hl => match us, hl with | [_, _], _ => rfl
  have FSgn := fun_mk (st := Pm.lSign) lSgn cSgn kSgn
  have bSgn := FSgn.binds (ps := ["_law_rows", "_law_cx", "_law_cy"]) fun _ _ _ _ _ _ us hl => match us, hl with | [_, _, _], _ => rfl
  have FLy := fun_mk (st := Pm.lLays) lLy cLy kLy
  have bLy := FLy.binds (ps := ["_law_rule_here", "_law_hue"]) fun _ _ _ _ _ _ us hl => match us, hl with | [_, _], _ => rfl
  have FLc := fun_mk (st := Pm.lClashing) lLc cLc kLc
  have bLc := FLc.binds (ps := ["_law_rule_here", "_law_rows", "_law_cx", "_law_cy", "_law_hue", "_law_free"]) fun _ _ _ _ _ _ us hl => match us, hl with | [_, _, _, _, _, _], _ => rfl
  have FSu := fun_mk (st := Pm.lSubset) lSu cSu kSu
  have bSu := FSu.binds (ps := ["_law_bag_here", "_law_cells", "_law_share"]) fun _ _ _ _ _ _ us hl => match us, hl with | [_, _, _], _ => rfl
  have FRi := fun_mk (st := Pm.lRegionIs) lRi cRi kRi
  have bRi := FRi.binds (ps := ["_law_region", "_law_due_here"]) fun _ _ _ _ _ _ us hl => match us, hl with | [_, _], _ => rfl
  have FMa := fun_mk (st := Pm.lMade) lMa cMa kMa
  have bMa := FMa.binds (ps := ["_law_rule_here"]) fun _ _ _ _ _ _ us hl => match us, hl with | [_], _ => rfl
  have FAq := fun_mk (st := Pm.lAsked) lAq cAq kAq
  have bAq := FAq.binds (ps := ["_law_made_here", "_law_picture", "_law_cx", "_law_cy", "_law_hue", "_law_region"]) fun _ _ _ _ _ _ us hl => match us, hl with | [_, _, _, _, _, _], _ => rfl
  have FDu := fun_mk (st := Pm.lDue) lDu cDu kDu
  have bDu := FDu.binds (ps := ["_law_rule_here", "_law_rows", "_law_cx", "_law_cy", "_law_hue", "_law_free"]) fun _ _ _ _ _ _ us hl => match us, hl with | [_, _, _, _, _, _], _ => rfl
  have FRt := fun_mk (st := Pm.lRight) lRt cRt kRt
  have bRt := FRt.binds (ps := ["_law_told", "_law_due_here"]) fun _ _ _ _ _ _ us hl => match us, hl with | [_, _], _ => rfl
  have FLaw := fun_mk (st := Pm.lLaw) lLaw cLaw kLaw
  refine ⟨PySem.W.fnOf "law" "law" (defArgs Pm.lLaw) (defBody Pm.lLaw) (defScope Pm.lLaw) .none kVLaw dcLaw pmLaw anLaw cdLaw ctLaw, fun s v => .of_eq rfl, fun base _ _ => ?_⟩
  have L : LTxt K mg := ⟨n zisinstance, n zint, n zlist, n zlen, n zrange⟩
  have B : BTxt K mg := ⟨n zisinstance, n zbool, n ztuple, n zint, n zlist, n zlen⟩
  have R : STxt K mg := ⟨n zset, n zsorted⟩
  have U : UTx K mg := ⟨⟨_, g aRe, rlRe⟩, ⟨_, g aMc, rlMc⟩⟩
  have T : PTxt K mg CP := ⟨g gCP, ⟨_, ⟨rdCP, gaCP⟩, ⟨_, aHo, rlHo⟩, ⟨_, aEd, rlEd⟩⟩, ⟨_, g aSn, rlSn⟩, ⟨_, g aMo, rlMo⟩, n zall, n zenumerate⟩
  have TP : PCls K CP := ⟨clCP, nCP_rows, nCP_width, nCP_height⟩
  have TG : RTxt K mg CG := ⟨clCG, nCG_members, g gCG, n zsorted, n zlist⟩
  have TR : RCls K CR := ⟨clCR, nCR_stone, nCR_conditions, nCR_need⟩
  have TC : RCls K CC := ⟨clCC, nCC_stone, nCC_conditions, nCC_need⟩
  have TS : RCls K CS := ⟨clCS, nCS_stone, nCS_conditions, nCS_need⟩
  have Gt : GTx mg CR CC CS := ⟨g gCR, g gCC, g gCS⟩
  have Y : FTx K mg CO CW CE := ⟨g gCO, g gCW, g gCE, erCO, erCW, nCO_x, nCO_y, nCW_stone, teCO, teCW, exm_cls svCO icCO tyCO sWO, kitCOCE, kitCWCE⟩
  have TRC : RCTxt K mg CG := ⟨TG, n zisinstance, caCG, cn, ct, cmCG, kit_self⟩
  have nt : NotT K CG "str" := ⟨icCG, tyCG, nsCG⟩
  have cIs : Cl l.prog w K mg base CX0 1 "is_stone" ["sign"] spStone fIs _ := ⟨ok_stone FIs L T, kIs, bIs, g aIs⟩
  have cSo : Cl l.prog w K mg base CX0 2 "is_stone_or_hole" ["sign"] spSoh fSo _ := ⟨ok_soh FSo cIs T, kSo, bSo, g aSo⟩
  have cBa : Cl l.prog w K mg base CX0 3 "_is_bad_row" ["row", "width"] spBad fBa _ := ⟨ok_bad FBa cSo L T, kBa, bBa, g aBa⟩
  have cBl : Cl l.prog w K mg base CX0 4 "_bad_line" ["rows"] spLine fBl _ := ⟨ok_line FBl cBa L T, kBl, bBl, g aBl⟩
  have cDf : Cl l.prog w K mg base CX0 2 "are_different_signs" ["signs", "besides"] spDiff fDf _ := ⟨ok_differ FDf cIs L T R, kDf, bDf, g aDf⟩
  have cAs : Cl l.prog w K mg base CX0 1 "in_ascii_order" ["signs"] spAsc fAs _ := ⟨ok_asc FAs R, kAs, bAs, g aAs⟩
  have cPc : Cl l.prog w K mg base CX0 1 "_is_place" ["dx", "dy"] spPlace fPc _ := ⟨ok_place FPc U, kPc, bPc, g aPc⟩
  have xI : EMk l.prog w K mg base CI "InvalidRule" ["self", "part"] (spE1 CI "part") fEi _ := ⟨oxCI, atCI, ftCI, okEInvalidRule FEi oxCI nCI_part, bEi, g gCI⟩
  have xW : EMk l.prog w K mg base CW "WrongStone" ["self", "stone"] (spE1 CW "stone") fEw _ := ⟨oxCW, atCW, ftCW, okEWrongStone FEw oxCW nCW_stone, bEw, g gCW⟩
  have xB : EMk l.prog w K mg base CB "InvalidPicture" ["self", "line"] (spE1 CB "line") fEb _ := ⟨oxCB, atCB, ftCB, okEInvalidPicture FEb oxCB nCB_line, bEb, g gCB⟩
  have xO : EMk l.prog w K mg base CO "OutOfPicture" ["self", "x", "y"] (spE2 CO) fEo _ := ⟨oxCO, atCO, ftCO, okEOutOfPicture FEo oxCO nCO_x nCO_y, bEo, g gCO⟩
  have cCk : Cl l.prog w K mg base (L2.CX l.prog w) 3 "_check_conditions" ["conditions"] (spCheck CI) fCk _ := ⟨ok_check FCk cPc cDf xI T R U, kCk, bCk, g aCk⟩
  have cNd : Cl l.prog w K mg base (L2.CX l.prog w) 3 "_check_need" ["need", "count"] (spNeed CI) fNd _ := ⟨ok_need FNd xI, kNd, bNd, g aNd⟩
  have cIo : Cl l.prog w K mg base CX0 2 "_in_order" ["conditions"] spInOrder fIo _ := ⟨ok_inorder FIo cAs R, kIo, bIo, g aIo⟩
  have OIR := ok_ruleinit FIR cIs cCk cIo xI
  have OIC := ok_countinit FIC (n zsuper) ⟨mIC, sIC, tyIR, fiIR⟩ OIR bIR cNd L TC
  have OIS := ok_sameinit FIS cCk cIo cNd L T TS
  have kR : Ctor l.prog w K mg base CR 4 ["self", "stone", "conditions"] (spRuleInit CI K) fIR _ := ⟨⟨mkCR, aIR, iIR, kpCR⟩, OIR, bIR, TR⟩
  have kC : Ctor l.prog w K mg base CC 5 ["self", "stone", "conditions", "need"] (spCountInit CI CC K) fIC _ := ⟨⟨mkCC, aIC, iIC, kpCC⟩, OIC, bIC, TC⟩
  have kS : Ctor l.prog w K mg base CS 5 ["self", "places", "need"] (spSameInit CI CS K) fIS _ := ⟨⟨mkCS, aIS, iIS, kpCS⟩, OIS, bIS, TS⟩
  have mLR : Meth K CR "lays" fLa := ⟨aLa, iLa, kLa⟩
  have mLC : Meth K CC "lays" fLa := ⟨aLaCC, iLa, kLa⟩
  have mLS : Meth K CS "lays" fLS := ⟨aLS, iLS, kLS⟩
  have mCR : Meth K CR "conditions" fCo := ⟨aCo, iCo, kCo⟩
  have mCC : Meth K CC "conditions" fCo := ⟨aCoCC, iCo, kCo⟩
  have mCS : Meth K CS "conditions" fCoS := ⟨aCoS, iCoS, kCoS⟩
  have OLR := ok_lays (P := l.prog) (w := w) (mg := mg) (base := base) (κ := 0) FLa TR (by decide)
  have OLC := ok_lays (P := l.prog) (w := w) (mg := mg) (base := base) (κ := 1) FLa TC (by decide)
  have OLS := ok_laysS (C := CS) FLS cIs
  have OCR := ok_cond FCo TR (by decide) mLR OLR bLa xW L
  have OCC := ok_cond FCo TC (by decide) mLC OLC bLa xW L
  have OCS := ok_condS FCoS TS mLS OLS bLS xW L
  have OIP := ok_init FIP cBl xB L TP
  have MP : Mk K CP fIP := ⟨mkCP, aIP, iIP, kpCP⟩
  have OLi := ok_lines (P := l.prog) (w := w) (mg := mg) (base := base) FLi L TP
  have OCn := ok_contains (P := l.prog) (w := w) (mg := mg) (base := base) FCn TP
  have mCn : Meth K CP "contains" fCn := ⟨aCn, iCn, kCn⟩
  have OGi := ok_item FGi TP OCn mCn bCn ⟨aEg, rlEg, ggEg, by decide⟩
  have ORI := ok_rinit (P := l.prog) (w := w) (mg := mg) (base := base) FRI TG
  have MG : Mk K CG fRI := ⟨mkCG, aRI, iRI, kpCG⟩
  have OIn := ok_in (P := l.prog) (w := w) (mg := mg) (base := base) FIn TG
  have cCa : Cl l.prog w K mg base CX0 4 "_clashes_at" ["picture", "position", "signs", "loose"] (spClashAt CP CG) fCa _ := ⟨ok_clashat FCa T OGi ⟨aGi, iGi⟩ fiGi bGi OIn ⟨aIn, iIn⟩ bIn, kCa, bCa, g aCa⟩
  have mKR : Meth K CR "clashes" fCl := ⟨aCl, iCl, kCl⟩
  have mKC : Meth K CC "clashes" fCl := ⟨aClCC, iCl, kCl⟩
  have mKS : Meth K CS "clashes" fCl := ⟨aClCS, iCl, kCl⟩
  have cKc : Cl l.prog w K mg base (L2.CX l.prog w) 3 "check_cell" ["picture", "x", "y"] (spCkCell CP CO) fKc _ := ⟨ok_cell FKc TP OCn mCn bCn xO, kKc, bKc, g aKc⟩
  have OKR := ok_clashes (κ := 0) FCl TP TR cKc mCR OCR bCo cCa
  have OKC := ok_clashes (κ := 1) FCl TP TC cKc mCC OCC bCo cCa
  have OKS := ok_clashes (κ := 2) FCl TP TS cKc mCS OCS bCoS cCa
  have FF : Cla3 l.prog w K mg base CR CC CS CP CG CO CW fCl _ dsCl := ⟨fun κ hκ => match κ, hκ with
    | 0, _ => TR
    | 1, _ => TC
    | 2, _ => TS, fun κ hκ => match κ, hκ with
    | 0, _ => mKR
    | 1, _ => mKC
    | 2, _ => mKS, fun κ hκ => match κ, hκ with
    | 0, _ => OKR
    | 1, _ => OKC
    | 2, _ => OKS, bCl, dvCl, kwCl⟩
  have OEq := ok_eqS (P := l.prog) (w := w) (mg := mg) (base := base) FEq TG (n zisinstance) nt
  have ORc := ok_rcells (P := l.prog) (w := w) (mg := mg) (base := base) FRc TRC
  have OIc := ok_iscell FIc FIi bIi (g aIi) (P := l.prog) (w := w) (base := base) B
  have OIz := ok_iscells FIz FIc OIc bIc (g aIc) B
  have cIz : Cl l.prog w K mg base CX0 3 "_law_is_cells" ["_law_value"] spIsCells fIz _ := ⟨OIz, kIz, bIz, g aIz⟩
  have cRi : Cl l.prog w K mg base CX0 4 "_law_region_is" ["_law_region", "_law_due_here"] (spRegIs K CG) fRi _ := ⟨ok_regis FRi OIz kIz bIz (g aIz) ORc ⟨aRc, iRc, kRc⟩ bRc TRC, kRi, bRi, g aRi⟩
  have cTake : Cl l.prog w K mg base CX0 1 "_law_take" tkNames spTake fTake _ := ⟨ok_take FTake L.len L.int, kTake, bTake, g aTake⟩
  have cRd : Cl l.prog w K mg base CX0 1 "_law_reading" ["_law_cells"] spReading fRd _ := ⟨ok_reading FRd R, kRd, bRd, g aRd⟩
  have cRow : Cl l.prog w K mg base CX0 2 "_law_row" ["_law_bag_here", "_law_palette_here", "_law_wide"] spRow fRow _ := ⟨ok_row FRow cTake L, kRow, bRow, g aRow⟩
  have cGr : Cl l.prog w K mg base CX0 3 "_law_grid" ["_law_bag_here", "_law_palette_here"] spGrid fGrid _ := ⟨ok_grid FGrid cTake cRow L, kGrid, bGrid, g aGrid⟩
  have cOf : Cl l.prog w K mg base CX0 2 "_law_offset" ["_law_bag_here"] spOffset fOf _ := ⟨ok_offset FOf cTake L, kOf, bOf, g aOf⟩
  have cSg : Cl l.prog w K mg base CX0 2 "_law_signs" ["_law_bag_here", "_law_palette_here"] spSigns fSg _ := ⟨ok_signs FSg cTake, kSg, bSg, g aSg⟩
  have cPa : Cl l.prog w K mg base CX0 3 "_law_parts" ["_law_bag_here", "_law_palette_here"] spParts fPa _ := ⟨ok_parts FPa cTake cOf cSg L, kPa, bPa, g aPa⟩
  have cRu : Cl l.prog w K mg base CX0 4 "_law_rule" ["_law_bag_here", "_law_palette_here"] spRule fRu _ := ⟨ok_rule FRu cTake cPa L, kRu, bRu, g aRu⟩
  have cSgn : Cl l.prog w K mg base CX0 1 "_law_sign" ["_law_rows", "_law_cx", "_law_cy"] spSign fSgn _ := ⟨ok_sign FSgn L, kSgn, bSgn, g aSgn⟩
  have cLy : Cl l.prog w K mg base CX0 1 "_law_lays" ["_law_rule_here", "_law_hue"] spLaysL fLy _ := ⟨ok_laysL FLy, kLy, bLy, g aLy⟩
  have cLc : Cl l.prog w K mg base CX0 2 "_law_clashing" ["_law_rule_here", "_law_rows", "_law_cx", "_law_cy", "_law_hue", "_law_free"] spClashing fLc _ := ⟨ok_clashing FLc cSgn cRd, kLc, bLc, g aLc⟩
  have cSu : Cl l.prog w K mg base CX0 2 "_law_subset" ["_law_bag_here", "_law_cells", "_law_share"] spSubset fSu _ := ⟨ok_subset FSu cTake, kSu, bSu, g aSu⟩
  have cMa : Cl l.prog w K mg base CX0 7 "_law_made" ["_law_rule_here"] (spMade CR CC CS) fMa _ := ⟨ok_made FMa L Gt kR kC kS, kMa, bMa, g aMa⟩
  have cAq : Cl l.prog w K mg base CX0 6 "_law_asked" ["_law_made_here", "_law_picture", "_law_cx", "_law_cy", "_law_hue", "_law_region"] (spAsked CR CC CS CP CG) fAq _ := ⟨ok_asked FAq L Y FF OEq bEq ⟨aEq, iEq⟩ nt, kAq, bAq, g aAq⟩
  have cDu : Cl l.prog w K mg base CX0 3 "_law_due" ["_law_rule_here", "_law_rows", "_law_cx", "_law_cy", "_law_hue", "_law_free"] spDueL fDu _ := ⟨ok_duel FDu cSgn cLy cLc, kDu, bDu, g aDu⟩
  have cRt : Cl l.prog w K mg base CX0 4 "_law_right" ["_law_told", "_law_due_here"] spRightL fRt _ := ⟨ok_rightl FRt L cIz, kRt, bRt, g aRt⟩
  exact ok_law FLaw L (g gCP) TP TG MP OIP bIP MG ORI bRI ⟨aLi, iLi, kLi⟩ OLi bLi ⟨ok_bag FBag L, kBag, bBag, g aBag⟩ cTake ⟨ok_pal FPal cTake L, kPal, bPal, g aPal⟩ cGr cRu cMa cSu cDu cRt cAq cSgn cRi cRd
theorem walk {l : PySem.W.OpenLaw} {q : Program} {loose : List Str} {XP : (Str → Option Value) → Heap → Prop} {YP : World → Heap → Prop} {d : DefRec} {K : Params → PySem.W.Frag} (hn : l.most = some 63) (hdf : d.params.defaults = [])
    (hY : ∀ (w : World) (h : Heap), YP w h → (K w.params).In h)
    (F : ∀ (w : World) (mg : Str → Option Value) (fa : Addr) (h : Heap), (K w.params).In h → h.Ns mainGlobals mg → mg d.name = some (.ref fa) →
      ∃ fd : FuncData, (∀ (s : Shared) (u : Value), BindsTo s fd ⟨[u], []⟩ [("_law_script", u)]) ∧ ∀ base : Heap, (K w.params).In base → base.Ns mainGlobals mg → FnOk l.prog w (K w.params) mg base CX0 8 fa fd ["_law_script"] (spLaw (K w.params))) :
    PySem.W.WalkO q loose XP YP l.row.toRowW d [] (fun f vs => PySem.call f vs) :=
  L2.walk_of (n := 63) (k := 8) (x := "_law_script") (CX := fun _ => CX0) (sp := fun w => spLaw (K w.params)) hn (by decide) hdf ⟨rfl, by decide, by decide⟩ hY F (fun _ _ a ns hl _ hS => ⟨a, ns, rfl, hS, hl, fun _ => rfl⟩) fun _ _ _ _ _ z => z
end Pm

open PySem PySem.W PyProof.Rows in
set_option maxRecDepth 100000 in
set_option maxHeartbeats 0 in
theorem PySem.Challenge.cw_smalti_k09_rule_clashes_holds : PySem.Challenge.rw_smalti_k09_rule_clashes.Holds := by
  w_on; o_law; k_head; (case hw => w_witness2)
  k_fill
  refine Pm.walk (l := PySem.Challenge.rw_smalti_k09_rule_clashes) rfl rfl (fun w h Y => PySem.W.kIn_of Y) ?F
  case F =>
    intro w mg fa h KX G hmg
    refine' Pm.all_mk KX G hmg ?cn ?ct ?gCP ?pgCP ?hdCP ?poCP ?saCP ?mkCP ?kpCP ?nCP_rows ?nCP_width ?nCP_height ?rdCP ?gaCP ?aHo ?rlHo ?aEd ?rlEd ?aEg ?rlEg ?ggEg ?aIP ?iIP ?lIP ?cIP ?kIP ?aLi ?iLi ?lLi ?cLi ?kLi ?aCn ?iCn ?lCn ?cCn ?kCn ?aGi ?iGi ?lGi ?cGi ?kGi ?fiGi ?gCG ?pgCG ?hdCG ?poCG ?saCG ?mkCG ?kpCG ?nCG_members ?aRI ?iRI ?lRI ?cRI ?kRI ?aIn ?iIn ?lIn ?cIn ?kIn ?aEq ?iEq ?lEq ?cEq ?kEq ?aRc ?iRc ?lRc ?cRc ?kRc ?caCG ?cmCG ?icCG ?tyCG ?nsCG ?aSn ?rlSn ?aMo ?rlMo ?aRe ?rlRe ?aMc ?rlMc ?gCR ?cxCR ?tyCR ?pgCR ?hdCR ?poCR ?saCR ?mkCR ?kpCR ?nCR_stone ?nCR_conditions ?nCR_need ?gCC ?cxCC ?tyCC ?pgCC ?hdCC ?poCC ?saCC ?mkCC ?kpCC ?nCC_stone ?nCC_conditions ?nCC_need ?gCS ?cxCS ?tyCS ?pgCS ?hdCS ?poCS ?saCS ?mkCS ?kpCS ?nCS_stone ?nCS_conditions ?nCS_need ?aIR ?iIR ?lIR ?cIR ?kIR ?aLa ?iLa ?lLa ?cLa ?kLa ?aLaCC ?aCo ?iCo ?lCo ?cCo ?kCo ?aCoCC ?aIS ?iIS ?lIS ?cIS ?kIS ?aLS ?iLS ?lLS ?cLS ?kLS ?aCoS ?iCoS ?lCoS ?cCoS ?kCoS ?aCl ?aClCC ?aClCS ?iCl ?lCl ?cCl ?kCl ?dCl ?drCl ?aIC ?iIC ?lIC ?cIC ?xIC ?yIC ?vIC ?hIC ?tIC ?nIC ?mIC ?sIC ?tyIR ?fiIR ?gCI ?lkCI ?vbCI ?atCI ?ftCI ?lEi ?cEi ?kEi ?cxCI ?tyCI ?hgCI ?hkCI ?svCI ?sxCI ?icCI ?haCI ?hmCI ?hdCI ?kpCI ?nCI_part ?saCI ?gCW ?lkCW ?vbCW ?atCW ?ftCW ?lEw ?cEw ?kEw ?cxCW ?tyCW ?hgCW ?hkCW ?svCW ?sxCW ?icCW ?haCW ?hmCW ?hdCW ?kpCW ?nCW_stone ?saCW ?gCB ?lkCB ?vbCB ?atCB ?ftCB ?lEb ?cEb ?kEb ?cxCB ?tyCB ?hgCB ?hkCB ?svCB ?sxCB ?icCB ?haCB ?hmCB ?hdCB ?kpCB ?nCB_line ?saCB ?gCO ?lkCO ?vbCO ?atCO ?ftCO ?lEo ?cEo ?kEo ?cxCO ?tyCO ?hgCO ?hkCO ?svCO ?sxCO ?icCO ?haCO ?hmCO ?hdCO ?kpCO ?nCO_x ?nCO_y ?saCO ?gCE ?cxCE ?tyCE ?sbCOCE ?neCOCE ?sbCWCE ?neCWCE ?sWO ?aIs ?lIs ?cIs ?kIs ?aKc ?lKc ?cKc ?kKc ?aSo ?lSo ?cSo ?kSo ?aBa ?lBa ?cBa ?kBa ?aBl ?lBl ?cBl ?kBl ?aDf ?lDf ?cDf ?kDf ?aAs ?lAs ?cAs ?kAs ?aPc ?lPc ?cPc ?kPc ?aCk ?lCk ?cCk ?kCk ?aNd ?lNd ?cNd ?kNd ?aIo ?lIo ?cIo ?kIo ?aCa ?lCa ?cCa ?kCa ?aBag ?lBag ?cBag ?kBag ?aTake ?lTake ?cTake ?kTake ?aIi ?lIi ?cIi ?kIi ?aIc ?lIc ?cIc ?kIc ?aIz ?lIz ?cIz ?kIz ?aRd ?lRd ?cRd ?kRd ?aPal ?lPal ?cPal ?kPal ?aRow ?lRow ?cRow ?kRow ?aGrid ?lGrid ?cGrid ?kGrid ?aOf ?lOf ?cOf ?kOf ?aSg ?lSg ?cSg ?kSg ?aPa ?lPa ?cPa ?kPa ?aRu ?lRu ?cRu ?kRu ?aSgn ?lSgn ?cSgn ?kSgn ?aLy ?lLy ?cLy ?kLy ?aLc ?lLc ?cLc ?kLc ?aSu ?lSu ?cSu ?kSu ?aRi ?lRi ?cRi ?kRi ?aMa ?lMa ?cMa ?kMa ?aAq ?lAq ?cAq ?kAq ?aDu ?lDu ?cDu ?kDu ?aRt ?lRt ?cRt ?kRt ?aLaw ?lLaw ?cLaw ?kLaw ?zisinstance ?zint ?zbool ?ztuple ?zlist ?zlen ?zrange ?zall ?zenumerate ?zsorted ?zset ?zstr ?zsuper
    (case cn => k_is)
    (case ct => k_is)
    (case gCP => k_is)
    (case pgCP => k_is)
    (case hdCP => k_is)
    (case poCP => k_is)
    (case saCP => k_is)
    (case mkCP => k_is)
    (case kpCP => k_is)
    (case nCP_rows => k_is)
    (case nCP_width => k_is)
    (case nCP_height => k_is)
    (case rdCP => k_is)
    (case gaCP => k_is)
    (case aHo => k_is)
    (case rlHo => exact ⟨_, rfl⟩)
    (case aEd => k_is)
    (case rlEd => exact ⟨_, rfl⟩)
    (case aEg => k_is)
    (case rlEg => exact ⟨_, rfl⟩)
    (case ggEg => k_is)
    (case aIP => k_is)
    (case iIP => k_is)
    (case lIP => k_is)
    (case cIP => k_is)
    (case kIP => k_is)
    (case aLi => k_is)
    (case iLi => k_is)
    (case lLi => k_is)
    (case cLi => k_is)
    (case kLi => k_is)
    (case aCn => k_is)
    (case iCn => k_is)
    (case lCn => k_is)
    (case cCn => k_is)
    (case kCn => k_is)
    (case aGi => k_is)
    (case iGi => k_is)
    (case lGi => k_is)
    (case cGi => k_is)
    (case kGi => k_is)
    (case fiGi => k_is)
    (case gCG => k_is)
    (case pgCG => k_is)
    (case hdCG => k_is)
    (case poCG => k_is)
    (case saCG => k_is)
    (case mkCG => k_is)
    (case kpCG => k_is)
    (case nCG_members => k_is)
    (case aRI => k_is)
    (case iRI => k_is)
    (case lRI => k_is)
    (case cRI => k_is)
    (case kRI => k_is)
    (case aIn => k_is)
    (case iIn => k_is)
    (case lIn => k_is)
    (case cIn => k_is)
    (case kIn => k_is)
    (case aEq => k_is)
    (case iEq => k_is)
    (case lEq => k_is)
    (case cEq => k_is)
    (case kEq => k_is)
    (case aRc => k_is)
    (case iRc => k_is)
    (case lRc => k_is)
    (case cRc => k_is)
    (case kRc => k_is)
    (case caCG => k_is)
    (case cmCG => k_is)
    (case icCG => k_is)
    (case tyCG => k_is)
    (case nsCG => k_is)
    (case aSn => k_is)
    (case rlSn => exact ⟨_, rfl⟩)
    (case aMo => k_is)
    (case rlMo => exact ⟨_, rfl⟩)
    (case aRe => k_is)
    (case rlRe => exact ⟨_, rfl⟩)
    (case aMc => k_is)
    (case rlMc => exact ⟨_, rfl⟩)
    (case gCR => k_is)
    (case cxCR => k_is)
    (case tyCR => k_is)
    (case pgCR => k_is)
    (case hdCR => k_is)
    (case poCR => k_is)
    (case saCR => k_is)
    (case mkCR => k_is)
    (case kpCR => k_is)
    (case nCR_stone => k_is)
    (case nCR_conditions => k_is)
    (case nCR_need => k_is)
    (case gCC => k_is)
    (case cxCC => k_is)
    (case tyCC => k_is)
    (case pgCC => k_is)
    (case hdCC => k_is)
    (case poCC => k_is)
    (case saCC => k_is)
    (case mkCC => k_is)
    (case kpCC => k_is)
    (case nCC_stone => k_is)
    (case nCC_conditions => k_is)
    (case nCC_need => k_is)
    (case gCS => k_is)
    (case cxCS => k_is)
    (case tyCS => k_is)
    (case pgCS => k_is)
    (case hdCS => k_is)
    (case poCS => k_is)
    (case saCS => k_is)
    (case mkCS => k_is)
    (case kpCS => k_is)
    (case nCS_stone => k_is)
    (case nCS_conditions => k_is)
    (case nCS_need => k_is)
    (case aIR => k_is)
    (case iIR => k_is)
    (case lIR => k_is)
    (case cIR => k_is)
    (case kIR => k_is)
    (case aLa => k_is)
    (case iLa => k_is)
    (case lLa => k_is)
    (case cLa => k_is)
    (case kLa => k_is)
    (case aLaCC => k_is)
    (case aCo => k_is)
    (case iCo => k_is)
    (case lCo => k_is)
    (case cCo => k_is)
    (case kCo => k_is)
    (case aCoCC => k_is)
    (case aIS => k_is)
    (case iIS => k_is)
    (case lIS => k_is)
    (case cIS => k_is)
    (case kIS => k_is)
    (case aLS => k_is)
    (case iLS => k_is)
    (case lLS => k_is)
    (case cLS => k_is)
    (case kLS => k_is)
    (case aCoS => k_is)
    (case iCoS => k_is)
    (case lCoS => k_is)
    (case cCoS => k_is)
    (case kCoS => k_is)
    (case aCl => k_is)
    (case aClCC => k_is)
    (case aClCS => k_is)
    (case iCl => k_is)
    (case lCl => k_is)
    (case cCl => k_is)
    (case kCl => k_is)
    (case dCl => k_is)
    (case drCl => rfl)
    (case aIC => k_is)
    (case iIC => k_is)
    (case lIC => k_is)
    (case cIC => k_is)
    (case xIC => k_is)
    (case yIC => k_is)
    (case vIC => rfl)
    (case hIC => decide +kernel)
    (case tIC => decide +kernel)
    (case nIC => k_is)
    (case mIC => k_is)
    (case sIC => ks_is)
    (case tyIR => k_is)
    (case fiIR => k_is)
    (case gCI => k_is)
    (case lkCI => k_is)
    (case vbCI => decide +kernel)
    (case atCI => k_is)
    (case ftCI => k_is)
    (case lEi => k_is)
    (case cEi => k_is)
    (case kEi => k_is)
    (case cxCI => k_is)
    (case tyCI => k_is)
    (case hgCI => k_is)
    (case hkCI => k_is)
    (case svCI => k_is)
    (case sxCI => k_is)
    (case icCI => k_is)
    (case haCI => k_is)
    (case hmCI => k_is)
    (case hdCI => k_is)
    (case kpCI => k_is)
    (case nCI_part => k_is)
    (case saCI => k_is)
    (case gCW => k_is)
    (case lkCW => k_is)
    (case vbCW => decide +kernel)
    (case atCW => k_is)
    (case ftCW => k_is)
    (case lEw => k_is)
    (case cEw => k_is)
    (case kEw => k_is)
    (case cxCW => k_is)
    (case tyCW => k_is)
    (case hgCW => k_is)
    (case hkCW => k_is)
    (case svCW => k_is)
    (case sxCW => k_is)
    (case icCW => k_is)
    (case haCW => k_is)
    (case hmCW => k_is)
    (case hdCW => k_is)
    (case kpCW => k_is)
    (case nCW_stone => k_is)
    (case saCW => k_is)
    (case gCB => k_is)
    (case lkCB => k_is)
    (case vbCB => decide +kernel)
    (case atCB => k_is)
    (case ftCB => k_is)
    (case lEb => k_is)
    (case cEb => k_is)
    (case kEb => k_is)
    (case cxCB => k_is)
    (case tyCB => k_is)
    (case hgCB => k_is)
    (case hkCB => k_is)
    (case svCB => k_is)
    (case sxCB => k_is)
    (case icCB => k_is)
    (case haCB => k_is)
    (case hmCB => k_is)
    (case hdCB => k_is)
    (case kpCB => k_is)
    (case nCB_line => k_is)
    (case saCB => k_is)
    (case gCO => k_is)
    (case lkCO => k_is)
    (case vbCO => decide +kernel)
    (case atCO => k_is)
    (case ftCO => k_is)
    (case lEo => k_is)
    (case cEo => k_is)
    (case kEo => k_is)
    (case cxCO => k_is)
    (case tyCO => k_is)
    (case hgCO => k_is)
    (case hkCO => k_is)
    (case svCO => k_is)
    (case sxCO => k_is)
    (case icCO => k_is)
    (case haCO => k_is)
    (case hmCO => k_is)
    (case hdCO => k_is)
    (case kpCO => k_is)
    (case nCO_x => k_is)
    (case nCO_y => k_is)
    (case saCO => k_is)
    (case gCE => k_is)
    (case cxCE => k_is)
    (case tyCE => k_is)
    (case sbCOCE => k_is)
    (case neCOCE => rfl)
    (case sbCWCE => k_is)
    (case neCWCE => rfl)
    (case sWO => k_is)
    (case aIs => k_is)
    (case lIs => k_is)
    (case cIs => k_is)
    (case kIs => k_is)
    (case aKc => k_is)
    (case lKc => k_is)
    (case cKc => k_is)
    (case kKc => k_is)
    (case aSo => k_is)
    (case lSo => k_is)
    (case cSo => k_is)
    (case kSo => k_is)
    (case aBa => k_is)
    (case lBa => k_is)
    (case cBa => k_is)
    (case kBa => k_is)
    (case aBl => k_is)
    (case lBl => k_is)
    (case cBl => k_is)
    (case kBl => k_is)
    (case aDf => k_is)
    (case lDf => k_is)
    (case cDf => k_is)
    (case kDf => k_is)
    (case aAs => k_is)
    (case lAs => k_is)
    (case cAs => k_is)
    (case kAs => k_is)
    (case aPc => k_is)
    (case lPc => k_is)
    (case cPc => k_is)
    (case kPc => k_is)
    (case aCk => k_is)
    (case lCk => k_is)
    (case cCk => k_is)
    (case kCk => k_is)
    (case aNd => k_is)
    (case lNd => k_is)
    (case cNd => k_is)
    (case kNd => k_is)
    (case aIo => k_is)
    (case lIo => k_is)
    (case cIo => k_is)
    (case kIo => k_is)
    (case aCa => k_is)
    (case lCa => k_is)
    (case cCa => k_is)
    (case kCa => k_is)
    (case aBag => k_is)
    (case lBag => k_is)
    (case cBag => k_is)
    (case kBag => k_is)
    (case aTake => k_is)
    (case lTake => k_is)
    (case cTake => k_is)
    (case kTake => k_is)
    (case aIi => k_is)
    (case lIi => k_is)
    (case cIi => k_is)
    (case kIi => k_is)
    (case aIc => k_is)
    (case lIc => k_is)
    (case cIc => k_is)
    (case kIc => k_is)
    (case aIz => k_is)
    (case lIz => k_is)
    (case cIz => k_is)
    (case kIz => k_is)
    (case aRd => k_is)
    (case lRd => k_is)
    (case cRd => k_is)
    (case kRd => k_is)
    (case aPal => k_is)
    (case lPal => k_is)
    (case cPal => k_is)
    (case kPal => k_is)
    (case aRow => k_is)
    (case lRow => k_is)
    (case cRow => k_is)
    (case kRow => k_is)
    (case aGrid => k_is)
    (case lGrid => k_is)
    (case cGrid => k_is)
    (case kGrid => k_is)
    (case aOf => k_is)
    (case lOf => k_is)
    (case cOf => k_is)
    (case kOf => k_is)
    (case aSg => k_is)
    (case lSg => k_is)
    (case cSg => k_is)
    (case kSg => k_is)
    (case aPa => k_is)
    (case lPa => k_is)
    (case cPa => k_is)
    (case kPa => k_is)
    (case aRu => k_is)
    (case lRu => k_is)
    (case cRu => k_is)
    (case kRu => k_is)
    (case aSgn => k_is)
    (case lSgn => k_is)
    (case cSgn => k_is)
    (case kSgn => k_is)
    (case aLy => k_is)
    (case lLy => k_is)
    (case cLy => k_is)
    (case kLy => k_is)
    (case aLc => k_is)
    (case lLc => k_is)
    (case cLc => k_is)
    (case kLc => k_is)
    (case aSu => k_is)
    (case lSu => k_is)
    (case cSu => k_is)
    (case kSu => k_is)
    (case aRi => k_is)
    (case lRi => k_is)
    (case cRi => k_is)
    (case kRi => k_is)
    (case aMa => k_is)
    (case lMa => k_is)
    (case cMa => k_is)
    (case kMa => k_is)
    (case aAq => k_is)
    (case lAq => k_is)
    (case cAq => k_is)
    (case kAq => k_is)
    (case aDu => k_is)
    (case lDu => k_is)
    (case cDu => k_is)
    (case kDu => k_is)
    (case aRt => k_is)
    (case lRt => k_is)
    (case cRt => k_is)
    (case kRt => k_is)
    (case aLaw => k_is)
    (case lLaw => k_is)
    (case cLaw => k_is)
    (case kLaw => k_is)
    (case zisinstance => k_is)
    (case zint => k_is)
    (case zbool => k_is)
    (case ztuple => k_is)
    (case zlist => k_is)
    (case zlen => k_is)
    (case zrange => k_is)
    (case zall => k_is)
    (case zenumerate => k_is)
    (case zsorted => k_is)
    (case zset => k_is)
    (case zstr => k_is)
    (case zsuper => k_is)
