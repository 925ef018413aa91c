import PyProof.Rows.All
import Wide.All
import OpenK.AllK
import Wide.FinOn
import HandS.ForMost
import HandS.Codes
import HandS.Deep
import HandS.ClsMeth
import HandS.Conv
import HandS.Small
import HandS.IsInst
import KE.GoesMore
import KE.GoesEnumKw
import PyProof.Draws
import PyProof.Rows.CallKwBuiltin
import HandS.Sort
import HandS.Strs
import HandS.SetTxt0
import PyProof.CollectStr
import PyProof.StrWalks
import PyProof.Rows.SetFrom
import PyProof.Rows.SortShellAny
import HandS.Zip
import HandS.Walk
import HandS.Exc
import HandS.ExcInit
import HandS.ExcField
import HandS.ExcIs
import HandS.TryMany
import HandS.WordsExc
import HandS.ExcValue
import KE.KExcIs
import HandS.ExcOwn
import HandS.More
import HandS.Text
import HandS.TupSets
import PyProof.SetRoads
import HandS.SortRule
import KE.KSuper
import HandS.Nested
import HandS.Property
import KE.KOwn
import HandS.HotCalls
import HandS.Style
import PySem.Challenge.RW_smalti_k08_rule_conditions
set_option Elab.async false
set_option linter.all false
set_option maxRecDepth 100000
set_option maxHeartbeats 8000000
namespace Pm
open PySem L2
/-! ### the text by places -/
def top (i : Nat) : Stmt := PySem.Challenge.pw_smalti_k08_rule_conditions.main.body.getD i (.Pass ⟨0, 0, 0, 0⟩)
abbrev gWall : Stmt := top 0
abbrev cInvalidPictureInit : Stmt := inClass (top 3) 0
abbrev cInvalidRuleInit : Stmt := inClass (top 4) 0
abbrev cOutOfPictureInit : Stmt := inClass (top 5) 0
abbrev cWrongStoneInit : Stmt := inClass (top 6) 0
abbrev gDecimal : Stmt := top 11
abbrev cRegionInit : Stmt := inClass (top 12) 0
abbrev cRegionOf : Stmt := inClass (top 12) 1
abbrev cRegionCells : Stmt := inClass (top 12) 2
abbrev cRegionWithin : Stmt := inClass (top 12) 3
abbrev cRegionOr : Stmt := inClass (top 12) 4
abbrev cRegionAnd : Stmt := inClass (top 12) 5
abbrev cRegionSub : Stmt := inClass (top 12) 6
abbrev cRegionXor : Stmt := inClass (top 12) 7
abbrev cRegionEq : Stmt := inClass (top 12) 8
abbrev cRegionContains : Stmt := inClass (top 12) 9
abbrev cRegionLen : Stmt := inClass (top 12) 10
abbrev cRegionBool : Stmt := inClass (top 12) 11
abbrev cRegionStr : Stmt := inClass (top 12) 12
abbrev gIsStone : Stmt := top 16
abbrev gIsStoneOrHole : Stmt := top 17
abbrev gAreDifferentSigns : Stmt := top 18
abbrev gInAsciiOrder : Stmt := top 19
abbrev gIsBadRow : Stmt := top 20
abbrev gBadLine : Stmt := top 21
abbrev cPictureInit : Stmt := inClass (top 22) 2
abbrev cPictureRead : Stmt := inClass (top 22) 3
abbrev cPicturePlain : Stmt := inClass (top 22) 4
abbrev cPictureLines : Stmt := inClass (top 22) 5
abbrev cPictureEveryCell : Stmt := inClass (top 22) 6
abbrev cPictureStones : Stmt := inClass (top 22) 7
abbrev cPictureHoles : Stmt := inClass (top 22) 8
abbrev cPictureContains : Stmt := inClass (top 22) 9
abbrev cPictureWithSign : Stmt := inClass (top 22) 10
abbrev cPictureGetitem : Stmt := inClass (top 22) 11
abbrev cPictureIter : Stmt := inClass (top 22) 12
abbrev cPictureLen : Stmt := inClass (top 22) 13
abbrev cPictureEq : Stmt := inClass (top 22) 14
abbrev cPictureSub : Stmt := inClass (top 22) 15
abbrev cPictureStr : Stmt := inClass (top 22) 16
abbrev gCheckCell : Stmt := top 23
abbrev gIsPlace : Stmt := top 27
abbrev gCheckConditions : Stmt := top 28
abbrev gCheckNeed : Stmt := top 29
abbrev gInOrder : Stmt := top 30
abbrev gClashesAt : Stmt := top 31
abbrev cRuleInit : Stmt := inClass (top 32) 1
abbrev cRuleSlack : Stmt := inClass (top 32) 2
abbrev cRuleLays : Stmt := inClass (top 32) 3
abbrev cRuleConditions : Stmt := inClass (top 32) 4
abbrev cRuleClashes : Stmt := inClass (top 32) 5
abbrev cRuleFits : Stmt := inClass (top 32) 6
abbrev cRuleWritten : Stmt := inClass (top 32) 7
abbrev cRuleConditionWords : Stmt := inClass (top 32) 8
abbrev cRuleLen : Stmt := inClass (top 32) 9
abbrev cCountRuleInit : Stmt := inClass (top 33) 1
abbrev cCountRuleSlack : Stmt := inClass (top 33) 2
abbrev cCountRuleWritten : Stmt := inClass (top 33) 3
abbrev cSameRuleInit : Stmt := inClass (top 34) 1
abbrev cSameRuleLays : Stmt := inClass (top 34) 2
abbrev cSameRuleConditions : Stmt := inClass (top 34) 3
abbrev cSameRuleWritten : Stmt := inClass (top 34) 4
abbrev lBag : Stmt := top 36
abbrev lTake : Stmt := top 37
abbrev lIsInt : Stmt := top 38
abbrev lPalette : Stmt := top 39
abbrev lOffset : Stmt := top 40
abbrev lSigns : Stmt := top 41
abbrev lParts : Stmt := top 42
abbrev lRule : Stmt := top 43
abbrev lSortedParts : Stmt := top 44
abbrev lLays : Stmt := top 45
abbrev lSlack : Stmt := top 46
abbrev lIsLetter : Stmt := top 47
abbrev lMade : Stmt := top 48
abbrev lDueParts : Stmt := top 49
abbrev lAsked : Stmt := top 50
abbrev lIsParts : Stmt := top 51
abbrev lAgree : Stmt := top 52
abbrev lLaw : Stmt := top 53
end Pm
namespace Pm
open PySem PySem.Spec PyProof.Rows L2
/-- all that stood stands, but r -/
def SameBut (r : Addr) (H H' : Hp) : Prop := ∀ b o, b ≠ r → H b = some o → H' b = some o
theorem tyes {σ : L2.St} {G : Hp} {R : Bool → Hp → Prop} (h : R true G) : tYes σ G R := h
theorem same_upd {H : Hp} {p : Addr} {o : HO} (h : H p = none) : Same H (upd H p o) := fun b x e => by
  rw [upd_ne (ne_of_none e h)]
  exact e
theorem back {H H' : Hp} (s : Same H H') {t : Addr} (h : H' t = none) : H t = none := by
  cases z : H t with
  | none => rfl
  | some o =>
    rw [s _ _ z] at h
    cases h
theorem but_back {b : Addr} {H H' : Hp} {xs : List V} (hb : H b = some (.lst xs)) (s : SameBut b H H') {t : Addr} (ne : t ≠ b) (h : H' t = none) : H t = none := by
  cases z : H t with
  | none => rfl
  | some o =>
    rw [s _ _ ne z] at h
    cases h
theorem cut_to (xs : List V) (n : Nat) : cutV xs none (some (n : Int)) = xs.take n := by
  unfold cutV
  rw [HT.sIx_none, HT.sIx_nat, List.drop_zero, Nat.sub_zero]
  rcases Nat.le_total n xs.length with h | h
  · rw [Nat.min_eq_left h]
  · rw [Nat.min_eq_right h, List.take_of_length_le (Nat.le_refl _), List.take_of_length_le h]
theorem iteFe {b : Bool} {p q : Prop} (h : b = false) (z : q) : if b = true then p else q := by
  subst h
  exact iteF z
theorem iteTe {b : Bool} {p q : Prop} (h : b = true) (z : p) : if b = true then p else q := by
  subst h
  exact iteT z
/-- the built-ins by their names -/
structure LTxt (K : PySem.W.Frag) (mg : Str → Option Value) : Prop where
  isi : mg "isinstance" = none
  int : mg "int" = none
  lst : mg "list" = none
  len : mg "len" = none
  rng : mg "range" = none
/-- a def that may be called by its name -/
structure Cl (P : Program) (w : World) (K : PySem.W.Frag) (mg : Str → Option Value) (base : Heap) (CX : CXT) (k : Nat) (name : Str) (ps : List Str) (sp : Sp) (f : Addr) (fd : FuncData) : Prop where
  ok : FnOk P w K mg base CX k f fd ps sp
  kp : PySem.W.keepIn K (.ref f) = true
  bd : Binds K fd ps []
  gl : mg name = some (.ref f)
/-! ### the bag of drawn numbers -/
/-- the bag at b: four places; the first a list of ints, the second a place in it or its end, the third at least 0 -/
abbrev BagL (H : Hp) (b l : Addr) : Prop := ∃ (ns : List Int) (i p q : Int),
  H b = some (.lst [.ref l, .int i, .int p, .int q]) ∧ H l = some (.lst (ns.map V.int)) ∧ 0 ≤ i ∧ 0 ≤ p ∧ l ≠ b ∧ ns.length ≤ 63
/-- all but b stands as it stood -/
def But (b : Addr) (H H' : Hp) : Prop := ∀ a, a ≠ b → H' a = H a
theorem But.refl (b : Addr) (H : Hp) : But b H H := fun _ _ => rfl
theorem But.trans {b : Addr} {H H1 H2 : Hp} (x : But b H H1) (y : But b H1 H2) : But b H H2 := fun a h => (y a h).trans (x a h)
theorem But.upd {b : Addr} {H : Hp} {o : HO} : But b H (upd H b o) := fun _ h => upd_ne h
def spTake : Sp := fun vs H Q _ => ∃ (b l : Addr) (size : Int), vs = [.ref b, .int size] ∧ BagL H b l ∧ 0 < size ∧ size < 1073741824 ∧
  ∀ (n : Int) (H' : Hp), 0 ≤ n → n < size → But b H H' → BagL H' b l → Q (.int n) H'
theorem scTake : FnScope ["_law_bag_here", "_law_size", "_law_cell", "_law_digit"] ["_law_bag_here", "_law_size"] (defScope lTake) := ⟨rfl, rfl, rfl, by decide +kernel, rfl, by decide +kernel, by decide +kernel⟩
theorem at4 {a b c d : V} : atI [a, b, c, d] 0 = some a ∧ atI [a, b, c, d] 1 = some b ∧ atI [a, b, c, d] 2 = some c ∧ atI [a, b, c, d] 3 = some d := ⟨rfl, rfl, rfl, rfl⟩
section
variable {P : Program} {w : World} {K : PySem.W.Frag} {mg : Str → Option Value} {base : Heap}
theorem ok_take {f : Addr} {fd : FuncData} (F : Fun K "_law_take" "_law_take" lTake f fd) (mlen : mg "len" = none) (mint : mg "int" = none) : FnOk P w K mg base CX0 1 f fd ["_law_bag_here", "_law_size"] spTake := by
  refine F.ok scTake (fun vs H Q E h => ?_) (fun cdv A outer s H vs Q E hr h => ?_)
  · obtain ⟨b, l, size, rfl, _⟩ := h
    rfl
  · obtain ⟨b, l, size, rfl, ⟨ns, i, p, q, hb, hl, i0, p0, nlb, n63⟩, s0, s1, k⟩ := h
    refine ⟨_, C8.pss_cut (ps_if (PW.pt (pw_and (pt_cmpR op_eq (pe_ix ix_list (pv 0) pe_int (fun _ _ => rfl)) pe_int (nomark _))
          (pw_and1 (pt_cmpR op_lt (pe_ix ix_list (pv 0) pe_int (fun _ _ => rfl)) (pe_callB call_len_seq (by rfl) mlen PySem.boot_len (pa_cons (pe_ix ix_list (pv 0) pe_int (fun _ _ => rfl)) pa_nil)) (nomark _)))))
        (pss_cons (ps_set (i := 2) scTake.nd rfl (.inl rfl) (pe_ix ix_list (pe_ix ix_list (pv 0) pe_int (fun _ _ => rfl)) (pe_ix ix_list (pv 0) pe_int (fun _ _ => rfl)) (fun _ _ => rfl)))
        (pss_cons (ps_asg (pe_op op_add (pe_ix ix_list (pv 0) pe_int (fun _ _ => rfl)) pe_int) (pg_sub (pv 0) pe_int set_list))
        (pss_one (ps_if (pt_cmpR op_ge (pv 2) (pe_op op_pow pe_int pe_int) (nomark _))
          (pss_one (ps_asg (pv 2) (pg_sub (pv 0) pe_int set_list)))
          (pss_one (ps_asg (pe_op op_mod (pe_callTy call_int1 (by rfl) mint (by decide +kernel) (pa_cons (pe_op op_add (pe_op op_add (pe_op op_mul (pe_ix ix_list (pv 0) pe_int (fun _ _ => rfl)) pe_int) (pe_op op_mul (pv 2) pe_int)) pe_int) pa_nil)) pe_int) (pg_sub (pv 0) pe_int set_list)))))))
        pss_nil)
      (pss_cons (ps_if (pt_cmpR op_gt (pe_ix ix_list (pv 0) pe_int (fun _ _ => rfl)) pe_int (nomark _))
        (pss_cons (ps_set (i := 3) scTake.nd rfl (.inl rfl) (pe_op op_mod (pe_callTy call_int1 (by rfl) mint (by decide +kernel) (pa_cons (pe_ix ix_list (pv 0) pe_int (fun _ _ => rfl)) pa_nil)) (pv 1)))
        (pss_cons (ps_asg (pe_op op_fdiv (pe_ix ix_list (pv 0) pe_int (fun _ _ => rfl)) (pv 1)) (pg_sub (pv 0) pe_int set_list))
        (pss_one (ps_ret (pv 3)))))
        pss_nil)
      (pss_cons (ps_asg (pe_op op_mod (pe_callTy call_int1 (by rfl) mint (by decide +kernel) (pa_cons (pe_op op_add (pe_op op_mul (pe_ix ix_list (pv 0) pe_int (fun _ _ => rfl)) pe_int) pe_int) pa_nil)) pe_int) (pg_sub (pv 0) pe_int set_list))
      (pss_one (ps_ret (pe_op op_mod (pe_callTy call_int1 (by rfl) mint (by decide +kernel) (pa_cons (pe_op op_fdiv (pe_ix ix_list (pv 0) pe_int (fun _ _ => rfl)) pe_int) pa_nil)) (pv 1)))))), ?_⟩
    have seven : ∀ q' : Int, (0 : Int) < 2147483647 := fun _ => by decide
    refine ⟨fun σ H1 => ∃ (c : Option V) (i' p' q' : Int), σ = [some (.ref b), some (.int size), c, Option.none] ∧ But b H H1 ∧ H1 b = some (.lst [.ref l, .int i', .int p', .int q']) ∧ 0 ≤ i' ∧ 0 ≤ p', ?_, ?_⟩
    · -- if bag[2] == 0 and bag[1] < len(bag[0])
      refine ⟨_, rfl, b, _, 2, _, rfl, rfl, SqL.of hb, rfl, rfl, _, rfl, ite2 (fun _ => ?_) (fun _ => ⟨_, i, p, q, rfl, But.refl b H, hb, i0, p0⟩)⟩
      refine ⟨_, rfl, b, _, 1, _, rfl, rfl, SqL.of hb, rfl, _, rfl, b, _, 0, _, rfl, rfl, SqL.of hb, rfl, l, _, rfl, .inl (SqL.of hl), _, _, rfl, rfl, _, rfl, ite2 (fun e => ?_) (fun _ => ⟨_, i, p, q, rfl, But.refl b H, hb, i0, p0⟩)⟩
      have elt : i < ((ns.map V.int).length : Int) := of_decide_eq_true e
      rw [List.length_map] at elt
      obtain ⟨j, rfl⟩ : ∃ j : Nat, i = (j : Int) := ⟨i.toNat, by omega⟩
      have hj : j < ns.length := by omega
      have gj : (ns.map V.int)[j]? = some (.int ns[j]) := by
        rw [List.getElem?_map, List.getElem?_eq_getElem hj]
        rfl
      -- cell = bag[0][bag[1]]
      refine ⟨_, rfl, b, _, 0, _, rfl, rfl, SqL.of hb, rfl, _, rfl, b, _, 1, _, rfl, rfl, SqL.of hb, rfl, l, _, (j : Int), _, rfl, rfl, SqL.of hl, atI_nat gj, ?_⟩
      -- bag[1] = bag[1] + 1
      refine ⟨_, rfl, b, _, 1, _, rfl, rfl, SqL.of hb, rfl, _, _, rfl, rfl, _, rfl, b, _, 1, 1, rfl, rfl, hb, rfl, ?_⟩
      have hb1 : (upd H b (.lst [.ref l, .int ((j : Int) + 1), .int p, .int q])) b = some (.lst [.ref l, .int ((j : Int) + 1), .int p, .int q]) := upd_same
      have bu : But b H (upd H b (.lst [.ref l, .int ((j : Int) + 1), .int p, .int q])) := But.upd
      refine ⟨_, rfl, _, _, rfl, rfl, ⟨by decide, by decide, by decide⟩, _, _, rfl, rfl, _, rfl, ite2 (fun e2 => ?_) (fun _ => ?_)⟩
      · have big : (10 : Int) ^ (18 : Int).toNat ≤ ns[j] := of_decide_eq_true e2
        have pos : (0 : Int) ≤ (10 : Int) ^ (18 : Int).toNat := by decide
        refine ⟨_, rfl, _, rfl, b, _, 2, 2, rfl, rfl, hb1, rfl, ?_⟩
        exact ⟨_, (j : Int) + 1, ns[j], q, rfl, bu.trans But.upd, upd_same, by omega, by omega⟩
      · refine ⟨_, rfl, b, _, 3, _, rfl, rfl, SqL.of hb1, rfl, _, _, rfl, rfl, .inr ⟨by decide, by decide⟩, _, rfl, _, _, rfl, rfl, .inr ⟨by decide, by decide⟩, _, _, rfl, rfl, _, _, rfl, rfl, .inl ⟨_, rfl, _, _, rfl, rfl, seven 0, _, rfl, b, _, 3, 3, rfl, rfl, hb1, rfl, ?_⟩⟩
        exact ⟨_, (j : Int) + 1, p, _, rfl, bu.trans But.upd, upd_same, by omega, p0⟩
    · rintro σ H1 ⟨c, i', p', q', rfl, bu, hb1, i1, p1⟩
      have hl1 : H1 l = some (.lst (ns.map V.int)) := (bu l nlb).trans hl
      refine ⟨_, rfl, b, _, 2, _, rfl, rfl, SqL.of hb1, rfl, _, _, rfl, rfl, _, rfl, ite2 (fun _ => ?_) (fun _ => ?_)⟩
      · -- digit = int(bag[2]) % size; bag[2] = bag[2] // size; return digit
        refine ⟨_, rfl, b, _, 2, _, rfl, rfl, SqL.of hb1, rfl, .inl ⟨_, rfl, _, rfl, _, _, rfl, rfl, s0, ?_⟩⟩
        refine ⟨_, rfl, b, _, 2, _, rfl, rfl, SqL.of hb1, rfl, _, rfl, _, _, rfl, rfl, ⟨s0, s1⟩, _, rfl, b, _, 2, 2, rfl, rfl, hb1, rfl, _, rfl, ?_⟩
        refine k _ _ (Int.emod_nonneg _ (by omega)) (Int.emod_lt_of_pos _ s0) (bu.trans But.upd) ⟨ns, i', p' / size, q', upd_same, ?_, i1, Int.ediv_nonneg p1 (by omega), nlb, n63⟩
        rw [upd_ne nlb]
        exact hl1
      · refine ⟨_, rfl, b, _, 3, _, rfl, rfl, SqL.of hb1, rfl, _, _, rfl, rfl, .inr ⟨by decide, by decide⟩, _, _, rfl, rfl, .inl ⟨_, rfl, _, _, rfl, rfl, seven 0, _, rfl, b, _, 3, 3, rfl, rfl, hb1, rfl, ?_⟩⟩
        have hb2 : (upd H1 b (.lst [.ref l, .int i', .int p', .int ((q' * 48271 + 11) % 2147483647)])) b = some (.lst [.ref l, .int i', .int p', .int ((q' * 48271 + 11) % 2147483647)]) := upd_same
        refine ⟨_, rfl, b, _, 3, _, rfl, rfl, SqL.of hb2, rfl, _, _, rfl, rfl, ⟨by decide, by decide⟩, .inl ⟨_, rfl, _, rfl, _, _, rfl, rfl, s0, ?_⟩⟩
        refine k _ _ (Int.emod_nonneg _ (by omega)) (Int.emod_lt_of_pos _ s0) (bu.trans But.upd) ⟨ns, i', p', _, upd_same, ?_, i1, p1, nlb, n63⟩
        rw [upd_ne nlb]
        exact hl1
def spBag (K : PySem.W.Frag) : Sp := fun vs H Q _ => ∃ (a : Addr) (ns : List Int), vs = [.ref a] ∧ SqL K H a (ns.map V.int) ∧ ns.length ≤ 63 ∧ ∀ b l H', Same H H' → H b = none → BagL H' b l → Q (.ref b) H'
abbrev nBag : List Str := ["_law_script", "_law_cell"]
theorem scBag : FnScope nBag ["_law_script"] (defScope lBag) := ⟨rfl, rfl, rfl, by decide +kernel, rfl, by decide +kernel, by decide +kernel⟩
theorem ok_bag {f : Addr} {fd : FuncData} (F : Fun K "_law_bag" "_law_bag" lBag f fd) (T : LTxt K mg) : FnOk P w K mg base CX0 1 f fd ["_law_script"] (spBag K) := by
  refine F.ok scBag (fun vs H Q E h => ?_) (fun cdv A outer s H vs Q E hr h => ?_)
  · obtain ⟨a, ns, rfl, _⟩ := h
    rfl
  · obtain ⟨a, ns, rfl, ha, few, k⟩ := h
    refine ⟨_, pss_one (ps_ret (pe_lst (pa_cons (pe_lc (own := [("_law_cell", 1)]) (g := gName 1) (tt := tYes) rfl scBag.nd (pi_list (pe_slice sl_list (pv 0) po_none (po_some pe_int)))
      (blkOk_by (own := [("_law_cell", 1)]) (N := nBag) (sc := defScope lBag) (by decide +kernel)) (fun _ _ _ _ _ => pg_name (i := 1) scBag.nd rfl (Or.inl rfl)) (fun _ _ _ _ _ => pts_nil)
      (fun _ _ _ _ _ => pe_callTy call_int1 (by rfl) T.int (by decide +kernel) (pa_cons (pv 1) pa_nil))) (pa_cons pe_int (pa_cons pe_int (pa_cons pe_int pa_nil)))))), ?_⟩
    refine ⟨_, rfl, 63, rfl, a, _, rfl, ha, fun q nq => ?_⟩
    have ec : cutV (ns.map V.int) none (some 63) = ns.map V.int := by
      rw [show (some 63 : Option Int) = some ((63 : Nat) : Int) from rfl, cut_to, List.take_of_length_le (by rw [List.length_map]; exact few)]
    rw [ec]
    have s1 := same_upd (o := .lst (ns.map V.int)) nq
    refine ⟨q, rfl, ⟨_, SqL.of upd_same⟩, fun D nD => lc_list (K := K) (a := q) (xs := ns.map V.int) (fun i G => Same (upd H q (.lst (ns.map V.int))) G ∧ G D = some (.lst ((ns.take i).map V.int))) ⟨same_upd nD, upd_same⟩ (fun i G _ ⟨sm, _⟩ => SqL.of (sm _ _ upd_same)) ?_ ?_⟩
    · rintro i x G hx ⟨sm, hD⟩
      rw [List.getElem?_map] at hx
      cases e : ns[i]? with
      | none =>
        rw [e] at hx
        cases hx
      | some n =>
        rw [e] at hx
        cases hx
        refine ⟨rfl, tyes (iteT ⟨_, rfl, .inl ⟨n, rfl, _, hD, ?_, fun b o eb => ?_, ?_⟩⟩)⟩
        · rw [List.length_map, List.length_take]
          exact small1000 (by omega)
        · rw [upd_ne (ne_of_none eb nD)]
          exact sm _ _ eb
        · rw [upd_same, List.take_add_one, e, List.map_append]
          rfl
    · rintro G ⟨sm, hD⟩
      rw [List.length_map, List.take_of_length_le (Nat.le_refl _)] at hD
      refine ⟨(by show 4 ≤ sizeLine; decide), fun b nb => ?_⟩
      have nb0 : H b = none := by
        cases z : H b with
        | none => rfl
        | some o =>
          rw [sm _ _ (s1 _ _ z)] at nb
          cases nb
      have ndb : D ≠ b := ne_of_none hD nb
      exact k b D _ (fun x o e => by
        rw [upd_ne (ne_of_none (sm _ _ (s1 _ _ e)) nb)]
        exact sm _ _ (s1 _ _ e)) nb0 ⟨ns, 0, 0, 7, upd_same, by rw [upd_ne ndb]; exact hD, by decide, by decide, ndb, few⟩
end
end Pm
namespace Pm
open PySem PySem.Spec PyProof.Rows L2 SX
/-! ### signs -/
abbrev alphaS : Str := "abcdefghijklmnopqrstuvwxyz"
def Let (c : Nat) : Prop := 97 ≤ c ∧ c ≤ 122
def Good (c : Nat) : Prop := c = 46 ∨ Let c
instance (c : Nat) : Decidable (Let c) := by unfold Let; infer_instance
instance (c : Nat) : Decidable (Good c) := by unfold Good; infer_instance
theorem alpha_at : ∀ n : Nat, n < 26 → alphaS.cps.toList[n]? = some (97 + n) := by decide +kernel
theorem alpha_mem (c : Nat) : c ∈ alphaS.cps.toList ↔ Let c := by
  have e : alphaS.cps.toList = List.range' 97 26 := by decide +kernel
  rw [e, List.mem_range'_1]
  unfold Let
  omega
theorem alpha_len : alphaS.length = 26 := by decide +kernel
theorem len_S (a : List Nat) : (S a).length = a.length := S_len a
theorem small_line {n : Nat} (h : n ≤ 1000) : n ≤ sizeLine := Nat.le_of_lt (small1000 h)
theorem dot_S : ("." : Str) = S [46] := by decide +kernel
/-- three letters -/
def Pal (z : List Nat) : Prop := ∃ c d e, z = [c, d, e] ∧ Let c ∧ Let d ∧ Let e
theorem Pal.len {z : List Nat} (h : Pal z) : z.length = 3 := by
  obtain ⟨c, d, e, rfl, _⟩ := h
  rfl
theorem Pal.good {z : List Nat} (h : Pal z) {c : Nat} (m : c ∈ z) : Let c := by
  obtain ⟨a, b, e, rfl, ha, hb, he⟩ := h
  simp only [List.mem_cons, List.not_mem_nil, or_false] at m
  rcases m with rfl | rfl | rfl <;> assumption
theorem draw_at {z : List Nat} (h : Pal z) {n : Int} (n0 : 0 ≤ n) (n7 : n < 7) : ∃ c, atI ([46] ++ z ++ z) n = some c ∧ Good c := by
  obtain ⟨j, rfl⟩ : ∃ j : Nat, n = (j : Int) := ⟨n.toNat, by omega⟩
  have len : ([46] ++ z ++ z).length = 7 := by simp [h.len]
  have hj : j < ([46] ++ z ++ z).length := by omega
  refine ⟨([46] ++ z ++ z)[j], atI_nat (List.getElem?_eq_getElem hj), ?_⟩
  have m := List.getElem_mem hj
  rcases List.mem_append.mp m with m | m
  · rcases List.mem_append.mp m with m | m
    · exact .inl (by simpa using m)
    · exact .inr (h.good m)
  · exact .inr (h.good m)
section
variable {P : Program} {w : World} {K : PySem.W.Frag} {mg : Str → Option Value} {base : Heap}
def spPal : Sp := fun vs H Q _ => ∃ b l, vs = [.ref b] ∧ BagL H b l ∧ ∀ z H', Pal z → But b H H' → BagL H' b l → Q (.str (S z)) H'
theorem scPal : FnScope ["_law_bag_here", "_law_letters", "_law_first", "_law_second", "_law_third"] ["_law_bag_here"] (defScope lPalette) := ⟨rfl, rfl, rfl, by decide +kernel, rfl, by decide +kernel, by decide +kernel⟩
abbrev tkNames : List Str := ["_law_bag_here", "_law_size"]
theorem ok_pal {f t : Addr} {fd td : FuncData} (F : Fun K "_law_palette" "_law_palette" lPalette f fd) (T : Cl P w K mg base CX0 1 "_law_take" tkNames spTake t td) (L : LTxt K mg) : FnOk P w K mg base CX0 2 f fd ["_law_bag_here"] spPal := by
  refine F.ok scPal (fun vs H Q E h => ?_) (fun cdv A outer s H vs Q E hr h => ?_)
  · obtain ⟨b, l, rfl, _⟩ := h
    rfl
  · obtain ⟨b, l, rfl, hb, k⟩ := h
    refine ⟨_, pss_cons (ps_set (i := 1) scPal.nd rfl (.inl rfl) pe_str)
      (pss_cons (ps_set (i := 2) scPal.nd rfl (.inl rfl) (pe_call T.ok hr (by rfl) T.gl T.kp T.bd .nil pass0 (pa_cons (pv 0) (pa_cons pe_int pa_nil))))
      (pss_cons (ps_set (i := 3) scPal.nd rfl (.inl rfl) (pe_op op_mod (pe_callTy call_int1 (by rfl) L.int (by decide +kernel) (pa_cons (pe_op op_add (pe_op op_add (pv 2) pe_int) (pe_call T.ok hr (by rfl) T.gl T.kp T.bd .nil pass0 (pa_cons (pv 0) (pa_cons pe_int pa_nil)))) pa_nil)) pe_int))
      (pss_cons (ps_set (i := 4) scPal.nd rfl (.inl rfl) (pe_op op_mod (pe_callTy call_int1 (by rfl) L.int (by decide +kernel) (pa_cons (pe_op op_add (pe_op op_add (pv 3) pe_int) (pe_call T.ok hr (by rfl) T.gl T.kp T.bd .nil pass0 (pa_cons (pv 0) (pa_cons pe_int pa_nil)))) pa_nil)) pe_int))
      (pss_one (ps_ret (pe_op op_add_str (pe_op op_add_str (pe_ix ix_str (pv 1) (pv 2) (fun _ _ => rfl)) (pe_ix ix_str (pv 1) (pv 3) (fun _ _ => rfl))) (pe_ix ix_str (pv 1) (pv 4) (fun _ _ => rfl)))))))), ?_⟩
    refine ⟨_, rfl, b, l, 26, rfl, hb, by decide, by decide, fun n H1 n0 n1 u1 b1 => ?_⟩
    refine ⟨_, rfl, _, _, rfl, rfl, _, rfl, b, l, 25, rfl, b1, by decide, by decide, fun n2 H2 p0 p1 u2 b2 => ⟨_, _, rfl, rfl, .inl ⟨_, rfl, _, _, rfl, rfl, (by show (0 : Int) < 26; decide), ?_⟩⟩⟩
    refine ⟨_, rfl, _, _, rfl, rfl, _, rfl, b, l, 25, rfl, b2, by decide, by decide, fun n3 H3 q0 q1 u3 b3 => ⟨_, _, rfl, rfl, .inl ⟨_, rfl, _, _, rfl, rfl, (by show (0 : Int) < 26; decide), ?_⟩⟩⟩
    have at_ : ∀ m : Int, 0 ≤ m → m < 26 → ∃ c, atI alphaS.cps.toList m = some c ∧ Let c := fun m h0 h1 => by
      obtain ⟨j, rfl⟩ : ∃ j : Nat, m = (j : Int) := ⟨m.toNat, by omega⟩
      exact ⟨97 + j, atI_nat (alpha_at j (by omega)), by unfold Let; omega⟩
    obtain ⟨c, ec, hc⟩ := at_ n n0 n1
    obtain ⟨d, ed, hd⟩ := at_ _ (Int.emod_nonneg (n + 1 + n2) (show (26 : Int) ≠ 0 by decide)) (Int.emod_lt_of_pos (n + 1 + n2) (show (0 : Int) < 26 by decide))
    obtain ⟨e, ee, he⟩ := at_ _ (Int.emod_nonneg ((n + 1 + n2) % 26 + 1 + n3) (show (26 : Int) ≠ 0 by decide)) (Int.emod_lt_of_pos ((n + 1 + n2) % 26 + 1 + n3) (show (0 : Int) < 26 by decide))
    have al : alphaS.length ≤ sizeLine := by rw [alpha_len]; exact small_line (by decide)
    refine ⟨_, rfl, _, rfl, _, _, _, rfl, rfl, al, ec, ?_⟩
    refine ⟨_, rfl, _, rfl, _, _, _, rfl, rfl, al, ed, _, _, rfl, rfl, by show 1 + 1 ≤ sizeLine; decide, ?_⟩
    refine ⟨_, rfl, _, rfl, _, _, _, rfl, rfl, al, ee, _, _, rfl, rfl, by show 2 + 1 ≤ sizeLine; decide, ?_⟩
    have z : (S [c] ++ S [d]) ++ S [e] = S [c, d, e] := by rw [S_cat, S_cat]; rfl
    have y := k [c, d, e] H3 ⟨c, d, e, rfl, hc, hd, he⟩ ((u1.trans u2).trans u3) b3
    rw [← z] at y
    exact y
end
/-! ### grids -/
abbrev Rows := List (List Nat)
def rowsV (R : Rows) : List V := R.map fun r => V.str (S r)
structure Grid (R : Rows) (w : Nat) : Prop where
  w1 : 1 ≤ w
  w8 : w ≤ 8
  h1 : 1 ≤ R.length
  h8 : R.length ≤ 8
  row : ∀ r ∈ R, r.length = w
  sgn : ∀ r ∈ R, ∀ c ∈ r, Good c
theorem rowsV_len (R : Rows) : (rowsV R).length = R.length := List.length_map _
theorem bag_upd {H : Hp} {b l t : Addr} {o : HO} (h : BagL H b l) (n : H t = none) : BagL (upd H t o) b l := by
  obtain ⟨ns, i, p, q, hb, hl, r⟩ := h
  exact ⟨ns, i, p, q, by rw [upd_ne (ne_of_none hb n)]; exact hb, by rw [upd_ne (ne_of_none hl n)]; exact hl, r⟩
theorem bag_b {H : Hp} {b l : Addr} (h : BagL H b l) : ∃ xs, H b = some (.lst xs) := by
  obtain ⟨_, _, _, _, hb, _⟩ := h
  exact ⟨_, hb⟩
theorem bag_ne {H : Hp} {b l t : Addr} {o : HO} (h : BagL H b l) (tb : t ≠ b) (tl : t ≠ l) : BagL (upd H t o) b l := by
  obtain ⟨ns, i, p, q, hb, hl, r⟩ := h
  exact ⟨ns, i, p, q, by rw [upd_ne (Ne.symm tb)]; exact hb, by rw [upd_ne (Ne.symm tl)]; exact hl, r⟩
theorem bag_l {H : Hp} {b l : Addr} (h : BagL H b l) : ∃ xs, H l = some (.lst xs) := by
  obtain ⟨_, _, _, _, _, hl, _⟩ := h
  exact ⟨_, hl⟩
theorem but_same {b : Addr} {H H' : Hp} (h : But b H H') : SameBut b H H' := fun a o ha e => (h a ha).trans e
theorem sb_trans {b : Addr} {H H1 H2 : Hp} (h : SameBut b H H1) (k : SameBut b H1 H2) : SameBut b H H2 := fun a o ha e => k a o ha (h a o ha e)
theorem sb_refl (b : Addr) (H : Hp) : SameBut b H H := fun _ _ _ e => e
theorem same_sb {b : Addr} {H H' : Hp} (h : Same H H') : SameBut b H H' := fun a o _ e => h a o e
end Pm
namespace Pm
open PySem PySem.Spec PyProof.Rows L2 SX
/-! ### for i, x in enumerate(xs, start=1) -/
/-- the list at a, item by item, each with its number counted from 1, in a new pair -/
def ItS (K : PySem.W.Frag) (a : Addr) : It where
  go := fun i H => ∃ (xs : List V) (x : V), SqL K H a xs ∧ xs[i]? = some x
  yld := fun i H v H' => ∃ T x, v = .ref T ∧ H T = none ∧ H' = upd H T (.tup [.int ((i : Int) + 1), x]) ∧ ∀ xs, SqL K H a xs → xs[i]? = some x
  stop := fun i H => ∃ xs : List V, SqL K H a xs ∧ xs.length = i
/-- a list's draws, counted from 1 -/
theorem draws1 {prog : Program} {w : World} {A : Around} (hh : A.handled = none) (it l : Addr) (ne : l ≠ it) (xs : Array Value) :
    Draws prog w A it [it, l] (xs.size + 1) (fun i v => xs[i - 1]? = some v) (fun i h => 1 ≤ i ∧ h.IsListIter it l (i - 1) ∧ h.IsList l xs) := by
  have D := Draws.list (prog := prog) (w := w) hh it l ne xs
  refine ⟨fun i h st => D.live (i - 1) h st.2, fun i h g st k => ⟨st.1, D.frame (i - 1) h g st.2 k⟩, ?_, fun s Q E st q => D.done s Q E st.2 q⟩
  intro i s Q E lt st q
  obtain ⟨j, rfl⟩ : ∃ j, i = j + 1 := ⟨i - 1, by have := st.1; omega⟩
  exact D.item j s Q E (by omega) st.2 fun x g tk px sx sb => q x g tk px ⟨by omega, sx⟩ sb
theorem apartL {h : Heap} {a it : Addr} {xs : Array Value} {i : Nat} (isl : h.IsList a xs) (h2 : h.IsListIter it a i) : a ≠ it := fun z => by
  obtain ⟨o, y, yc, n, yd⟩ := isl
  obtain ⟨o', y', _, yd'⟩ := h2
  rw [z, y'] at y
  cases y
  rw [yd'] at yd
  cases yd
theorem apartE {h : Heap} {a e it : Addr} {xs : Array Value} {i : Int} {w : Value} (isl : h.IsList a xs) (h1 : IsEnum h e it i w) : e ≠ a := fun z => by
  obtain ⟨o, y, yc, n, yd⟩ := isl
  rw [← z, h1] at y
  cases y
  cases yd
def tnS (e it a : Addr) (i : Nat) (h : Heap) : Prop := (∃ o, IsEnum h e it ((i + 1 : Nat) : Int) o) ∧ h.IsListIter it a i ∧ e ≠ it
theorem turnS {P : Program} {w : World} {K : PySem.W.Frag} {es : List Expr} {kk : Nat} {tp : Pos} (a e it : Addr) : Turn P w K (.Tuple es kk tp) (ItS K a) [e, it] e (tnS e it a) := by
  have two : ∀ {b : Addr}, b ∈ [e, it] → b = e ∨ b = it := fun m => by simpa using m
  constructor
  case mem => exact List.mem_cons_self
  case obj =>
    rintro i h ⟨⟨o1, h1⟩, ⟨o2, h2, _, d2⟩, _⟩ b m
    rcases two m with rfl | rfl
    · exact ⟨_, h1, fun v q => nomatch q⟩
    · refine ⟨o2, h2, fun v q => ?_⟩
      rw [d2] at q
      cases q
  case keep =>
    rintro i h g ⟨⟨o1, h1⟩, h2, ne⟩ k
    exact ⟨⟨o1, k e (by simp) _ h1⟩, h2.at fun o y => k it (by simp) o y, ne⟩
  case self =>
    rintro A i s Q E ⟨⟨_, h1⟩, _⟩ q
    exact wpAny_pyIter_enum h1 q
  case done =>
    rintro X rfl rfl rfl calm i pins s σ H E I free ⟨⟨o1, h1⟩, h2, ne⟩ ⟨xs, hx, rfl⟩
    obtain ⟨us, rv, isl, _⟩ := I.list hx
    obtain ⟨f0, f1, f2, f3, f4, f5⟩ := free it (by simp)
    have D := draws1 (prog := X.prog) (w := X.w) (A := X.A.in1) (I.ok.hd calm) it a (apartL isl.isList h2) us.toArray
    have e5 : us.toArray.size = xs.length := by simpa using rv.length.symm
    rw [e5] at D
    exact wpAny_pyNext_enum_endD D h1 ⟨by omega, h2, isl.isList⟩ fun g eb => ⟨rfl, I.turned (t' := s.toks) (fun b o nb y => eb b o nb y) f0 f1 f3 f4 f5⟩
  case item =>
    rintro X rfl rfl rfl calm i pins s σ H E I free ⟨⟨o1, h1⟩, h2, ne⟩ ⟨xs, x, hx, gx⟩
    obtain ⟨us, rv, isl, _⟩ := I.list hx
    obtain ⟨u, gu, ru⟩ := rv.get gx
    have nl := apartL isl.isList h2
    have D := draws1 (prog := X.prog) (w := X.w) (A := X.A.in1) (I.ok.hd calm) it a nl us.toArray
    have big : e < s.heap.objs.size := Heap.lt_size h1
    have sz : i < us.length := by
      rcases List.getElem?_eq_some_iff.mp gu with ⟨y, _⟩
      exact y
    refine wpAny_pyNext_enum_itemD (i := i + 1) D h1 ⟨by omega, h2, isl.isList⟩ (by simpa using sz) ne (fun m => ?_) fun v g tk pv eo st gT gs gk => ?_
    · rcases List.mem_cons.mp m with z | z
      · exact ne z
      · exact apartE isl.isList h1 (List.mem_singleton.mp z)
    · have ev : v = u := by
        have y : us.toArray[i]? = some v := pv
        rw [List.getElem?_toArray, gu] at y
        exact (Option.some.inj y).symm
      subst ev
      refine ⟨_, rfl, wpAny_letOwnedTupleGo_enum (s := { s with heap := g, toks := tk + 1 }) eo fun g2 e2 sb => ?_⟩
      have T2 : g2.get? s.heap.objs.size = some { cls := .type "tuple", data := .seq #[.int ((i + 1 : Nat) : Int) tk, v] } :=
        (sb.2 _ (Nat.ne_of_gt big)).trans gT
      have fresh : H s.heap.objs.size = none := I.hok.fresh (Nat.le_refl _)
      have pair : ObjOk X.prog X.w (upd H s.heap.objs.size (.tup [.int ((i : Int) + 1), x])) g2 s.heap.objs.size (.tup [.int ((i : Int) + 1), x]) :=
        ⟨small_line (by show 2 ≤ 1000; decide), [.int ((i + 1 : Nat) : Int) tk, v], .cons ⟨_, rfl⟩ (.cons ru .nil), ⟨_, T2, rfl, _, rfl⟩⟩
      have J : L2.Inv X pins σ (upd H s.heap.objs.size (.tup [.int ((i : Int) + 1), x])) { s with heap := g2, toks := tk + 1 } :=
        I.turnedNew (ch := [e, it]) (fun b o nb y => (sb.2 b (fun z => nb (by simp [z]))).trans (gk b o (fun z => nb (by simp [z])) (fun z => nb (by simp [z])) y)) free (Nat.le_refl _) pair
      refine ⟨.ref s.heap.objs.size, _, J, rfl, ⟨_, x, rfl, fresh, rfl, fun ys hy => ?_⟩, ⟨⟨v, e2⟩, st.2.1.at fun o y => (sb.2 it (Ne.symm ne)).trans y, ne⟩, fun b m => ?_⟩
      · rw [I.list_inj hy hx]
        exact gx
      · rw [upd_ne (fun z => ?_)]
        · exact (free b m).1
        · rcases two m with y | y
          · rw [y] at z
            rw [← z] at big
            exact Nat.lt_irrefl _ big
          · have lt2 : it < s.heap.objs.size := by
              obtain ⟨_, y2, _⟩ := h2
              exact Heap.lt_size y2
            rw [y] at z
            rw [← z] at lt2
            exact Nat.lt_irrefl _ lt2
/-! ### its making -/
section
variable {M : Model} {A : Around} {E : Value → Shared → Prop} {s : Shared} {env : Env}
theorem kw_type {pos : Pos} {T : String} {e : Expr} {es : List Expr} {kws : List Keyword} {Q : Value → Shared → Prop}
    (h : wpAny M A (spliced (backTo pos (starEach (e :: es) env))) (fun us s1 => wpAny M A (evalAll ((backToKw pos (keywordEach kws env)).map (·.2)))
      (fun ks s2 => wpAny M A (call (.type T) us (((backToKw pos (keywordEach kws env)).filterMap (·.1)).zip ks)) Q E s2) E s1) E s)
    (h1 : backTo pos (starEach (e :: es) env) = (false, eval e env) :: backTo pos (starEach es env) := by rfl) (h2 : (backTo pos (starEach (e :: es) env)).any (·.1) = false := by rfl)
    (h3 : (backToKw pos (keywordEach kws env)).all (·.1.isSome) = true := by rfl) (h4 : (backToKw pos (keywordEach kws env)).any (·.1.isNone) = false := by rfl) :
    wpAny M A (callWith pos (.type T) [] (backTo pos (starEach (e :: es) env)) (backToKw pos (keywordEach kws env))) Q E s := by
  have go : wpAny M A (evalArgs (.type T) true (backTo pos (starEach (e :: es) env)) (backToKw pos (keywordEach kws env))) (fun a s1 => wpAny M A (call (.type T) ([] ++ a.pos) a.kw) Q E s1) E s := by
    rw [h1] at h ⊢
    exact evalArgs_kwB h3 h
  unfold callWith
  refine wpAny_bind (wpAny_holding (wpAny_mono go (fun a s1 r => wpAny_bind (wpAny_standAt ?_)) fun _ _ y => y))
  simp only [h2, h4, Bool.or_false]
  exact wpAny_bind (wpAny_pure (wpAny_bind (wpAny_mono r (fun u s2 q => wpAny_bind (wpAny_holding (wpAny_point (wpAny_pure q)))) fun _ _ y => y)))
end
def iEnS (K : PySem.W.Frag) (ta tk : TA) : TI := fun σ H R => ta σ H fun vs H1 => tk σ H1 fun zs H2 => ∃ a xs, vs = [.ref a] ∧ zs = [.int 1] ∧ SqL K H2 a xs ∧ R (ItS K a) H2
theorem pi_enumS {X : Cx} {e ke : Expr} {ta tk : TA} {p kp pos tp : Pos} {es : List Expr} {kk : Nat} (hg : Gl X "enumerate") (hm : X.mg "enumerate" = none) (ha : PA X [e] ta) (hk : PK X [⟨some "start", ke, kp⟩] tk)
    (h1 : backTo pos (starEach [e] X.env) = (false, eval e X.env) :: backTo pos (starEach [] X.env) := by rfl) (h2 : (backTo pos (starEach [e] X.env)).any (·.1) = false := by rfl) :
    PI X (.Tuple es kk tp) (.Call (.Name "enumerate" p) [e] [⟨some "start", ke, kp⟩] pos) (iEnS X.K ta tk) := by
  refine ⟨fun pins s σ H R I h => ?_⟩
  refine wpAny_Call_Name_kw (ld_blt I hg hm boot_enumerate (kw_type (thn (ha.run pos pins s σ H _ I h) fun us s1 ⟨vs, H1, I1, r1, q1⟩ => thn (hk.run pos pins s1 σ H1 _ I1 q1) fun ks s2 ⟨zs, H2, I2, r2, a, xs, ev, ez, hx, q⟩ => ?_) h1 h2) (by decide) (by decide))
  subst ev ez
  match r1, r2 with
  | .cons ra .nil, .cons rk .nil =>
    cases ra
    obtain ⟨t, rfl⟩ := rk
    obtain ⟨vals, rv, isl, _⟩ := I2.list hx
    refine enum_begins_start (begins_list a vals.toArray) isl.isList (by decide) (by decide) fun g he hi hz hk2 => wpAny_pyIter_enum he ?_
    have J : L2.Inv X pins σ H2 { s2 with heap := g } := I2.kept (t' := s2.toks) hk2
    refine ⟨s2.heap.objs.size + 1, [s2.heap.objs.size + 1, s2.heap.objs.size], _, ItS X.K a, H2, rfl, J, turnS a (s2.heap.objs.size + 1) s2.heap.objs.size, ⟨⟨.none, he⟩, ⟨_, hi, rfl, rfl⟩, Nat.succ_ne_self _⟩, fun b m => ?_, q⟩
    have le : s2.heap.objs.size ≤ b := by
      rcases List.mem_cons.mp m with y | y
      · rw [y]
        exact Nat.le_succ _
      · rw [List.mem_singleton.mp y]
        exact Nat.le_refl _
    exact I2.fpOk le (I2.hok.fresh le)
end Pm
namespace Pm
open PySem PySem.Spec PyProof.Rows L2 SX
/-! ### sets of texts, filled from an iterator -/
/-- one more text, if it is new -/
def ddS (l : List Str) (v : Str) : List Str := if l.any (· == v) then l else l ++ [v]
def metS (val : Nat → Str) (i : Nat) : List Str := ((List.range i).map val).foldl ddS []
theorem metS_succ (val : Nat → Str) (i : Nat) : metS val (i + 1) = ddS (metS val i) (val i) := by
  unfold metS
  rw [List.range_succ, List.map_append, List.foldl_append]
  rfl
theorem metS_le (val : Nat → Str) : ∀ i, (metS val i).length ≤ i
  | 0 => Nat.le_refl _
  | i + 1 => by
    rw [metS_succ]
    have ih := metS_le val i
    unfold ddS
    split
    · omega
    · rw [List.length_append, List.length_singleton]
      omega
theorem ddS_any (l : List Str) (v k : Str) : (ddS l v).any (· == k) = (l.any (· == k) || decide (k = v)) := by
  unfold ddS
  by_cases h : l.any (· == v) = true
  · rw [if_pos h]
    by_cases e : k = v
    · subst e
      rw [h]
      simp
    · simp [e]
  · rw [if_neg h, List.any_append]
    by_cases e : k = v
    · subst e
      simp
    · have hb : (v == k) = false := by simpa [beq_iff_eq] using (fun h' : v = k => e h'.symm)
      simp [hb, e]
theorem ddS_len (l : List Str) (v : Str) : (ddS l v).length = if l.any (· == v) then l.length else l.length + 1 := by
  unfold ddS
  split <;> simp
section
variable {prog : Program} {w : World} {A : Around} {R : Result → Shared → Prop} {I : Addr} {fp wr : List Addr} {G : Array GenState → Array GenState → Prop} {n : Nat} {Pp : Nat → Value → Prop} {St : Nat → Shared → Prop}
theorem set_loopS (W : WalksS prog w A.in1 I fp wr G n Pp St) (S : Addr) (hSf : S ∉ fp) (val : Nat → Str) (hval : ∀ i v, Pp i v → ∃ t, v = .str (val i) t) (hb : n + 1 < scanBound) :
    ∀ (k i : Nat) (s : Shared), n - i = k → i ≤ n → St i s →
      s.heap.SetOf (PySem.strKind prog w) S (fun k' => (metS val i).any (· == k')) (metS val i).length →
      (∀ s', Moved (S :: wr) G s s' → s'.heap.SetOf (PySem.strKind prog w) S (fun k' => (metS val n).any (· == k')) (metS val n).length → R (.ok (.ret .none)) s') →
      codeAny (model prog w) A (.builtin "set.update.loop" ⟨[.ref S, .ref I], []⟩) R s := by
  have hSw : S ∉ wr := fun h => hSf (W.sub _ h)
  have hsub : ∀ b ∈ wr, b ∈ S :: wr := fun b hb => List.mem_cons_of_mem _ hb
  intro k
  induction k with
  | zero =>
    intro i s hk hi hst hS hR
    have hin : i = n := by omega
    subst hin
    refine codeAny_builtin PyProof.Rows.F.entry_set_update_loop ?_
    rw [Around.under_plainId PyProof.Rows.F.plain_set_update_loop _]
    show wpAny _ A.in1 (pyNext (.ref I) >>= _) _ _ s
    refine wpAny_bind (W.done s _ _ hst fun s' hm => ?_)
    show wpAny _ A.in1 (ret Value.none) _ _ s'
    exact wpAny_pure (hR s' (hm.mono hsub) (by
      obtain ⟨o, es, ep, t, ho, rest⟩ := hS
      exact ⟨o, es, ep, t, hm.heap S _ hSw ho, rest⟩))
  | succ k ih =>
    intro i s hk hi hst hS hR
    have hlt : i < n := by omega
    refine codeAny_builtin PyProof.Rows.F.entry_set_update_loop ?_
    rw [Around.under_plainId PyProof.Rows.F.plain_set_update_loop _]
    show wpAny _ A.in1 (pyNext (.ref I) >>= _) _ _ s
    refine wpAny_bind (W.item i s _ _ hlt hst fun v s' hP hst' hm => ?_)
    obtain ⟨t, rfl⟩ := hval i v hP
    have hS' : s'.heap.SetOf (PySem.strKind prog w) S (fun k' => (metS val i).any (· == k')) (metS val i).length := by
      obtain ⟨o, es, ep, tb, ho, rest⟩ := hS
      exact ⟨o, es, ep, tb, hm.heap S _ hSw ho, rest⟩
    have iskey : (PySem.strKind prog w).is (val i) (.str (val i) t) = true := Froz.is_str _ _
    show wpAny _ A.in1 (holding [Value.str (val i) t] (setAdd S (.str (val i) t)) >>= _) _ _ s'
    refine wpAny_bind (wpAny_holding ?_)
    unfold setAdd
    refine wpAny_holding ?_
    refine wpAny_bind ((PySem.strKind prog w).pyHash (k := val i) iskey ?_)
    have hroom : (metS val i).length + 1 < scanBound := by
      have := metS_le val i
      omega
    refine wpAny_setAddHashed_of (knd := PySem.strKind prog w) (s := { s' with toks := s'.toks + 1 }) iskey rfl hS' hroom fun h' hsb hS2 => ?_
    have hSi : h'.SetOf (PySem.strKind prog w) S (fun k' => (metS val (i + 1)).any (· == k')) (metS val (i + 1)).length :=
      SetOf_congr hS2 (fun k' => by rw [metS_succ, ddS_any]) (by rw [metS_succ, ddS_len])
    refine wpAny_pure ⟨plainId_quiet PyProof.Rows.F.plain_set_update_loop _, ih (i + 1) _ (by omega) hlt (W.frame _ s' _ _ hst' (Nat.le_succ _) fun b hb o e => ?_) hSi fun s'' hm'' hS'' => ?_⟩
    · rw [hsb.2 b (fun h : b = S => hSf (by rw [← h]; exact hb))]
      exact e
    · refine hR s'' (Moved.trans W.gtrans ((hm.mono hsub).then_heap (Nat.le_succ _) fun b o hb e => ?_) hm'') hS''
      rw [hsb.2 b (fun h : b = S => hb (by rw [h]; exact List.mem_cons_self))]
      exact e
end
end Pm
namespace Pm
open PySem PySem.Spec PyProof.Rows L2 SX
theorem sub_str_set' : isSubtype (.type "str") (.type "set") = pure false := by rw [isSubtype_type]; kernel_rfl
theorem sub_str_frozen' : isSubtype (.type "str") (.type "frozenset") = pure false := by rw [isSubtype_type]; kernel_rfl
section
variable {prog : Program} {w : World} {A : Around} {E : Value → Shared → Prop} {s : Shared}
theorem call_set_text {x : Str} {t : Tok} {Q : Value → Shared → Prop}
    (hh : A.handled = none) (hb : x.cps.size + 1 < scanBound)
    (h : ∀ (h' : Heap) (tk : Nat), h'.SetOf (PySem.strKind prog w) s.heap.objs.size (fun k' => (metS (fun i => ⟨#[x.cps.getD i 0]⟩) x.cps.size).any (· == k')) (metS (fun i => ⟨#[x.cps.getD i 0]⟩) x.cps.size).length →
      (∀ b o, b < s.heap.objs.size → s.heap.get? b = some o → h'.get? b = some o) → Q (.ref s.heap.objs.size) { s with heap := h', toks := tk }) :
    wpAny (model prog w) A (call (.type "set") [.str x t]) Q E s := by
  obtain ⟨c, tl, hmro⟩ := F.called_set.mro
  have hmade := F.called_set.made
  have hsub := F.called_set.sub
  refine wpAny_call (codeAny_of_tree ?_)
  show wpAny _ _ (callAny (.type "set") _) _ _ _
  refine wpAny_pure ⟨Code.quiet_builtin _ (by decide +kernel), codeAny_builtin F.entry_type_call ?_⟩
  rw [Around.under_plain (weight_type_call_type "set" [.str x t] []) rfl]
  have h1 := F.called_set.notType
  have h2 := F.called_set.canCreate
  have hct := F.typeCall_set_1 (.str x t)
  repeat (any_goals (first | assumption | wp_step))
  refine codeAny_mono (code_set_new_1 (.str x t) (E := E) (Q₁ := fun obj s₁ => ∃ led : Bool, obj = .ref s.heap.objs.size ∧ s₁ = { s with heap := s.heap.push { cls := .type "set", dict := none, data := .set #[] 0 (.fresh 0 0 led) } }) fun led => ⟨led, rfl, rfl⟩) fun r s₁ hr => ?_
  cases r with
  | error e => exact hr
  | ok fl =>
    cases fl with
    | ret obj =>
      obtain ⟨led, rfl, rfl⟩ := hr
      have hS : (s.heap.push { cls := .type "set", dict := none, data := .set #[] 0 (.fresh 0 0 led) }).get? s.heap.objs.size = some { cls := .type "set", dict := none, data := .set #[] 0 (.fresh 0 0 led) } := Heap.get?_push_size _ rfl
      have hT : Shared.TypeIs { s with heap := s.heap.push { cls := .type "set", dict := none, data := .set #[] 0 (.fresh 0 0 led) } } (.ref s.heap.objs.size) "set" := ⟨_, hS, rfl⟩
      have hli := F.called_set.init.lookup
      have hbi := F.called_set.init.bind (.ref s.heap.objs.size)
      repeat (any_goals (first | assumption | wp_step))
      refine codeAny_mono (codeAny_call_builtin (R := wants (fun r s₂ => r = .none ∧ ∃ h' tk, s₂ = { s with heap := h', toks := tk } ∧
          h'.SetOf (PySem.strKind prog w) s.heap.objs.size (fun k' => (metS (fun i => ⟨#[x.cps.getD i 0]⟩) x.cps.size).any (· == k')) (metS (fun i => ⟨#[x.cps.getD i 0]⟩) x.cps.size).length ∧
          (∀ b o, b < s.heap.objs.size → s.heap.get? b = some o → h'.get? b = some o)) E) F.called_set.init.plain F.entry_set_init (check_set_init_1 hT ?_)) fun r₂ s₂ hr₂ => ?_
      · have hsls := sub_str_set'
        have hslf := sub_str_frozen'
        have hne : (Value.type "str" == Value.type "dict") = false := by decide
        unfold Builtin.«set.__init__» noKeywords Builtin.Frozenset.updateFrom
        generalize hPI : pyIter = PI
        wp_walk
        subst hPI
        refine wpAny_pyIter_str fun o St W hst => ?_
        refine wpAny_bind (wpAny_runValue ?_)
        have hh3 : A.in1.in1.in1.handled = none := by simp [hh]
        have hSf : s.heap.objs.size ∉ [(s.heap.push { cls := .type "set", dict := none, data := .set #[] 0 (.fresh 0 0 led) }).objs.size] := by
          rw [Heap.size_push]
          simp only [List.mem_cons, List.not_mem_nil, or_false]
          exact Nat.ne_of_lt (Nat.lt_succ_self _)
        have hval : ∀ (i : Nat) (v : Value), SignAt x i v → ∃ t, v = .str ((fun i => (⟨#[x.cps.getD i 0]⟩ : Str)) i) t := fun i v ⟨c, u, hc, hv⟩ => by
          refine ⟨u, ?_⟩
          rw [hv]
          have e : x.cps.getD i 0 = c := by
            rw [Array.getD_eq_getD_getElem?, hc]
            rfl
          show _ = Value.str (⟨#[x.cps.getD i 0]⟩ : Str) u
          rw [e]
        refine set_loopS ((W _ hh3).toS) s.heap.objs.size hSf (fun i => ⟨#[x.cps.getD i 0]⟩) hval hb (x.cps.size - 0) 0 _ (by omega) (Nat.zero_le _) hst ?hS0 ?hR
        case hS0 =>
          have hget : ((s.heap.push { cls := .type "set", dict := none, data := .set #[] 0 (.fresh 0 0 led) }).push o).get? s.heap.objs.size
              = some { cls := .type "set", dict := none, data := .set #[] 0 (.fresh 0 0 led) } := Heap.get?_push_of_some _ hS
          exact PyProof.Rows.SetOf_congr ((PyProof.Rows.setObjOf_fresh (knd := PySem.strKind prog w) led).setOf hget (by unfold scanBound; omega)) (fun _ => rfl) rfl
        case hR =>
          intro s' hm hS'
          obtain ⟨h', g', d', tk', os'⟩ := s'
          have eg : g' = s.gens := hm.gens
          have ed : d' = s.drawn := hm.drawn
          have eo : os' = s.os := hm.os
          subst eg; subst ed; subst eo
          show wpAny _ _ _ _ _ _
          refine wpAny_pure ?_
          show wpAny _ _ (ret Value.none) _ _ _
          refine wpAny_pure ⟨rfl, h', tk', rfl, hS', fun b o hb e => ?_⟩
          have hb1 : b ≠ s.heap.objs.size := Nat.ne_of_lt hb
          have hb2 : b ≠ (s.heap.push { cls := .type "set", dict := none, data := .set #[] 0 (.fresh 0 0 led) }).objs.size := by
            rw [Heap.size_push]
            exact Nat.ne_of_lt (Nat.lt_succ_of_lt hb)
          exact hm.heap b o (by simp only [List.mem_cons, List.mem_singleton, List.not_mem_nil, or_false, not_or]; exact ⟨hb1, hb2⟩) (Heap.get?_push_of_some _ (Heap.get?_push_of_some _ e))
      · cases r₂ with
        | error e => exact hr₂
        | ok fl₂ =>
          cases fl₂ with
          | ret r =>
            obtain ⟨rfl, h', tk, rfl, hS', hk'⟩ := hr₂
            repeat (any_goals (first | assumption | wp_step))
            exact h _ _ hS' hk'
          | _ => exact hr₂.elim
    | _ => exact hr.elim
end
/-! ### len(set(text)) -/
theorem metS_nodup (val : Nat → Str) : ∀ i, ((metS val i).length = i ↔ ((List.range i).map val).Nodup)
  | 0 => by simp [metS]
  | i + 1 => by
    have mem : ∀ i k, k ∈ metS val i ↔ k ∈ (List.range i).map val := by
      intro i
      induction i with
      | zero => simp [metS]
      | succ i ih =>
        intro k
        have a : (metS val (i + 1)).any (· == k) = ((metS val i).any (· == k) || decide (k = val i)) := by rw [metS_succ, ddS_any]
        rw [List.range_succ, List.map_append, List.mem_append, ← ih k]
        constructor
        · intro m
          have z : (metS val (i + 1)).any (· == k) = true := List.any_eq_true.mpr ⟨k, m, beq_self_eq_true k⟩
          rw [a, Bool.or_eq_true] at z
          rcases z with z | z
          · obtain ⟨y, my, ey⟩ := List.any_eq_true.mp z
            rw [eq_of_beq ey] at my
            exact .inl my
          · exact .inr (by simp [of_decide_eq_true z])
        · intro m
          have z : (metS val (i + 1)).any (· == k) = true := by
            rw [a, Bool.or_eq_true]
            rcases m with m | m
            · exact .inl (List.any_eq_true.mpr ⟨k, m, beq_self_eq_true k⟩)
            · exact .inr (decide_eq_true (by simpa using m))
          obtain ⟨y, my, ey⟩ := List.any_eq_true.mp z
          rw [eq_of_beq ey] at my
          exact my
    have ih := metS_nodup val i
    have le := metS_le val i
    have lt : (metS val (i + 1)).length = if (metS val i).any (· == val i) then (metS val i).length else (metS val i).length + 1 := by rw [metS_succ, ddS_len]
    have anym : (metS val i).any (· == val i) = true ↔ val i ∈ (List.range i).map val := by
      rw [← mem i, List.any_eq_true]
      exact ⟨fun ⟨y, my, ey⟩ => eq_of_beq ey ▸ my, fun m => ⟨_, m, beq_self_eq_true _⟩⟩
    rw [List.range_succ, List.map_append, List.nodup_append, lt]
    constructor
    · intro e
      split at e
      · omega
      · rename_i na
        have nm : val i ∉ (List.range i).map val := fun m => na (anym.mpr m)
        refine ⟨ih.mp (by omega), by simp, fun a ha b hb eab => nm ?_⟩
        have hb : b = val i := by simpa using hb
        rw [← hb, ← eab]
        exact ha
    · rintro ⟨h1, _, h3⟩
      rw [if_neg fun z => h3 _ (anym.mp z) (val i) (by simp) rfl, ih.mpr h1]
/-- as many as the text has signs just if no sign stands there twice -/
theorem metS_text (z : List Nat) : (metS (fun i => ⟨#[(S z).cps.getD i 0]⟩) (S z).cps.size).length ≤ z.length ∧ ((metS (fun i => ⟨#[(S z).cps.getD i 0]⟩) (S z).cps.size).length = z.length ↔ z.Nodup) := by
  have e1 : (S z).cps.size = z.length := by simp
  rw [e1]
  refine ⟨metS_le _ _, (metS_nodup _ _).trans ?_⟩
  have e2 : (List.range z.length).map (fun i => (⟨#[(S z).cps.getD i 0]⟩ : Str)) = z.map fun c => S [c] := by
    refine List.ext_getElem (by simp) fun i h1 h2 => ?_
    have hi : i < z.length := by simpa using h1
    rw [List.getElem_map, List.getElem_map, List.getElem_range]
    show S [(S z).cps.getD i 0] = S [z[i]]
    rw [Array.getD_eq_getD_getElem?]
    simp [hi]
  rw [e2]
  constructor
  · intro h
    exact List.Pairwise.of_map (f := fun c => S [c]) (fun a b ne e => ne (by rw [e])) h
  · intro h
    exact List.pairwise_map.mpr (h.imp fun ne e => ne (by have := S_inj e; simpa using this))
def tLenSetS (ta : TE) : TE := fun σ H Q => ta σ H fun x H1 => ∃ z : List Nat, x = .str (S z) ∧ z.length ≤ 1000 ∧ ∀ n : Nat, n ≤ z.length → (n = z.length ↔ z.Nodup) → Q (.int (n : Int)) H1
theorem pe_lenSetS {X : Cx} {a : Expr} {ta : TE} {p p2 q pos : Pos} (hg : Gl X "len") (hm : X.mg "len" = none) (hg2 : Gl X "set") (hm2 : X.mg "set" = none) (ha : PE X a ta) (hc : X.calm = true := by rfl)
    (na : starEach [a] X.env = (false, eval a X.env) :: starEach [] X.env := by rfl) : PE X (.Call (.Name "len" p) [.Call (.Name "set" p2) [a] [] q] [] pos) (tLenSetS ta) := by
  refine ⟨fun pins s σ H Q I h => ?_⟩
  refine Call_ (ld_blt I hg hm boot_len ?_)
  refine PyProof.Rows.callWith_builtin1 (PyProof.Rows.args_cons ?_ rfl) rfl rfl
  refine Call_ (ld_blt I hg2 hm2 boot_set ?_)
  refine PyProof.Rows.callWith_type1 (PyProof.Rows.args_cons (thn (ha.run pins s σ H _ I h) fun v s1 ⟨x, H1, I1, r1, q1⟩ => PyProof.Rows.args_nil ?_) na) na rfl
  obtain ⟨z, rfl, few, q1⟩ := q1
  obtain ⟨t, rfl⟩ := r1
  have e1 : (S z).cps.size = z.length := by simp
  have m := metS_text z
  refine call_set_text (I1.ok.hd hc) (by rw [e1]; unfold scanBound; omega) fun h' tk hS hk => ?_
  refine PyProof.Rows.args_nil ?_
  generalize (metS (fun i => ⟨#[(S z).cps.getD i 0]⟩) (S z).cps.size) = L at hS m
  obtain ⟨o, es, ep, t, ho, hex, hd, _, _, _, hf, hn⟩ := hS
  have I2 : L2.Inv X pins σ H1 { s1 with heap := h', toks := tk } := I1.kept fun b o e => hk b o (Heap.lt_size e) e
  exact call_len_set ho hex hd hf (by rw [hn] <;> omega) ⟨.int L.length, H1, I2.tok _, ⟨_, by rw [hn]⟩, q1 _ m.1 m.2⟩
end Pm
namespace Pm
open PySem PySem.Spec PyProof.Rows L2 SX
/-! ### sorted(text) -/
/-- the signs, each a text of its own -/
def ones (z : List Nat) : List Str := z.map fun c => S [c]
theorem strs_signs : ∀ {us : List Value} {z : List Nat}, us.length = z.length → (∀ (j : Nat) (v : Value), us[j]? = some v → ∃ (c : Nat) (t : Tok), z[j]? = some c ∧ v = Value.str (S [c]) t) → StrsAre us (ones z)
  | [], [], _, _ => .nil
  | u :: us, k :: ks, hl, h => by
    obtain ⟨x, t, e1, e2⟩ := h 0 u rfl
    have e1' : k = x := Option.some.inj e1
    subst e1'
    subst e2
    refine .cons _ _ (strs_signs (by simpa using hl) fun j v e => ?_)
    obtain ⟨x, t, a, b⟩ := h (j + 1) v (by simpa using e)
    exact ⟨x, t, by simpa using a, b⟩
  | [], _ :: _, hl, _ => by simp at hl
  | _ :: _, [], hl, _ => by simp at hl
/-- sorted(text): its signs in a new list, in order -/
def rSortedTx : List V → Hp → VK → Prop := fun vs H Q => ∃ z : List Nat, vs = [.str (S z)] ∧ z.length ≤ 1000 ∧ ∀ (ys : List Nat) (p : Addr), ys.Perm z → ys.Pairwise (· ≤ ·) → H p = none → Q (.ref p) (upd H p (.lst ((ones ys).map V.str)))
theorem ones_perm {z : List Nat} : ∀ {l : List Str}, l.Perm (ones z) → ∃ ys : List Nat, ys.Perm z ∧ l = ones ys := fun {l} h => by
  refine ⟨l.map fun s => s.cps.toList.headD 0, ?_, ?_⟩
  · have q := h.map fun s => s.cps.toList.headD 0
    have e : (ones z).map (fun s : Str => s.cps.toList.headD 0) = z := by
      unfold ones
      rw [List.map_map]
      have : ((fun s : Str => s.cps.toList.headD 0) ∘ fun c => S [c]) = id := by
        funext c
        simp
      rw [this, List.map_id]
    rw [e] at q
    exact q
  · unfold ones
    rw [List.map_map]
    refine (List.map_id l).symm.trans (List.map_congr_left fun s hs => ?_)
    obtain ⟨c, _, rfl⟩ := List.mem_map.mp (h.mem_iff.mp hs)
    simp
theorem ones_sorted : ∀ {ys : List Nat}, sortedS (ones ys) = true → ys.Pairwise (· ≤ ·) := by
  have step : ∀ (p : Nat) (l : List Nat), risingS (S [p]) (ones l) = true → (p :: l).Pairwise (· ≤ ·) := by
    intro p l
    induction l generalizing p with
    | nil => intro _; exact List.pairwise_singleton _ _
    | cons x r ih =>
      intro h
      have h : (!ltCps (S [x]).cps.toList (S [p]).cps.toList && risingS (S [x]) (ones r)) = true := h
      rw [Bool.and_eq_true] at h
      have tl := ih x h.2
      have le : p ≤ x := by
        have z := h.1
        rw [ltCps_eq] at z
        by_cases y : x < p
        · rw [decide_eq_true (show (S [x]).cps.toList < (S [p]).cps.toList from List.Lex.rel y)] at z
          cases z
        · omega
      refine List.pairwise_cons.mpr ⟨fun y hy => ?_, tl⟩
      rcases List.mem_cons.mp hy with e | m
      · rw [e]
        exact le
      · exact Nat.le_trans le ((List.pairwise_cons.mp tl).1 y m)
  intro ys h
  cases ys with
  | nil => exact List.Pairwise.nil
  | cons x r => exact step x r h
theorem cr_sortedTx {X : Cx} (hcalm : X.calm = true) : CallR X (.builtin "sorted") rSortedTx := by
  intro pins s σ H xs us Q I r q
  obtain ⟨z, ex, few, q⟩ := q
  subst ex
  obtain ⟨u, eu, rx⟩ := vals1 r
  subst eu
  obtain ⟨t, rfl⟩ := rx
  have e1 : (S z).cps.size = z.length := by simp
  refine Calls.call_function_entry PyProof.Rows.kind_sorted PyProof.Rows.plain_sorted PyProof.Rows.entry_sorted (PyProof.Rows.args_sorted1 _) ?_
  unfold Builtin.«sorted»
  refine wpAny_bind (m := checkCount "sorted" 1 1 _) (wpAny_pure ?_)
  refine wpAny_bind (wpAny_collect_str (A := X.A.in1) (I.ok.hd hcalm) (S z) t (fun s1 acc hk hg hd ho hacc => ?_) (by rw [e1, sizeLine_eq]; omega))
  have hal : acc.toList.length = z.length := by rw [Array.length_toList, hacc.1, e1]
  have hS : StrsAre acc.toList (ones z) := strs_signs hal fun j v e => by
    obtain ⟨c, u, e2, e3⟩ := hacc.2 j v (by rw [← Array.getElem?_toList]; exact e)
    refine ⟨c, u, ?_, e3⟩
    rw [← Array.getElem?_toList] at e2
    exact e2
  obtain ⟨h', g', d', tk', os'⟩ := s1
  have hg : g' = s.gens := hg
  have hd : d' = s.drawn := hd
  have ho : os' = s.os := ho
  subst hg hd ho
  have I1 : L2.Inv X pins σ H { s with heap := h', toks := tk' } := I.kept hk
  refine wpAny_bind (wpAny_newList ?_ (by rw [hal, sizeLine_eq]; omega))
  have hoL : (h'.push (seqObj "list" acc.toList.toArray 0)).get? h'.objs.size = some (seqObj "list" acc.toList.toArray 0) := Heap.get?_push_size _ rfl
  show wpAny _ _ _ _ _ { s with heap := h'.push (seqObj "list" acc.toList.toArray 0), toks := tk' }
  refine wpAny_bind (wpAny_holding (wpAny_call_entry PyProof.Rows.slot_list_sort ⟨_, hoL, rfl⟩ PyProof.Rows.entry_list_sort
    (list_sort_treeKAny strKind_oneLt (s := { s with heap := h'.push (seqObj "list" acc.toList.toArray 0), toks := tk' }) hoL hS.keysOf (fun v₁ v₂ rest e => keyKind_strs (by rw [← e]; exact hS)) (by rw [hal, sizeLine_eq]; omega) fun st' hp hs => ⟨_, rfl, ?_⟩)
    (PyProof.Rows.args_list_sort _)))
  obtain ⟨ss, g1, g2, g3⟩ := sorted_out_str hS hp hs
  obtain ⟨ys, p1, rfl⟩ := ones_perm g2
  obtain ⟨e', he'⟩ := PyProof.Rows.sortedHeap_at (vs := acc.toList) (out := (arrOf st').map (·.2)) hoL
  have hlen : ((ones ys).map V.str).length ≤ sizeLine := by
    rw [List.length_map, g2.length_eq]
    show (ones z).length ≤ _
    rw [show (ones z).length = z.length from List.length_map _]
    exact small_line few
  refine wpAny_pure ⟨_, rfl, .ref h'.objs.size, upd H h'.objs.size (.lst ((ones ys).map V.str)), I1.laid (t' := tk') (fun b u e => ?_) (Nat.le_refl _)
    (show ObjOk X.prog X.w _ _ _ (.lst ((ones ys).map V.str)) from ⟨hlen, ((arrOf st').map (·.2)).toList, e', vals_of_strs g1, by rw [Array.toArray_toList]; exact he'⟩), rfl, q ys _ p1 (ones_sorted g3) (I1.hok.fresh (Nat.le_refl _))⟩
  have hb : b < h'.objs.size := Heap.lt_size e
  rw [PyProof.Rows.sortedHeap_old (Nat.ne_of_lt hb) (by rw [size_push']; exact Nat.lt_succ_of_lt hb)]
  exact Heap.get?_push_of_some _ e
end Pm
namespace Pm
open PySem PySem.Spec PyProof.Rows L2 SX
/-! ### which rows are good -/
def stoneB : List Nat → Bool
  | [c] => decide (Let c)
  | _ => false
def goodB : List Nat → Bool
  | [c] => decide (Good c)
  | _ => false
def okB (w : Int) (z : List Nat) : Bool := (decide (1 ≤ z.length) && decide (z.length ≤ 8) && decide ((z.length : Int) = w)) && z.all fun c => decide (Good c)
def lineOf : Rows → Int
  | [] => 1
  | r :: R => match ((r :: R).take 8).findIdx? (fun z => !okB (r.length : Int) z) with
    | some i => (i : Int) + 1
    | none => if 8 < (r :: R).length then 9 else 0
structure PTxt (K : PySem.W.Frag) (mg : Str → Option Value) (C : Addr) : Prop where
  gC : mg "Picture" = some (.ref C)
  cr : ∃ mc, ClX.CRead K C mc ∧ (∃ u, ClX.CVal K C mc "HOLE" (.str ".") u) ∧ ∃ u, ClX.CVal K C mc "EDGE" (.str "#") u
  stones : ∃ u, mg "STONES" = some u ∧ RelV (.str alphaS) u
  most : ∃ u, mg "MOST" = some u ∧ RelV (.int 8) u
  all : mg "all" = none
  enum : mg "enumerate" = none
theorem len_one {z : List Nat} (h : z.length = 1) : ∃ c, z = [c] := match z, h with | [c], _ => ⟨c, rfl⟩
theorem stoneB_ne {z : List Nat} (h : z.length ≠ 1) : stoneB z = false := by
  match z, h with
  | [], _ => rfl
  | [_], h => exact absurd rfl h
  | _ :: _ :: _, _ => rfl
theorem goodB_ne {z : List Nat} (h : z.length ≠ 1) : goodB z = false := by
  match z, h with
  | [], _ => rfl
  | [_], h => exact absurd rfl h
  | _ :: _ :: _, _ => rfl
section
variable {P : Program} {w : World} {K : PySem.W.Frag} {mg : Str → Option Value} {base : Heap} {C : Addr}
def spStone : Sp := fun vs H Q _ => ∃ z, vs = [.str (S z)] ∧ z.length ≤ 1000 ∧ Q (.bl (stoneB z)) H
theorem scStone : FnScope ["sign"] ["sign"] (defScope gIsStone) := ⟨rfl, rfl, rfl, by decide +kernel, rfl, by decide +kernel, by decide +kernel⟩
theorem ok_stone {f : Addr} {fd : FuncData} (F : Fun K "is_stone" "is_stone" gIsStone f fd) (L : LTxt K mg) (T : PTxt K mg C) : FnOk P w K mg base CX0 1 f fd ["sign"] spStone := by
  refine F.ok scStone (fun vs H Q E h => ?_) (fun cdv A outer s H vs Q E hr h => ?_)
  · obtain ⟨z, rfl, _⟩ := h
    rfl
  · obtain ⟨z, rfl, few, k⟩ := h
    obtain ⟨u, hu, ru⟩ := T.stones
    refine ⟨_, pss_one (ps_ret (pe_and (pe_cmpR op_eq (pe_callB call_len_str (by rfl) L.len PySem.boot_len (pa_cons (pv 0) pa_nil)) pe_int (nomark _)) (pe_one (pe_cmpR op_in_sign (pv 0) (pe_glob (by rfl) hu ru) (by rfl))))), ?_⟩
    refine ⟨_, rfl, _, rfl, by rw [len_S]; exact small_line few, rfl, _, rfl, ite2 (fun e => ?_) (fun e => ?_)⟩
    · have e1 : z.length = 1 := by
        have := of_decide_eq_true e
        simp only [V.int.injEq] at this
        rw [len_S] at this
        omega
      obtain ⟨c, rfl⟩ := len_one e1
      refine ⟨_, rfl, c, _, rfl, rfl, ?_⟩
      have y : decide (c ∈ alphaS.cps.toList) = stoneB [c] := decide_eq_decide.mpr (alpha_mem c)
      rw [y]
      exact k
    · have e1 : z.length ≠ 1 := fun y => e (decide_eq_true (by rw [len_S, y]; rfl))
      rw [stoneB_ne e1] at k
      exact k
def spSoh : Sp := fun vs H Q _ => ∃ z, vs = [.str (S z)] ∧ z.length ≤ 1000 ∧ Q (.bl (goodB z)) H
theorem scSoh : FnScope ["sign"] ["sign"] (defScope gIsStoneOrHole) := ⟨rfl, rfl, rfl, by decide +kernel, rfl, by decide +kernel, by decide +kernel⟩
theorem ok_soh {f g : Addr} {fd gd : FuncData} (F : Fun K "is_stone_or_hole" "is_stone_or_hole" gIsStoneOrHole f fd) (G : Cl P w K mg base CX0 1 "is_stone" ["sign"] spStone g gd) (T : PTxt K mg C) : FnOk P w K mg base CX0 2 f fd ["sign"] spSoh := by
  refine F.ok scSoh (fun vs H Q E h => ?_) (fun cdv A outer s H vs Q E hr h => ?_)
  · obtain ⟨z, rfl, _⟩ := h
    rfl
  · obtain ⟨z, rfl, few, k⟩ := h
    obtain ⟨mc, cr, ⟨u, hu⟩, _⟩ := T.cr
    refine ⟨_, pss_one (ps_ret (pe_or (pe_cmpR op_eq (pv 0) (ClX.pe_cval (pe_glob (v := .ref C) (by rfl) T.gC rfl)) (nomark _)) (pe_one (pe_call G.ok hr (by rfl) G.gl G.kp G.bd .nil pass0 (pa_cons (pv 0) pa_nil))))), ?_⟩
    refine ⟨_, rfl, C, mc, _, u, rfl, cr, hu, rfl, _, rfl, ite2 (fun e => ?_) (fun e => ⟨_, rfl, z, rfl, few, ?_⟩)⟩
    · have e1 : z = [46] := by
        have := of_decide_eq_true e
        simp only [V.str.injEq] at this
        rw [dot_S] at this
        exact S_inj this
      subst e1
      exact k
    · have e1 : z ≠ [46] := fun y => e (decide_eq_true (by rw [y, dot_S]))
      have e2 : stoneB z = goodB z := by
        by_cases l1 : z.length = 1
        · obtain ⟨c, rfl⟩ := len_one l1
          refine decide_eq_decide.mpr ⟨.inr, fun y => ?_⟩
          rcases y with y | y
          · exact absurd (by rw [y]) e1
          · exact y
        · rw [stoneB_ne l1, goodB_ne l1]
      rw [e2]
      exact k
/-! ### a bad row -/
def spBad : Sp := fun vs H Q _ => ∃ z w, vs = [.str (S z), .int w] ∧ z.length ≤ 1000 ∧ ∀ H', Same H H' → Q (.bl (!okB w z)) H'
abbrev nBad : List Str := ["row", "width", "sign"]
theorem scBad : FnScope nBad ["row", "width"] (defScope gIsBadRow) := ⟨rfl, rfl, rfl, by decide +kernel, rfl, by decide +kernel, by decide +kernel⟩
theorem all_good (z : List Nat) : (z.map fun c => goodB [c]).all id = z.all fun c => decide (Good c) := by
  rw [List.all_map]
  rfl
theorem ok_bad {f g : Addr} {fd gd : FuncData} (F : Fun K "_is_bad_row" "_is_bad_row" gIsBadRow f fd) (G : Cl P w K mg base CX0 2 "is_stone_or_hole" ["sign"] spSoh g gd) (L : LTxt K mg) (T : PTxt K mg C) : FnOk P w K mg base CX0 3 f fd ["row", "width"] spBad := by
  refine F.ok scBad (fun vs H Q E h => ?_) (fun cdv A outer s H vs Q E hr h => ?_)
  · obtain ⟨z, w, rfl, _⟩ := h
    rfl
  · obtain ⟨z, w, rfl, few, k⟩ := h
    obtain ⟨um, hm, rm⟩ := T.most
    refine ⟨_, pss_cons (ps_if (PW.pt (pw_or (pt_not (pt_chain op_le op_le pe_int (pe_callB call_len_str (by rfl) L.len PySem.boot_len (pa_cons (pv 0) pa_nil)) (pe_glob (by rfl) hm rm))) (pw_or1 (pt_cmpR op_ne (pe_callB call_len_str (by rfl) L.len PySem.boot_len (pa_cons (pv 0) pa_nil)) (pv 1) (nomark _))))) (pss_one (ps_ret pe_bl)) pss_nil)
      (pss_one (ps_ret (pe_not (pe_callB (cr_all rfl) (by rfl) T.all (by decide +kernel) (pa_cons (pe_lc (own := [("sign", 2)]) (g := gName 2) (tt := tYes) rfl scBad.nd (pi_str (pv 0)) (blkOk_by (N := nBad) (sc := defScope gIsBadRow) (by decide +kernel)) (fun _ _ _ _ _ => pg_name (i := 2) scBad.nd rfl (.inl rfl)) (fun _ _ _ _ _ => pts_nil)
        (fun _ _ _ _ _ => pe_call G.ok hr (by rfl) G.gl G.kp G.bd .nil pass0 (pa_cons (pv 2) pa_nil))) pa_nil))))), ?_⟩
    have line : (S z).length ≤ sizeLine := by rw [len_S]; exact small_line few
    have body : okB w z = (z.all fun c => decide (Good c)) → ∀ H1, Same H H1 → Q (.bl (!(z.all fun c => decide (Good c)))) H1 := fun e H1 s1 => by
      rw [← e]
      exact k H1 s1
    -- what stands behind the test, where it does not hold
    have go : (1 ≤ z.length ∧ z.length ≤ 8 ∧ (z.length : Int) = w) → okB w z = (z.all fun c => decide (Good c)) := fun ⟨a, b, c⟩ => by
      unfold okB
      rw [decide_eq_true a, decide_eq_true b, decide_eq_true c]
      rfl
    have no : ¬ (1 ≤ z.length ∧ z.length ≤ 8 ∧ (z.length : Int) = w) → okB w z = false := fun y => by
      unfold okB
      by_cases a : 1 ≤ z.length
      · by_cases b : z.length ≤ 8
        · by_cases c : (z.length : Int) = w
          · exact absurd ⟨a, b, c⟩ y
          · rw [decide_eq_false c, Bool.and_false]
            rfl
        · rw [decide_eq_false b, Bool.and_false]
          rfl
      · rw [decide_eq_false a]
        rfl
    have yes : ¬ (1 ≤ z.length ∧ z.length ≤ 8 ∧ (z.length : Int) = w) → Q (.bl true) H := fun y => by
      have q := k H (Same.refl H)
      rw [no y] at q
      exact q
    refine ⟨_, rfl, _, rfl, line, _, _, rfl, rfl, _, rfl, ite2 (fun a => ?_) (fun a => ?_)⟩
    · have a1 : 1 ≤ z.length := by
        have y := of_decide_eq_true a
        rw [len_S] at y
        omega
      refine ⟨_, _, rfl, rfl, _, rfl, ?_⟩
      by_cases b : z.length ≤ 8
      · refine iteFe (by rw [len_S]; simp; omega) ⟨_, rfl, _, rfl, line, _, rfl, rfl, _, rfl, ?_⟩
        by_cases c : (z.length : Int) = w
        · refine iteFe (by rw [len_S]; simp [c]) ⟨_, rfl, _, rfl, fun D nD => lc_it walk_str (fun i G => Same H G ∧ G D = some (.lst (((z.take i).map fun c => goodB [c]).map V.bl))) ⟨same_upd nD, upd_same⟩ (fun _ _ _ _ => trivial) ?_ ?_⟩
          · rintro i x G G' hi ⟨sG, hD⟩ ⟨rfl, d, gd, rfl⟩
            have gd2 : z[i]? = some d := by
              have y : z.toArray[i]? = some d := gd
              rwa [List.getElem?_toArray] at y
            refine ⟨rfl, tyes (iteT ⟨_, rfl, [d], rfl, (show 1 ≤ 1000 by decide), _, hD, ?_, ?_, ?_⟩)⟩
            · rw [List.length_map, List.length_map, List.length_take]
              exact small1000 (by omega)
            · exact fun b o e => by
                rw [upd_ne (ne_of_none e nD)]
                exact sG b o e
            · rw [upd_same, List.take_add_one, gd2]
              simp
          · rintro G ⟨sG, hD⟩
            have e1 : (S z).cps.size = z.length := by simp
            rw [e1, List.take_of_length_le (Nat.le_refl _)] at hD
            refine ⟨D, _, rfl, SqL.of hD, _, rfl, ?_⟩
            rw [all_good]
            exact body (go ⟨a1, b, c⟩) G sG
        · exact iteTe (by rw [len_S]; simp [c]) (yes fun y => c y.2.2)
      · exact iteTe (by rw [len_S]; simp; omega) (iteT (yes fun y => b y.2.1))
    · refine ⟨_, rfl, iteT (iteT (yes fun y => a (decide_eq_true ?_)))⟩
      rw [len_S]
      have := y.1
      omega
/-! ### the first bad line -/
def spLine : Sp := fun vs H Q _ => ∃ a R, vs = [.ref a] ∧ H a = some (.lst (rowsV R)) ∧ R.length ≤ 1000 ∧ (∀ r ∈ R, r.length ≤ 1000) ∧ ∀ H', Same H H' → Q (.int (lineOf R)) H'
theorem scLine : FnScope ["rows", "line", "row"] ["rows"] (defScope gBadLine) := ⟨rfl, rfl, rfl, by decide +kernel, rfl, by decide +kernel, by decide +kernel⟩
theorem walkS {K : PySem.W.Frag} {a : Addr} {xs : List V} : Walk (ItS K a) xs.length (fun H => SqL K H a xs) (fun i H v H' => ∃ T x, v = .ref T ∧ H T = none ∧ H' = upd H T (.tup [.int ((i : Int) + 1), x]) ∧ xs[i]? = some x) :=
  ⟨fun i H hi h => ⟨xs, xs[i], h, List.getElem?_eq_getElem hi⟩, fun H h => ⟨xs, h, rfl⟩, fun i H v H' _ h ⟨T, x, a, b, c, d⟩ => ⟨T, x, a, b, c, d xs h⟩⟩
theorem row0 (r : List Nat) (R : Rows) : atI (rowsV (r :: R)) 0 = some (.str (S r)) := atI_nat (j := 0) (by rfl)
theorem rowsV_at {R : Rows} {i : Nat} {x : V} (h : (rowsV R)[i]? = some x) : ∃ r, R[i]? = some r ∧ x = .str (S r) := by
  unfold rowsV at h
  rw [List.getElem?_map] at h
  cases e : R[i]? with
  | none =>
    rw [e] at h
    cases h
  | some r =>
    rw [e] at h
    cases h
    exact ⟨r, rfl, rfl⟩
theorem lineOf_cons {r : List Nat} {R : Rows} : lineOf (r :: R) = match ((r :: R).take 8).findIdx? (fun z => !okB (r.length : Int) z) with
    | some i => (i : Int) + 1
    | none => if 8 < (r :: R).length then 9 else 0 := rfl
theorem find_some {p : List Nat → Bool} : ∀ {l : Rows} {i : Nat} {z : List Nat}, l[i]? = some z → p z = true → (∀ j y, j < i → l[j]? = some y → p y = false) → l.findIdx? p = some i
  | [], i, z, h, _, _ => by simp at h
  | y :: l, 0, z, h, hz, _ => by
    have e : y = z := by simpa using h
    subst e
    rw [List.findIdx?_cons, hz]
    rfl
  | y :: l, i + 1, z, h, hz, hp => by
    have e := find_some (l := l) (i := i) (z := z) (by simpa using h) hz fun j x hj hx => hp (j + 1) x (by omega) (by simpa using hx)
    rw [List.findIdx?_cons, hp 0 y (by omega) rfl, e]
    rfl
theorem find_none {p : List Nat → Bool} {l : Rows} (h : ∀ (j : Nat) (y : List Nat), l[j]? = some y → p y = false) : l.findIdx? p = none := by
  rw [List.findIdx?_eq_none_iff]
  intro x hx
  obtain ⟨j, hj⟩ := List.mem_iff_getElem?.mp hx
  exact h j x hj
theorem ok_line {f g : Addr} {fd gd : FuncData} (F : Fun K "_bad_line" "_bad_line" gBadLine f fd) (G : Cl P w K mg base CX0 3 "_is_bad_row" ["row", "width"] spBad g gd) (L : LTxt K mg) (T : PTxt K mg C) : FnOk P w K mg base CX0 4 f fd ["rows"] spLine := by
  refine F.ok scLine (fun vs H Q E h => ?_) (fun cdv A outer s H vs Q E hr h => ?_)
  · obtain ⟨a, R, rfl, _⟩ := h
    rfl
  · obtain ⟨a, R, rfl, ha, few, each, k⟩ := h
    obtain ⟨um, hm, rm⟩ := T.most
    refine ⟨_, pss_cons (ps_if (pt_not (pt_truth (pv 0) (fun _ => rfl))) (pss_one (ps_ret pe_int)) pss_nil)
      (pss_cons (ps_for PassesOwn.never rfl (pi_enumS (by rfl) T.enum (pa_cons (pe_slice sl_list (pv 0) po_none (po_some (pe_glob (by rfl) hm rm))) pa_nil) (pk_cons pe_int pk_nil)) (pg_tup rfl (pgs_cons (pg_name (i := 1) scLine.nd rfl (.inl rfl)) (pgs_cons (pg_name (i := 2) scLine.nd rfl (.inl rfl)) pgs_nil)))
        (pss_one (ps_if (pt_val (pe_call G.ok hr (by rfl) G.gl G.kp G.bd .nil pass0 (pa_cons (pv 2) (pa_cons (pe_callB call_len_str (by rfl) L.len PySem.boot_len (pa_cons (pe_ix ix_list (pv 0) pe_int (fun _ _ => rfl)) pa_nil)) pa_nil)))) (pss_one (ps_ret (pv 1))) pss_nil)))
      (pss_one (ps_ret (pe_ifExp (pt_cmpR op_gt (pe_callB call_len_seq (by rfl) L.len PySem.boot_len (pa_cons (pv 0) pa_nil)) (pe_glob (by rfl) hm rm) (nomark _)) (pe_op op_add (pe_glob (by rfl) hm rm) pe_int) pe_int)))), ?_⟩
    match R, ha, few, each, k with
    | [], ha, few, each, k =>
      exact ⟨_, rfl, _, .inl ⟨_, SqL.of ha, rfl⟩, iteT (k H (Same.refl H))⟩
    | r :: R, ha, few, each, k =>
      refine ⟨_, rfl, _, .inl ⟨_, SqL.of ha, rfl⟩, iteF ?_⟩
      refine ⟨_, rfl, _, rfl, a, _, rfl, SqL.of ha, fun p np => ?_⟩
      have e8 : cutV (rowsV (r :: R)) none (some 8) = rowsV ((r :: R).take 8) := by
        rw [show (some 8 : Option Int) = some ((8 : Nat) : Int) from rfl, cut_to]
        exact (List.map_take).symm
      rw [e8]
      have s1 := same_upd (o := .lst (rowsV ((r :: R).take 8))) np
      have hp : (upd H p (.lst (rowsV ((r :: R).take 8)))) p = some (.lst (rowsV ((r :: R).take 8))) := upd_same
      generalize upd H p (.lst (rowsV ((r :: R).take 8))) = H1 at s1 hp
      refine ⟨p, _, rfl, rfl, SqL.of hp, for_it walkS (fun i σ G => ∃ y z, σ = [some (.ref a), y, z] ∧ Same H1 G ∧ ∀ j x, j < i → ((r :: R).take 8)[j]? = some x → okB (r.length : Int) x = true) ⟨_, _, rfl, Same.refl _, fun j x hj => absurd hj (by omega)⟩ (fun i σ G _ ⟨_, _, _, sG, _⟩ => SqL.of (sG _ _ hp)) ?_ ?_⟩
      · rintro i x σ G G' hi ⟨y, z, rfl, sG, ok⟩ ⟨T1, x1, rfl, nT, rfl, gx⟩
        obtain ⟨q, gq, rfl⟩ := rowsV_at gx
        have s2 := sG.trans (same_upd (o := .tup [.int ((i : Int) + 1), .str (S q)]) nT)
        refine ⟨T1, _, rfl, SqT.of upd_same, rfl, _, _, rfl, _, _, rfl, rfl, ?_⟩
        have mq : q ∈ r :: R := List.mem_of_mem_take (List.mem_of_getElem? gq)
        refine ⟨_, rfl, _, rfl, a, _, 0, _, rfl, rfl, SqL.of (s2 _ _ (s1 _ _ ha)), row0 r R, _, rfl, by rw [len_S]; exact small_line (each r List.mem_cons_self), q, _, rfl, each q mq, fun G2 sg => ⟨_, rfl, ?_⟩⟩
        rw [len_S]
        by_cases b : okB (r.length : Int) q = true
        · rw [b]
          refine iteF ⟨_, _, rfl, s2.trans sg, fun j x hj hx => ?_⟩
          rcases Nat.lt_succ_iff_lt_or_eq.mp hj with z | z
          · exact ok j x z hx
          · rw [z, gq] at hx
            cases hx
            exact b
        · have b : okB (r.length : Int) q = false := by simpa using b
          rw [b]
          refine iteT ⟨_, rfl, ?_⟩
          have e : lineOf (r :: R) = (i : Int) + 1 := by
            rw [lineOf_cons, find_some gq (by rw [b]; rfl) fun j y hj hy => by rw [ok j y hj hy]; rfl]
          have q2 := k G2 (s1.trans (s2.trans sg))
          rw [e] at q2
          exact q2
      · rintro σ G ⟨y, z, rfl, sG, ok⟩
        have e : lineOf (r :: R) = if 8 < (r :: R).length then 9 else 0 := by
          rw [lineOf_cons, find_none fun j y hy => by
            rw [ok j y ?_ hy]
            · rfl
            · rw [rowsV_len]
              rcases List.getElem?_eq_some_iff.mp hy with ⟨h1, _⟩
              exact h1]
        have q2 := k G (s1.trans sG)
        rw [e] at q2
        refine ⟨_, rfl, a, _, rfl, .inl (SqL.of (sG _ _ (s1 _ _ ha))), _, _, rfl, rfl, _, rfl, ?_⟩
        rw [rowsV_len]
        by_cases b : 8 < (r :: R).length
        · rw [if_pos b] at q2
          exact iteTe (decide_eq_true (by omega)) ⟨_, _, rfl, rfl, q2⟩
        · rw [if_neg b] at q2
          exact iteFe (decide_eq_false (by omega)) q2
end
end Pm
namespace Pm
open PySem PySem.Spec PyProof.Rows L2 SX
/-! ### errors that are raised with fields of their own -/
/-- an error class at C that may be raised: its __init__ at f keeps sp -/
structure EMk (P : Program) (w : World) (K : PySem.W.Frag) (mg : Str → Option Value) (base : Heap) (C : Addr) (name : Str) (ps : List Str) (sp : Sp) (f : Addr) (fd : FuncData) : Prop where
  T : OexC K C
  at_ : PySem.W.findIn K (.ref C) "__init__" = some (some (.ref f))
  ty : PySem.W.typeIn K (.ref f) = some (.type "function")
  ok : FnOk P w K mg base CX0 1 f fd ps sp
  bd : Binds K fd ps []
  gl : mg name = some (.ref C)
def spE1 (C : Addr) (n : Str) : Sp := fun vs H Q _ => ∃ a v, vs = [.ref a, v] ∧ H a = some (exo a C none) ∧ ∀ H' d, H' a = some (exo a C (some d)) → H' d = some (exd d [(n, v)]) → H d = none → d ≠ a → SameBut a H H' → Q .non H'
def spE2 (C : Addr) : Sp := fun vs H Q _ => ∃ a v u, vs = [.ref a, v, u] ∧ H a = some (exo a C none) ∧ ∀ H' d, H' a = some (exo a C (some d)) → H' d = some (exd d [("y", u), ("x", v)]) → H d = none → d ≠ a → SameBut a H H' → Q .non H'
/-- what was there stands when the error is on its way -/
theorem on_way {H H2 : Hp} {a d : Addr} {o : HO} {fs : List (Str × V)} (n : H a = none) (nd : (upd H a o) d = none) (ne : d ≠ a) (s : SameBut a (upd H a o) H2) : Same H (upd (del H2 a) d (.xd fs)) := fun b u e => by
  have nba : b ≠ a := ne_of_none e n
  have nbd : b ≠ d := fun z => by
    rw [z] at e
    rw [upd_ne ne, e] at nd
    cases nd
  rw [upd_ne nbd, del_ne nba]
  exact s b u nba (by rw [upd_ne nba]; exact e)
theorem passF {X : Cx} : Passes (L2.CX X.prog X.w) X E0 := fun _ _ _ _ _ _ _ c => by
  obtain ⟨_, _, _, _, _, _, _, _, _, _, _, _, z⟩ := c
  exact z.elim
/-- an error of the class at C with the fields fs is let out -/
def Lets (E : XK) (C : Addr) (fs : List (Str × V)) (H : Hp) : Prop := ∀ d H', H d = none → H' d = some (.xd fs) → Same H H' → E (.ref C) (some d) H'
/-! ### the error that a suite holds -/
structure ErrC (K : PySem.W.Frag) (D : Addr) : Prop where
  cl : (PySem.W.clsIn K D).isSome = true
  hg : PySem.W.findIn K (.ref D) "__getattribute__" = some (some (.builtin "BaseException.__getattribute__"))
  hk : PySem.W.findIn K (.ref D) "__getattr__" = some none
  hs : PySem.W.subIn K (.ref D) (.type "BaseException") = some true
  ha : PySem.W.findIn K (.ref D) "__class__" = some (some (.builtin "object.__class__"))
  hn : PySem.W.specialIn K (.builtin "object.__class__") "__get__" = some (some (.builtin "getset_descriptor.__get__"))
  ht : PySem.W.takesIn K (.builtin "object.__class__") = some true
  hm : PySem.W.mroIn K D (.type "object") = some true
  hd : PySem.W.hasDictIn K D = true
theorem ErrC.xf {K : PySem.W.Frag} {D : Addr} (C : ErrC K D) : XfC K D := ⟨C.hg, C.hk, C.hs, C.hd⟩
/-- isinstance(e, c), e the error that the suite holds at a, its class cls, its dict d -/
def rIsX (K : PySem.W.Frag) (a : Addr) (cls : Value) (d : Option Addr) : List V → Hp → VK → Prop := fun xs H Q => ∃ (D dd : Addr) (fs : List (Str × V)) (c : V) (cv : Value) (b : Bool),
  xs = [.ref a, c] ∧ cls = .ref D ∧ d = some dd ∧ ErrC K D ∧ H dd = some (.xd fs) ∧ (∀ u, RelV c u → u = cv) ∧ PySem.W.kitOne K (.ref D) cv = some b ∧ Q (.bl b) H
theorem call_isX {X : Cx} {a : Addr} {cls : Value} {d : Option Addr} {oe : Obj} {pn : List (Addr × Obj)} (hz : Zc cls d oe) (hf : ∃ vs, oe.data = .fields vs) : CallR (X.suite a ((a, oe) :: pn)) (.builtin "isinstance") (rIsX X.K a cls d) := by
  intro pins s σ H xs us Q I r h
  obtain ⟨D, dd, fs, c, cv, b, rfl, rfl, rfl, C, hdd, hcv, e, q⟩ := h
  match r with
  | .cons rx (.cons rt .nil) =>
    cases rx
    cases hcv _ rt
    obtain ⟨at_, _⟩ := I.pin (a, oe) (List.mem_append_left _ List.mem_cons_self)
    obtain ⟨vs, hd⟩ := hf
    have own : ObjOk X.prog X.w H s.heap dd (.xd fs) := I.hok dd _ hdd
    obtain ⟨mA, hns, _⟩ := own
    obtain ⟨od, ho, _⟩ := lookIn_ns hns
    have J : PySem.W.InstAt s.heap a oe D (some od) := ⟨at_, hz.1, by unfold PySem.W.notCls; rw [hd] <;> rfl, by rw [hz.2]; exact ho⟩
    exact PySem.W.kia_one (PySem.W.kitx_exc C.cl C.hg C.hk C.hs C.ha C.hn C.ht C.hm) I.kIn J e (fun z => nomatch z) fun tk => ⟨.bl b, H, I.kept (t' := tk) fun _ _ z => z, rfl, q⟩
/-- e.f of that error, whatever its class -/
def tErrX (K : PySem.W.Frag) (a : Addr) (cls : Value) (d : Option Addr) (f : Str) (te : TE) : TE := fun σ H Q => te σ H fun x H1 => ∃ (D dd : Addr) (fs : List (Str × V)) (v : V), x = .ref a ∧ cls = .ref D ∧ d = some dd ∧ ErrC K D ∧ PySem.W.findIn K (.ref D) f = some none ∧ H1 dd = some (.xd fs) ∧ fs.lookup f = some v ∧ Q v H1
theorem pe_errX {X : Cx} {a : Addr} {oe : Obj} {cls : Value} {d : Option Addr} {pn : List (Addr × Obj)} {e : Expr} {te : TE} {pos : Pos} {n : Str} (hz : Zc cls d oe) (hf : ∃ vs, oe.data = .fields vs) (he : PE (X.suite a ((a, oe) :: pn)) e te)
    (hb : attributeBase e n X.env (eval e X.env) = eval e X.env := by rfl) : PE (X.suite a ((a, oe) :: pn)) (.Attribute e n pos) (tErrX X.K a cls d n te) := by
  refine ⟨fun pins s σ H Q I h => attr_of hb (thn (he.run pins s σ H _ I h) fun u s1 ⟨x, H1, I1, rx, D, dd, fs, v, ex, ec, ed, C, hno, hdd, l, q⟩ => ?_)⟩
  subst ex ec ed
  obtain rfl : u = Value.ref a := rx
  obtain ⟨at_, _⟩ := I1.pin (a, oe) (List.mem_append_left _ List.mem_cons_self)
  obtain ⟨vs, hd⟩ := hf
  have own : ObjOk X.prog X.w H1 s1.heap dd (.xd fs) := I1.hok dd _ hdd
  obtain ⟨mA, hns, rel⟩ := own
  obtain ⟨od, ho, hl⟩ := lookIn_ns hns
  have rl := rel n
  rw [l] at rl
  obtain ⟨u, hu, ru⟩ := RelO.some_of (v := v) (o := mA n) rl
  have J : PySem.W.InstAt s1.heap a oe D (some od) := ⟨at_, hz.1, by unfold PySem.W.notCls; rw [hd] <;> rfl, by rw [hz.2]; exact ho⟩
  exact HandSPX.exc_get I1.kIn J C.hg C.hk C.hs (PySem.W.findObj_own C.hd hno rfl (by rw [hl, hu])) (handed_of ru) ⟨v, H1, I1.tok _, ru, q⟩
end Pm
namespace Pm
open PySem PySem.Spec PyProof.Rows L2 SX
section
variable {P : Program} {w : World} {K : PySem.W.Frag} {mg : Str → Option Value} {base : Heap} {C CI : Addr}
theorem scEInvalidPicture : FnScope ["self", "line"] ["self", "line"] (defScope cInvalidPictureInit) := ⟨rfl, rfl, rfl, by decide +kernel, rfl, by decide +kernel, by decide +kernel⟩
theorem okEInvalidPicture {f C : Addr} {fd : FuncData} (F : Fun K "__init__" "InvalidPicture.__init__" cInvalidPictureInit f fd) (T : OexC K C) (nx : PySem.W.findIn K (.ref C) "line" = some none) : FnOk P w K mg base CX0 1 f fd ["self", "line"] (spE1 C "line") := by
  refine F.ok scEInvalidPicture (fun vs H Q E h => ?_) (fun cdv A outer s H vs Q E hr h => ?_)
  · obtain ⟨a, v, rfl, _⟩ := h
    rfl
  · obtain ⟨a, v, rfl, ha, k⟩ := h
    refine ⟨_, pss_one (ps_ost (pv 0) (pv 1)), ?_⟩
    refine ⟨_, rfl, _, rfl, a, C, rfl, T, nx, .inl ⟨ha, fun dx nd ne => ?_⟩⟩
    refine k _ dx upd_same (by rw [upd_ne ne, upd_same]) nd ne fun b o nb e => ?_
    rw [upd_ne nb, upd_ne (ne_of_none e nd)]
    exact e
/-! ### a picture -/
def wideOf (R : Rows) : Int := ((R.headD []).length : Int)
def PicAt (C : Addr) (H : Hp) (r : Addr) (R : Rows) : Prop := ∃ dx l, H r = some (.ins C dx [("_rows", .ref l), ("width", .int (wideOf R)), ("height", .int (R.length : Int))]) ∧ H l = some (.lst (rowsV R))
structure PCls (K : PySem.W.Frag) (C : Addr) : Prop where
  cl : L2.Cls K C
  nR : NoAttr K C "_rows"
  nW : NoAttr K C "width"
  nH : NoAttr K C "height"
def spInit (C CI : Addr) : Sp := fun vs H Q E => ∃ r dx a R, vs = [.ref r, .ref a] ∧ H r = some (.ins C dx []) ∧ H a = some (.lst (rowsV R)) ∧ R.length ≤ 1000 ∧ (∀ z ∈ R, z.length ≤ 1000) ∧
  (0 < lineOf R → Lets E CI [("line", .int (lineOf R))] H) ∧ (lineOf R = 0 → ∀ H', PicAt C H' r R → SameBut r H H' → Q .non H')
theorem lineOf_nonneg (R : Rows) : 0 ≤ lineOf R := by
  match R with
  | [] => exact Int.le_of_lt (by decide)
  | r :: R =>
    rw [lineOf_cons]
    split
    · exact Int.add_nonneg (Int.natCast_nonneg _) (by decide)
    · split <;> decide
theorem scInit : FnScope ["self", "rows", "line"] ["self", "rows"] (defScope cPictureInit) := ⟨rfl, rfl, rfl, by decide +kernel, rfl, by decide +kernel, by decide +kernel⟩
theorem ok_init {f g e : Addr} {fd gd ed : FuncData} (F : Fun K "__init__" "Picture.__init__" cPictureInit f fd) (G : Cl P w K mg base CX0 4 "_bad_line" ["rows"] spLine g gd) (Ex : EMk P w K mg base CI "InvalidPicture" ["self", "line"] (spE1 CI "line") e ed) (L : LTxt K mg) (T : PCls K C) :
    FnOk P w K mg base (L2.CX P w) 5 f fd ["self", "rows"] (spInit C CI) := by
  refine F.okX scInit (fun vs H Q E h => ?_) (fun cdv A outer s H vs Q E hr h => ?_)
  · obtain ⟨r, dx, a, R, rfl, _⟩ := h
    rfl
  · obtain ⟨r, dx, a, R, rfl, hR, ha, few, each, bad, good⟩ := h
    refine ⟨_, pss_cons (ps_set (i := 2) scInit.nd rfl (.inl rfl) (pe_call G.ok hr (by rfl) G.gl G.kp G.bd .nil pass0 (pa_cons (pv 1) pa_nil)))
      (pss_cons (ps_if (pt_cmpR op_gt (pv 2) pe_int (nomark _)) (pss_one (ps_raise rfl (takes_of rfl rfl rfl rfl) (pmk_oex Ex.T Ex.at_ Ex.ty Ex.ok (hr.mono (by decide)) Ex.bd .nil pass0 (by rfl) Ex.gl (pa_cons (pv 2) pa_nil)))) pss_nil)
      (pss_cons (ps_fld (pv 0) (pe_callTy call_list_of (by rfl) L.lst (by decide +kernel) (pa_cons (pv 1) pa_nil)) rfl)
      (pss_cons (ps_fld (pv 0) (pe_callB call_len_str (by rfl) L.len PySem.boot_len (pa_cons (pe_ix ix_list (pv 1) pe_int (fun _ _ => rfl)) pa_nil)) rfl)
      (pss_one (ps_fld (pv 0) (pe_callB call_len_seq (by rfl) L.len PySem.boot_len (pa_cons (pv 1) pa_nil)) rfl))))), ?_⟩
    refine ⟨_, rfl, a, R, rfl, ha, few, each, fun H1 s1 => ?_⟩
    refine ⟨_, rfl, _, _, rfl, rfl, _, rfl, ite2 (fun p => ?_) (fun p => ?_)⟩
    · have pos : 0 < lineOf R := of_decide_eq_true p
      refine ⟨_, rfl, by show 1 ≤ 1000; decide, fun x nx => ⟨x, _, rfl, upd_same, fun H2 d h1 h2 nd ne sb => ⟨rfl, d, _, h1, h2, ?_, ?_⟩⟩⟩
      · rwa [upd_ne ne] at nd
      · have nd1 : H1 d = none := by rwa [upd_ne ne] at nd
        exact bad pos d _ (back s1 nd1) upd_same (s1.trans (on_way nx nd ne sb))
    · have zero : lineOf R = 0 := by
        have y := lineOf_nonneg R
        have z : ¬ 0 < lineOf R := fun y => p (decide_eq_true y)
        omega
      match R, ha, few, each, bad, good, zero with
      | q :: R, ha, few, each, bad, good, zero =>
        refine ⟨_, rfl, a, _, rfl, .inl (SqL.of (s1 _ _ ha)), fun l nl => ⟨_, rfl, r, C, dx, [], rfl, same_upd nl _ _ (s1 _ _ hR), T.cl, T.nR, by show 0 < 1000; decide, ?_⟩⟩
        have nra : a ≠ r := ne_of (s1 _ _ ha) (s1 _ _ hR) (by intro z; cases z)
        have nlr : l ≠ r := Ne.symm (ne_of_none (s1 _ _ hR) nl)
        have nla : l ≠ a := Ne.symm (ne_of_none (s1 _ _ ha) nl)
        refine ⟨_, rfl, a, _, 0, _, rfl, rfl, SqL.of (by rw [upd_ne nra, upd_ne nla.symm]; exact s1 _ _ ha), row0 q R, _, rfl, by rw [len_S]; exact small_line (each q List.mem_cons_self), _, rfl, r, C, dx, _, rfl, upd_same, T.cl, T.nW, by show 1 < 1000; decide, ?_⟩
        refine ⟨_, rfl, a, _, rfl, .inl (SqL.of (by rw [upd_ne nra, upd_ne nra, upd_ne nla.symm]; exact s1 _ _ ha)), _, rfl, r, C, dx, _, rfl, upd_same, T.cl, T.nH, by show 2 < 1000; decide, ?_⟩
        refine good zero _ ⟨dx, l, ?_, ?_⟩ fun b o nb e => ?_
        · rw [upd_same, rowsV_len, len_S]
          rfl
        · rw [upd_ne nlr, upd_ne nlr, upd_ne nlr]
          exact upd_same
        · rw [upd_ne nb, upd_ne nb, upd_ne nb]
          exact same_upd nl _ _ (s1 _ _ e)
end
end Pm
namespace Pm
open PySem PySem.Spec PyProof.Rows L2 SX
/-! ### calls whose errors are wished for at the caller's slots -/
section
variable {X : Cx} {CXf : CXT} {k : Nat} {f C : Addr} {fd : FuncData} {ps : List Str} {sp : Sp} {E : L2.St → XK} {x m : Str} {p pos apos : Pos} {e o : Expr} {es : List Expr} {ta : TE} {t : TA} {pins : List (Addr × Obj)} {σ : L2.St} {H : Hp} {s : Shared} {Q : VK} {us : List Value} {vs : List V}
/-- how a callee's end is taken -/
theorem end_of {r : Result} {s' : Shared} (I : L2.Inv X pins σ H s) (hx : PassesAt CXf X σ (E σ)) (h : match r with | .ok (.ret v) => EP X pins σ Q v s' | .ok _ => False | .error er => CXf X.stack H s (E σ) er s') :
    match r with | .ok (.ret v) => EP X pins σ Q v s' | .ok _ => False | .error er => X.xe er s' := by
  cases r with
  | error er => exact hx pins H s er s' I h
  | ok fl =>
    cases fl with
    | ret u => exact h
    | next => exact h
    | brk => exact h
    | cont => exact h
theorem make_runS (M : Mk X.K C f) (F : FnOk X.prog X.w X.K X.mg X.base CXf k f fd ps sp) (hr : Room (k + 1) X.A) (hb : Binds X.K fd ps []) (hx : PassesAt CXf X σ (E σ)) (I : L2.Inv X pins σ H s) (rv : Vals vs us)
    (h : ∀ x dx, H x = none → H dx = none → dx ≠ x → sp (.ref x :: vs) (upd (upd H dx (.own x)) x (.ins C dx [])) (fun v H2 => v = .non ∧ Q (.ref x) H2) (E σ)) : wpAny (model X.prog X.w) X.A (call (.ref C) us) (EP X pins σ Q) X.xe s := by
  have big : s.heap.objs.size ≤ s.heap.objs.size + 1 := Nat.le_succ _
  have asked := h (s.heap.objs.size + 1) s.heap.objs.size (I.hok.fresh big) (I.hok.fresh (Nat.le_refl _)) (Nat.ne_of_lt (Nat.lt_succ_self _))
  have J := Inv.made (C := C) I
  have rs : Vals (V.ref (s.heap.objs.size + 1) :: vs) (Value.ref (s.heap.objs.size + 1) :: us) := .cons rfl rv
  have len : (Value.ref (s.heap.objs.size + 1) :: us ++ []).length = ps.length := by
    rw [List.append_nil, ← rs.length]
    exact F.len _ _ _ _ asked
  have env := J.env0.make C us []
  have bind := hb _ (Value.ref (s.heap.objs.size + 1) :: us) J.kIn len
  rw [List.append_nil] at bind
  refine wpAny_call (make_map (f := f) I.kIn M.makes M.init (beq_iff_eq.mp M.fn) (codeAny_mono (F.run _ X.stack _ _ ⟨Value.ref (s.heap.objs.size + 1) :: us, []⟩ (Value.ref (s.heap.objs.size + 1) :: us) _ _ (E σ) (hr.make C us []) env bind rs asked) fun r s' z => ?_))
  cases r with
  | error er => exact hx pins _ _ er s' J z
  | ok fl =>
    cases fl with
    | ret u =>
      obtain ⟨v, H', I3, rv3, ev, q3⟩ := J.after z
      subst ev
      exact ⟨rv3, .ref (s.heap.objs.size + 1), H', I3, rfl, q3⟩
    | next => exact z.elim
    | brk => exact z.elim
    | cont => exact z.elim
def tMakeS (C : Addr) (sp : Sp) (E : L2.St → XK) (t : TA) : TE := fun σ H Q => t σ H fun vs H1 => ∀ x dx, H1 x = none → H1 dx = none → dx ≠ x → sp (.ref x :: vs) (upd (upd H1 dx (.own x)) x (.ins C dx [])) (fun v H2 => v = .non ∧ Q (.ref x) H2) (E σ)
/-- C(e, ..), C a name of the module -/
theorem pe_makeS (M : Mk X.K C f) (F : FnOk X.prog X.w X.K X.mg X.base CXf k f fd ps sp) (hr : Room (k + 1) X.A) (hg : Gl X x) (hm : X.mg x = some (.ref C)) (hb : Binds X.K fd ps []) (hx : ∀ σ, PassesAt CXf X σ (E σ)) (ha : PA X (e :: es) t)
    (dbg : (x == ("__debug__" : Str)) = false := by decide) (st : starEach (e :: es) X.env = (false, eval e X.env) :: starEach es X.env := by rfl) (pl : (backTo pos (starEach es X.env)).any (·.1) = false := by rfl) :
    PE X (.Call (.Name x p) (e :: es) [] pos) (tMakeS C sp E t) := by
  refine ⟨fun pins s σ H Q I h => wpAny_Call_Name_kw (ld_glob I hg hm ?_ dbg)⟩
  refine PySem.W.callWith_K (h₀ := X.base) I.ok.mod.kin M.kp (thn (ha.run pos pins s σ H _ I h) fun us s1 ⟨vs, H1, I1, rv, q⟩ => ⟨I1.kIn, ?_⟩) st pl
  exact make_runS M F hr hb (hx σ) I1 rv q
def tMakeV (i : Nat) (C : Addr) (sp : Sp) (E : L2.St → XK) (t : TA) : TE := fun σ H Q => σ[i]? = some (some (.ref C)) ∧ tMakeS C sp E t σ H Q
/-- c(e, ..), the class at C in slot i -/
theorem pe_makeV {i : Nat} (M : Mk X.K C f) (F : FnOk X.prog X.w X.K X.mg X.base CXf k f fd ps sp) (hr : Room (k + 1) X.A) (hN : X.N[i]? = some x) (hv : Vis X.env.scope x) (hb : Binds X.K fd ps []) (hx : ∀ σ, PassesAt CXf X σ (E σ)) (ha : PA X (e :: es) t)
    (dbg : (x == ("__debug__" : Str)) = false := by decide) (hcd : (x == ("__classdict__" : Str)) = false := by decide) (st : starEach (e :: es) X.env = (false, eval e X.env) :: starEach es X.env := by rfl) (pl : (backTo pos (starEach es X.env)).any (·.1) = false := by rfl) :
    PE X (.Call (.Name x p) (e :: es) [] pos) (tMakeV i C sp E t) := by
  refine ⟨fun pins s σ H Q I ⟨hs, h⟩ => ?_⟩
  refine wpAny_Call_Name_kw (thn ((pe_var (pos := p) hN hv dbg hcd).run pins s σ H (fun v H1 => v = .ref C ∧ H1 = H) I ⟨.ref C, hs, rfl, rfl⟩) fun u s0 ⟨v, H0, I0, r0, ev, eh⟩ => ?_)
  subst ev eh
  obtain rfl : u = Value.ref C := r0
  refine PySem.W.callWith_K (h₀ := X.base) I.ok.mod.kin M.kp (thn (ha.run pos pins s0 σ _ _ I0 h) fun us s1 ⟨vs, H1, I1, rv, q⟩ => ⟨I1.kIn, ?_⟩) st pl
  exact make_runS M F hr hb (hx σ) I1 rv q
def tMethE (C : Addr) (m : Str) (sp : Sp) (E : L2.St → XK) (ta : TE) (t : TA) : TE := fun σ H Q => ta σ H fun x H1 => ∃ a dx fs, x = .ref a ∧ H1 a = some (.ins C dx fs) ∧ fs.lookup m = none ∧ t σ H1 fun vs H2 => sp (x :: vs) H2 Q (E σ)
/-- o.m(e, ..) -/
theorem pe_methE {pl : Sem Bool} (he : PE X o ta) (c : L2.Cls X.K C) (hm : Meth X.K C m f) (F : FnOk X.prog X.w X.K X.mg X.base CXf k f fd ps sp) (hr : Room k X.A) (hb : Binds X.K fd ps []) (hx : ∀ σ, PassesAt CXf X σ (E σ)) (ha : PA X (e :: es) t)
    (st : starEach (e :: es) X.env = (false, eval e X.env) :: starEach es X.env := by rfl) (pl2 : (backTo pos (starEach es X.env)).any (·.1) = false := by rfl)
    (ht : eval (.Call (.Attribute o m apos) (e :: es) [] pos) X.env = (do
      let ov ← eval o X.env
      standAt apos.atName
      let (f, first) ← holding [ov] (getMethod ov m pl)
      callWith pos f first (backTo pos (starEach (e :: es) X.env)) (backToKw pos (keywordEach [] X.env))) := by rfl) :
    PE X (.Call (.Attribute o m apos) (e :: es) [] pos) (tMethE C m sp E ta t) := by
  refine ⟨fun pins s σ H Q I h => PySem.W.methodCall_KW (pl := pl) (thn (he.run pins s σ H _ I h) fun u s1 ⟨x, H1, I1, rx, a, dx, fs, ex, ea, l, q⟩ => ?_) ht⟩
  subst ex
  obtain rfl : u = Value.ref a := rx
  refine getmeth_ok I1 ea c hm l (PySem.W.callWith_K (first := [.ref a]) (h₀ := X.base) I.ok.mod.kin hm.kp (thn (ha.run pos pins s1 σ H1 _ I1 q) fun us s2 ⟨vs, H2, I2, rv, q2⟩ => ⟨I2.kIn, ?_⟩) st pl2)
  exact run_fnS (us := .ref a :: us) (vs := .ref a :: vs) F hr hb (hx σ) I2 (.cons rfl rv) q2
/-! ### a classmethod -/
open ClX in
def tCMethE (C : Addr) (sp : Sp) (E : L2.St → XK) (ta : TE) (t : TA) : TE := fun σ H Q => ta σ H fun x H1 => x = .ref C ∧ t σ H1 fun vs H2 => sp (.ref C :: vs) H2 Q (E σ)
open ClX in
theorem run_cmE {q g : Addr} (F : FnR X.prog X.w X.K X.mg X.base CXf k g sp) (hr : Room k X.A) (hx : PassesAt CXf X σ (E σ)) (I : L2.Inv X ((q, PySem.W.methodObj (.ref g) (.ref C)) :: pins) σ H s)
    (rv : Vals vs us) (h : sp (.ref C :: vs) H Q (E σ)) : wpAny (model X.prog X.w) X.A (call (.ref q) us) (EP X pins σ Q) X.xe s := by
  have go : wpAny (model X.prog X.w) X.A (call (.ref q) us) (EP X ((q, PySem.W.methodObj (.ref g) (.ref C)) :: pins) σ Q) X.xe s := by
    refine wpAny_call (PySem.W.method_call (pin_at I) (codeAny_mono (F X.A X.stack s H (.ref C :: us) (.ref C :: vs) Q (E σ) hr I.env0 (.cons rfl rv) h) fun r s' z => ?_))
    cases r with
    | error er => exact hx _ H s er s' I z
    | ok fl =>
      cases fl with
      | ret u => exact I.after z
      | next => exact z.elim
      | brk => exact z.elim
      | cont => exact z.elim
  exact thn go fun _ _ y => unpinE y
open ClX in
theorem pe_cmethE {g c : Addr} {mc : Value} {pl : Sem Bool} (he : PE X o ta) (r : CRead X.K C mc) (cm : CMet X.K C mc m c g) (F : FnR X.prog X.w X.K X.mg X.base CXf k g sp) (hr : Room k X.A) (hx : ∀ σ, PassesAt CXf X σ (E σ)) (ha : PA X (e :: es) t)
    (st : starEach (e :: es) X.env = (false, eval e X.env) :: starEach es X.env := by rfl) (pl2 : (backTo pos (starEach es X.env)).any (·.1) = false := by rfl)
    (ht : eval (.Call (.Attribute o m apos) (e :: es) [] pos) X.env = (do
      let ov ← eval o X.env
      standAt apos.atName
      let (f, first) ← holding [ov] (getMethod ov m pl)
      callWith pos f first (backTo pos (starEach (e :: es) X.env)) (backToKw pos (keywordEach [] X.env))) := by rfl) :
    PE X (.Call (.Attribute o m apos) (e :: es) [] pos) (tCMethE C sp E ta t) := by
  refine ⟨fun pins s σ H Q I h => PySem.W.methodCall_KW (pl := pl) (thn (he.run pins s σ H _ I h) fun u s1 ⟨x, H1, I1, rx, ex, q⟩ => ?_) ht⟩
  subst ex
  obtain rfl : u = Value.ref C := rx
  refine getmethcm_ok I1 r cm fun s2 I2 => ?_
  refine callwith_cm I2 (base_none I1 (Nat.le_refl _)) cm.fi (thn (ha.run pos _ s2 σ H1 _ I2 q) fun us s3 ⟨vs, H2, I3, rv, q2⟩ => ⟨⟨pin_at I3, I3.kIn⟩, ?_⟩) st pl2
  exact run_cmE F hr (hx σ) I3 rv q2
end
end Pm
namespace Pm
open PySem PySem.Spec PyProof.Rows L2 SX
/-! ### texts of different signs; their order -/
/-- the built-ins and constants that rules ask for besides -/
structure STxt (K : PySem.W.Frag) (mg : Str → Option Value) : Prop where
  set : mg "set" = none
  srt : mg "sorted" = none
/-- the signs in order -/
def asc (z : List Nat) : List Nat := z.mergeSort fun a b => decide (a ≤ b)
theorem asc_perm (z : List Nat) : (asc z).Perm z := List.mergeSort_perm _ _
theorem asc_le (z : List Nat) : (asc z).Pairwise (· ≤ ·) := by
  have h := List.pairwise_mergeSort (le := fun a b : Nat => decide (a ≤ b)) (fun a b c h1 h2 => decide_eq_true (Nat.le_trans (of_decide_eq_true h1) (of_decide_eq_true h2))) (fun a b => by
    rcases Nat.le_total a b with h | h
    · simp [h]
    · simp [h]) z
  exact h.imp fun e => of_decide_eq_true e
theorem two_sorted : ∀ {l m : List Nat}, l.Perm m → l.Pairwise (· ≤ ·) → m.Pairwise (· ≤ ·) → l = m
  | [], m, p, _, _ => (List.Perm.nil_eq p)
  | a :: l, [], p, _, _ => absurd p.length_eq (by simp)
  | a :: l, b :: m, p, h1, h2 => by
    have ha := List.pairwise_cons.mp h1
    have hb := List.pairwise_cons.mp h2
    have ab : a = b := by
      have m1 : a ∈ b :: m := p.mem_iff.mp List.mem_cons_self
      have m2 : b ∈ a :: l := p.mem_iff.mpr List.mem_cons_self
      rcases List.mem_cons.mp m1 with e | e
      · exact e
      · rcases List.mem_cons.mp m2 with e2 | e2
        · exact e2.symm
        · exact Nat.le_antisymm (ha.1 b e2) (hb.1 a e)
    subst ab
    rw [two_sorted (p.cons_inv) ha.2 hb.2]
theorem asc_of {ys z : List Nat} (p : ys.Perm z) (h : ys.Pairwise (· ≤ ·)) : ys = asc z := two_sorted (p.trans (asc_perm z).symm) h (asc_le z)
theorem joinL_one : ∀ z : List Nat, TL.joinL [] (z.map fun c => [c]) = z
  | [] => rfl
  | [c] => rfl
  | c :: d :: z => congrArg (c :: ·) (joinL_one (d :: z))
theorem sum_one : ∀ z : List Nat, (z.map fun _ => 1).sum = z.length
  | [] => rfl
  | c :: z => by
    rw [List.map_cons, List.sum_cons, sum_one z, List.length_cons, Nat.add_comm]
theorem join_ones (z : List Nat) : Txt.join ("" : Str) (ones z) = S z := by
  have e : ("" : Str) = S [] := by decide +kernel
  have e2 : ones z = (z.map fun c => [c]).map S := by unfold ones; rw [List.map_map]; rfl
  rw [e, e2, join_S]
  exact congrArg S (joinL_one z)
def diffB (b : Nat) (z : List Nat) : Bool := (decide (z ≠ []) && decide z.Nodup) && z.all fun c => decide (c = b) || decide (Let c)
section
variable {P : Program} {w : World} {K : PySem.W.Frag} {mg : Str → Option Value} {base : Heap} {C : Addr}
def spAsc : Sp := fun vs H Q _ => ∃ z, vs = [.str (S z)] ∧ z.length ≤ 1000 ∧ ∀ H', Same H H' → Q (.str (S (asc z))) H'
theorem scAsc : FnScope ["signs"] ["signs"] (defScope gInAsciiOrder) := ⟨rfl, rfl, rfl, by decide +kernel, rfl, by decide +kernel, by decide +kernel⟩
theorem ok_asc {f : Addr} {fd : FuncData} (F : Fun K "in_ascii_order" "in_ascii_order" gInAsciiOrder f fd) (R : STxt K mg) : FnOk P w K mg base CX0 1 f fd ["signs"] spAsc := by
  refine F.ok scAsc (fun vs H Q E h => ?_) (fun cdv A outer s H vs Q E hr h => ?_)
  · obtain ⟨z, rfl, _⟩ := h
    rfl
  · obtain ⟨z, rfl, few, k⟩ := h
    refine ⟨_, pss_one (ps_ret (pe_join pe_str (pe_callB (cr_sortedTx rfl) (by rfl) R.srt (by decide +kernel) (pa_cons (pv 0) pa_nil)))), ?_⟩
    refine ⟨⟨_, rfl⟩, _, rfl, z, rfl, few, fun ys p pm pw np => ⟨_, p, ones ys, rfl, rfl, .inl (SqL.of upd_same), ?_, ?_⟩⟩
    · have e : ((ones ys).map (·.length)).sum = ys.length := by
        unfold ones
        rw [List.map_map]
        have : ((fun x : Str => x.length) ∘ fun c => S [c]) = fun _ => 1 := by
          funext c
          exact S_len [c]
        rw [this]
        exact sum_one ys
      rw [e]
      have := pm.length_eq
      show ys.length + (ones ys).length * 0 ≤ 16777216
      omega
    · rw [join_ones, asc_of pm pw]
      exact k _ (same_upd np)
def spDiff : Sp := fun vs H Q _ => ∃ z b, vs = [.str (S z), .str (S [b])] ∧ z.length ≤ 1000 ∧ ∀ H', Same H H' → Q (.bl (diffB b z)) H'
abbrev nDiff : List Str := ["signs", "besides", "sign"]
theorem scDiff : FnScope nDiff ["signs", "besides"] (defScope gAreDifferentSigns) := ⟨rfl, rfl, rfl, by decide +kernel, rfl, by decide +kernel, by decide +kernel⟩
theorem ok_differ {f g : Addr} {fd gd : FuncData} (F : Fun K "are_different_signs" "are_different_signs" gAreDifferentSigns f fd) (G : Cl P w K mg base CX0 1 "is_stone" ["sign"] spStone g gd) (L : LTxt K mg) (T : PTxt K mg C) (R : STxt K mg) :
    FnOk P w K mg base CX0 2 f fd ["signs", "besides"] spDiff := by
  refine F.ok scDiff (fun vs H Q E h => ?_) (fun cdv A outer s H vs Q E hr h => ?_)
  · obtain ⟨z, b, rfl, _⟩ := h
    rfl
  · obtain ⟨z, b, rfl, few, k⟩ := h
    refine ⟨_, pss_cons (ps_if (PW.pt (pw_or (pt_cmpR op_eq (pv 0) pe_str (nomark _)) (pw_or1 (pt_cmpR op_lt (pe_lenSetS (by rfl) L.len (by rfl) R.set (pv 0)) (pe_callB call_len_str (by rfl) L.len PySem.boot_len (pa_cons (pv 0) pa_nil)) (nomark _))))) (pss_one (ps_ret pe_bl)) pss_nil)
      (pss_one (ps_ret (pe_callB (cr_all rfl) (by rfl) T.all (by decide +kernel) (pa_cons (pe_lc (own := [("sign", 2)]) (g := gName 2) (tt := tYes) rfl scDiff.nd (pi_str (pv 0)) (blkOk_by (N := nDiff) (sc := defScope gAreDifferentSigns) (by decide +kernel)) (fun _ _ _ _ _ => pg_name (i := 2) scDiff.nd rfl (.inl rfl)) (fun _ _ _ _ _ => pts_nil)
        (fun _ _ _ _ _ => pe_or (pe_cmpR op_eq (pv 2) (pv 1) (nomark _)) (pe_one (pe_call G.ok hr (by rfl) G.gl G.kp G.bd .nil pass0 (pa_cons (pv 2) pa_nil))))) pa_nil)))), ?_⟩
    have line : (S z).length ≤ sizeLine := by rw [len_S]; exact small_line few
    have emp : ("" : Str) = S [] := by decide +kernel
    refine ⟨_, rfl, rfl, _, rfl, ?_⟩
    by_cases e0 : z = []
    · refine iteTe (decide_eq_true (by rw [e0, emp])) (iteT ?_)
      have q := k H (Same.refl H)
      rw [show diffB b z = false by unfold diffB; rw [e0]; rfl] at q
      exact q
    · refine iteFe (decide_eq_false fun y => e0 ?_) ⟨_, rfl, z, rfl, few, fun n nl nd => ⟨_, rfl, _, rfl, line, _, _, rfl, rfl, _, rfl, ?_⟩⟩
      · simp only [V.str.injEq] at y
        rw [emp] at y
        exact S_inj y
      by_cases e1 : z.Nodup
      · refine iteFe (decide_eq_false (by rw [len_S, nd.mpr e1]; omega)) ?_
        have dB : diffB b z = z.all fun c => decide (c = b) || decide (Let c) := by
          unfold diffB
          rw [decide_eq_true e0, decide_eq_true e1]
          rfl
        refine ⟨_, rfl, _, rfl, fun D nD => lc_it walk_str (fun i G => Same H G ∧ G D = some (.lst (((z.take i).map fun c => decide (c = b) || decide (Let c)).map V.bl))) ⟨same_upd nD, upd_same⟩ (fun _ _ _ _ => trivial) ?_ ?_⟩
        · rintro i x G G' hi ⟨sG, hD⟩ ⟨rfl, d, gd, rfl⟩
          have gd2 : z[i]? = some d := by
            have y : z.toArray[i]? = some d := gd
            rwa [List.getElem?_toArray] at y
          have last : ∀ v : Bool, v = (decide (d = b) || decide (Let d)) → ∃ xs, G' D = some (.lst xs) ∧ xs.length < sizeLine ∧ Same H (upd G' D (.lst (xs ++ [.bl v]))) ∧ upd G' D (.lst (xs ++ [.bl v])) D = some (.lst (((z.take (i + 1)).map fun c => decide (c = b) || decide (Let c)).map V.bl)) := fun v ev => by
            refine ⟨_, hD, ?_, fun a o e => ?_, ?_⟩
            · rw [List.length_map, List.length_map, List.length_take]
              exact small1000 (by omega)
            · rw [upd_ne (ne_of_none e nD)]
              exact sG a o e
            · rw [upd_same, List.take_add_one, gd2, ev]
              simp
          refine ⟨rfl, tyes (iteT ⟨_, rfl, _, rfl, rfl, _, rfl, ?_⟩)⟩
          by_cases e2 : d = b
          · refine iteTe (decide_eq_true (by rw [e2])) ?_
            exact last true (by rw [decide_eq_true e2]; rfl)
          · refine iteFe (decide_eq_false fun y => e2 ?_) ⟨_, rfl, [d], rfl, (show 1 ≤ 1000 by decide), ?_⟩
            · simp only [V.str.injEq] at y
              have := S_inj (a := [d]) (b := [b]) y
              simpa using this
            · exact last _ (by rw [decide_eq_false e2]; rfl)
        · rintro G ⟨sG, hD⟩
          have e3 : (S z).cps.size = z.length := by simp
          rw [e3, List.take_of_length_le (Nat.le_refl _)] at hD
          refine ⟨D, _, rfl, SqL.of hD, ?_⟩
          have q := k G sG
          rw [dB, show (z.all fun c => decide (c = b) || decide (Let c)) = (z.map fun c => decide (c = b) || decide (Let c)).all id by rw [List.all_map]; rfl] at q
          exact q
      · refine iteTe (decide_eq_true ?_) ?_
        · rw [len_S]
          have : n ≠ z.length := fun y => e1 (nd.mp y)
          omega
        · have q := k H (Same.refl H)
          rw [show diffB b z = false by unfold diffB; rw [decide_eq_false e1, Bool.and_false]; rfl] at q
          exact q
end
end Pm
namespace Pm
open PySem PySem.Spec PyProof.Rows L2 SX
/-! ### a tuple of ints in a set of such: asked for -/
section
variable {P : Program} {w : World} {A : Around} {E : Value → Shared → Prop} {s : Shared} {a : Addr} {L : List (Addr × List Int)} {es : Array (Int × Value)} {ep : Nat} {t : SetTable}
/-- where the way of the key k begins -/
abbrev way0 (P : Program) (w : World) (t : SetTable) (k : List Int) : SetTable.Probe := runAt t.mask (SetTable.bits (thash P w k) % (t.mask + 1)) (SetTable.bits (thash P w k))
theorem no_dummy (m : Nat) : ∀ (n : Nat) (p : SetTable.Probe), p.dummy = none → (nth m p n).dummy = none
  | 0, _, h => h
  | n + 1, p, h => no_dummy m n (adv m p) (by unfold adv; split <;> exact h)
/-- the whole search from step c of the way on; K: its first empty place; no entry with this key has been passed -/
theorem ask_from (R : SetTR P w s.heap a L es ep t) {x : Addr} {k : List Int} (hx : L2.IsT P w s.heap k x) (hu : A.units < cLine) {K : Nat} (few : K < 10 * SetTable.turns t.mask)
    (emp : way t.mask (thash P w k) K ∉ t.place.toList) (full : ∀ c, c < K → way t.mask (thash P w k) c ∈ t.place.toList) {Q : SetFound → Shared → Prop}
    (yes : k ∈ L.map (·.2) → ∀ i, Q (.there (some i)) s) (no : k ∉ L.map (·.2) → ∀ j, Q (.free j false) s) :
    ∀ (f c : Nat) (stand : Option SetTable.Probe), stand.getD (t.probeStart (thash P w k)) = nth t.mask (way0 P w t k) c → c ≤ K → K < f + c →
      (∀ (i : Nat) p, L[i]? = some p → p.2 = k → ∃ c', c ≤ c' ∧ c' < K ∧ t.place.toList[i]? = some (way t.mask (thash P w k) c')) →
      wpAny (model P w) A (setSearchFrom a (.ref x) (thash P w k) false f stand) Q E s := by
  intro f
  induction f with
  | zero =>
    intro c stand _ h1 h2
    omega
  | succ f ih =>
    intro c stand est cK fK ahead
    obtain ⟨o, ho, _, hd⟩ := R.ob
    have step : ∀ q, (nth t.mask (nth t.mask (way0 P w t k) c) q).j = way t.mask (thash P w k) (c + q) := fun q => congrArg SetTable.Probe.j (nth_add t.mask c _ q).symm
    have ent : ∀ (i : Nat) p, L[i]? = some p → ((es[i]?.map (·.1)).getD 0) = thash P w p.2 := fun i p hp => by rw [R.entry hp]; rfl
    have sp := go_spec t R.tab.ris R.tab.dm (fun i => (es[i]?.map (·.1)).getD 0) (thash P w k) (10 * SetTable.turns t.mask) (K - c) (nth t.mask (way0 P w t k) c) (no_dummy _ _ _ rfl) (by omega)
      (fun q hq => by rw [step]; exact full _ (by omega)) (by rw [step, Nat.add_sub_cancel' cK]; exact emp)
    -- an entry ahead, seen from behind step q
    have later : ∀ (q : Nat) (i0 : Nat) p0, (∀ (k' i' : Nat), k' < q → t.place.toList[i']? = some (nth t.mask (nth t.mask (way0 P w t k) c) k').j → ((es[i']?.map (·.1)).getD 0) ≠ thash P w k) → L[i0]? = some p0 → p0.2 = k →
        ∃ c', c + q ≤ c' ∧ c' < K ∧ t.place.toList[i0]? = some (way t.mask (thash P w k) c') := fun q i0 p0 none_ h0 e0 => by
      obtain ⟨c', b1, b2, b3⟩ := ahead i0 p0 h0 e0
      refine ⟨c', Nat.le_of_not_lt fun lt => ?_, b2, b3⟩
      refine none_ (c' - c) i0 (by omega) (by rw [step, Nat.add_sub_cancel' b1]; exact b3) ?_
      rw [ent i0 p0 h0, e0]
    rw [setSearchFrom_succ]
    refine wpAny_bind (wpAny_setState_of ho hd R.fits ?_)
    dsimp only
    refine wp_if_neg R.gw ?_
    try refine wpAny_bind (wpAny_pure ?_)
    rcases sp with ⟨q, i, qK, at_, _, none_, met⟩ | ⟨none_, met⟩
    · have met2 : t.probe (fun i => (es[i]?.map (·.1)).getD 0) (thash P w k) (stand.getD (t.probeStart (thash P w k))) = some (.candidate (way t.mask (thash P w k) (c + q)) i (nth t.mask (way0 P w t k) (c + (q + 1)))) := by
        rw [est, ← step, nth_add t.mask c (way0 P w t k) (q + 1)]
        exact met
      rw [met2]
      dsimp only
      rw [step] at at_
      have iL : i < L.length := by
        have z := (List.getElem?_eq_some_iff.mp at_).1
        have y := R.tab.sz
        rw [List.length_map] at y
        rw [Array.length_toList] at z
        omega
      obtain ⟨p, hp⟩ : ∃ p, L[i]? = some p := ⟨_, List.getElem?_eq_getElem iL⟩
      have pL := List.mem_of_getElem? hp
      have live : t.slot (way t.mask (thash P w k) (c + q)) = .live i := slot_live R.tab.ris at_
      have go : wpAny (model P w) A (searchRest a (.ref x) (thash P w k) false f es t (way t.mask (thash P w k) (c + q)) i (nth t.mask (way0 P w t k) (c + (q + 1)))) Q E s := by
        unfold searchRest
        rw [R.entry hp]
        dsimp only
        refine wpAny_bind (wpAny_holding (wpAny_eqBool_tuple hu (R.tup p pL) hx (wpAny_bind (wpAny_setState_of ho hd R.fits ?_))))
        dsimp only
        refine wp_if_neg (by simp) ?_
        try refine wpAny_bind (wpAny_pure ?_)
        rw [sameMem]
        dsimp only
        simp only [if_true, live, R.entry hp]
        refine wpAny_bind (wpAny_isSame_ref_self (wpAny_bind (wpAny_pure ?_)))
        simp only [if_true]
        by_cases e : p.2 = k
        · exact wp_if_pos (by simp [e]) (wpAny_pure (yes (List.mem_map.mpr ⟨p, pL, e⟩) i))
        · refine wp_if_neg (by simp [e]) (ih (c + (q + 1)) _ rfl (by omega) (by omega) fun i0 p0 h0 e0 => ?_)
          obtain ⟨c', b1, b2, b3⟩ := later q i0 p0 none_ h0 e0
          refine ⟨c', ?_, b2, b3⟩
          rcases Nat.lt_or_eq_of_le b1 with lt | eq
          · omega
          · rw [← eq] at b3
            have z := slot_live R.tab.ris b3
            rw [live] at z
            injection z with z
            rw [← z, hp] at h0
            cases h0
            exact absurd e0 e
      by_cases led : t.led = true
      · refine wp_if_neg (by simp [led]) ?_
        try refine wpAny_bind (wpAny_pure ?_)
        exact go
      · refine wp_if_pos (by simp [led]) (wpAny_bind (seen_tup hx (fun y hy => ?_) ?_))
        · obtain ⟨en, hen, rfl⟩ := List.mem_map.mp hy
          have m : en ∈ es.toList := by
            have z : en ∈ es ∧ en.1 = thash P w k := by simpa using hen
            simpa using z.1
          rw [R.rows] at m
          obtain ⟨p2, m2, rfl⟩ := List.mem_map.mp m
          exact ⟨p2.2, p2.1, rfl, R.tup p2 m2⟩
        · refine wp_if_neg (by decide) ?_
          try refine wpAny_bind (wpAny_pure ?_)
          exact go
    · have met2 : t.probe (fun i => (es[i]?.map (·.1)).getD 0) (thash P w k) (stand.getD (t.probeStart (thash P w k))) = some (.empty (nth t.mask (nth t.mask (way0 P w t k) c) (K - c)).j none) := by
        rw [est]
        exact met
      rw [met2]
      dsimp only
      refine wpAny_pure (no (fun m => ?_) _)
      obtain ⟨p0, m0, e0⟩ := List.mem_map.mp m
      obtain ⟨i0, h0⟩ := List.mem_iff_getElem?.mp m0
      obtain ⟨c', b1, b2, _⟩ := later (K - c) i0 p0 none_ h0 e0
      omega
theorem find_tup (R : SetTR P w s.heap a L es ep t) {x : Addr} {k : List Int} (hx : L2.IsT P w s.heap k x) (hu : A.units < cLine) {Q : Option Nat → Shared → Prop} (yes : k ∈ L.map (·.2) → ∀ i, Q (some i) s) (no : k ∉ L.map (·.2) → Q none s) :
    wpAny (model P w) A (setFind a (.ref x) (thash P w k)) Q E s := by
  obtain ⟨o, ho, _, hd⟩ := R.ob
  have room := R.room
  obtain ⟨K, few, emp, full⟩ := R.tab.first (by rw [List.length_map]; omega) (thash P w k)
  have small : K < 100000 := by
    have : 10 * SetTable.turns t.mask ≤ 1420 := by
      unfold SetTable.turns
      rcases R.tab.mok with e | e | e <;> omega
    omega
  show wpAny _ _ (setFindIn a (.ref x) (thash P w k) (99999 + 1)) Q E s
  unfold setFindIn
  refine wpAny_bind (wpAny_setState_of ho hd R.fits ?_)
  dsimp only
  refine wp_if_neg (by simp [byScan, Value.scannable]) ?_
  try refine wpAny_bind (wpAny_pure ?_)
  refine wpAny_bind ?_
  unfold setSearch
  refine ask_from R hx hu few emp full (fun m i => ?_) (fun m j => ?_) 100000 0 none rfl (Nat.zero_le _) (by omega) fun i p hp e => ?_
  · exact wpAny_pure (yes m i)
  · exact wpAny_pure (no m)
  · have hi : (L.map fun p => thash P w p.2)[i]? = some (thash P w k) := by rw [List.getElem?_map, hp, ← e]; rfl
    have il : i < t.place.toList.length := by
      have z := (List.getElem?_eq_some_iff.mp hp).1
      have y := R.tab.sz
      rw [List.length_map] at y
      rw [Array.length_toList]
      omega
    obtain ⟨c, hc, ec⟩ := R.tab.before emp hi (List.getElem?_eq_getElem il)
    exact ⟨c, Nat.zero_le _, hc, by rw [List.getElem?_eq_getElem il, ec]⟩
end
end Pm
namespace Pm
open PySem PySem.Spec PyProof.Rows L2 SX
section
variable {P : Program} {w : World} {A : Around} {E : Value → Shared → Prop} {s : Shared} {a : Addr} {L : List (Addr × List Int)} {es : Array (Int × Value)} {ep : Nat} {t : SetTable}
theorem in_tup (R : SetTR P w s.heap a L es ep t) {x : Addr} {k : List Int} (hx : L2.IsT P w s.heap k x) (hu : A.units + 1 < cLine) {Q : Value → Shared → Prop}
    (h : ∀ tk, Q (.bool (decide (k ∈ L.map (·.2)))) { s with toks := tk }) : wpAny (model P w) A (compareOp .In (.ref x) (.ref a)) Q E s := by
  obtain ⟨o, ho, hex, hd⟩ := R.ob
  have hT : s.TypeIs (.ref a) "set" := ⟨o, ho, hex.1⟩
  show wpAny _ _ (do return .bool (← contains (.ref a) (.ref x))) Q E s
  refine wpAny_bind ?_
  unfold contains
  try with_reducible refine wpAny_holding ?_
  refine wpAny_bind (wpAny_specialOf hT F.slot_set_contains.lookup ?_)
  refine wp_if_neg (by rw [beq_builtin_none]; exact Bool.false_ne_true) ?_
  refine wpAny_bind (wpAny_callSpecialUnlessNone?_slot (name := Str.ofString "__contains__") hT F.slot_set_contains (wpAny_call_entry F.slot_set_contains hT entry_set_contains ?_ (F.args_set_contains_2 _ _)))
  unfold Builtin.«frozenset.__contains__» Builtin.Frozenset.oneOther
  simp only [List.isEmpty_nil, bind_assoc]
  unfold Builtin.Frozenset.addrOf Builtin.Frozenset.withSetAsKey setContains
  iterate 2
    refine wpAny_bind (wpAny_pure ?_)
    try dsimp only
  refine wpAny_bind (wpAny_tryCatch (wpAny_holding ?_))
  refine wpAny_bind (wpAny_pyHash_tuple (by simpa using hu) hx ?_)
  have R2 : SetTR P w ({ s with toks := s.toks + (k.length + 1) } : Shared).heap a L es ep t := R
  have done : ∀ r : Option Nat, r.isSome = decide (k ∈ L.map (·.2)) → wpAny (model P w) A (ret (Value.bool r.isSome)) (fun f s' => f = .done (.ret (.bool (decide (k ∈ L.map (·.2))))) ∧ s' = { s with toks := s.toks + (k.length + 1) }) E { s with toks := s.toks + (k.length + 1) } := fun r e => wpAny_pure ⟨by rw [e], rfl⟩
  refine wpAny_bind (find_tup (s := { s with toks := s.toks + (k.length + 1) }) R2 hx (by simpa using hu) (fun m i => ?_) (fun m => ?_))
  · refine wpAny_pure ?_
    show wpAny _ _ (ret (Value.bool true)) _ _ _
    rw [show (true : Bool) = decide (k ∈ L.map (·.2)) from (decide_eq_true m).symm]
    exact wpAny_pure ⟨_, rfl, wpAny_truthy_bool (wpAny_pure (h _))⟩
  · refine wpAny_pure ?_
    show wpAny _ _ (ret (Value.bool false)) _ _ _
    rw [show (false : Bool) = decide (k ∈ L.map (·.2)) from (decide_eq_false m).symm]
    exact wpAny_pure ⟨_, rfl, wpAny_truthy_bool (wpAny_pure (h _))⟩
end
section
variable {X : Cx}
/-- t in d, d a set of tuples of ints -/
def rInT (K : PySem.W.Frag) (P : Program) (w : World) : V → V → Hp → VK → Prop := fun x y H Q => ∃ (t d : Addr) (k : List Int) (L : List (Addr × List Int)), x = .ref t ∧ y = .ref d ∧ SqT K H t (k.map V.int) ∧ H d = some (SetTO P w d L) ∧ (∀ p ∈ L, SqT K H p.1 (p.2.map V.int)) ∧ Q (.bl (decide (k ∈ L.map (·.2)))) H
theorem op_inT (hu : X.A.units + 1 < cLine) : OpR X (compareOp .In) (rInT X.K X.prog X.w) := by
  intro pins s σ H x y v u Q I rx ry h
  obtain ⟨t, d, k, L, rfl, rfl, ht, hd, hL, q⟩ := h
  cases rx
  cases ry
  have R0 : SetT0 X.prog X.w s.heap d L := (I.hok d _ hd).1
  obtain ⟨es, ep, tb, R⟩ := R0.full fun p hp => I.isT (hL p hp)
  exact in_tup R (I.isT ht) hu fun tk => ⟨.bl _, H, I.tok _, rfl, q⟩
/-- set(), to be filled with tuples of ints -/
def rSet0T (P : Program) (w : World) : List V → Hp → VK → Prop := fun xs H Q => xs = [] ∧ ∀ p, H p = none → Q (.ref p) (upd H p (SetTO P w p []))
theorem cr_set0T : CallR X (.type "set") (rSet0T X.prog X.w) := by
  intro pins s σ H xs us Q I r h
  obtain ⟨rfl, q⟩ := h
  cases r
  refine setR_new fun new => ?_
  have R : SetTR X.prog X.w (s.heap.push { cls := .type "set", dict := none, data := .set #[] 0 (.fresh 0 0 (!X.w.params.followText "set-order")) }) s.heap.objs.size [] #[] 0 (.fresh 0 0 (!X.w.params.followText "set-order")) := setTR_fresh (Heap.get?_push_size _ rfl)
  exact ⟨.ref _, upd H s.heap.objs.size (SetTO X.prog X.w s.heap.objs.size []), I.laid (t' := s.toks) (fun b u e => Heap.get?_push_of_some _ e) (Nat.le_refl _) (setTO_new R.t0), rfl, q _ (I.hok.fresh (Nat.le_refl _))⟩
/-- d.add(t) -/
def rAddT (K : PySem.W.Frag) (P : Program) (w : World) : V → List V → Hp → VK → Prop := fun x xs H Q => ∃ (d t : Addr) (k : List Int) (L : List (Addr × List Int)), x = .ref d ∧ xs = [.ref t] ∧ H d = some (SetTO P w d L) ∧ (∀ p ∈ L, SqT K H p.1 (p.2.map V.int)) ∧ SqT K H t (k.map V.int) ∧ L.length + 1 < 64 ∧
  ∀ L', (k ∈ L.map (·.2) → L' = L) → (k ∉ L.map (·.2) → L'.Perm ((t, k) :: L)) → Q .non (upd H d (SetTO P w d L'))
theorem call_addT {pins : List (Addr × Obj)} {σ : L2.St} {H : Hp} {s : Shared} {Q : VK} {x : V} {xs : List V} {u : Value} {us : List Value} (hu : X.A.units + 1 < cLine) (I : L2.Inv X pins σ H s) (rx : RelV x u) (rxs : Vals xs us) (h : rAddT X.K X.prog X.w x xs H Q) :
    wpAny (model X.prog X.w) X.A (call (.builtin "set.add") (u :: us)) (EP X pins σ Q) X.xe s := by
  obtain ⟨d, t, k, L, rfl, rfl, hd, hL, ht, few, q⟩ := h
  cases rx
  match rxs with
  | .cons ry .nil =>
    cases ry
    have R0 : SetT0 X.prog X.w s.heap d L := (I.hok d _ hd).1
    obtain ⟨es, ep, tb, R⟩ := R0.full fun p hp => I.isT (hL p hp)
    have hk : L2.IsT X.prog X.w s.heap k t := I.isT ht
    have hT : s.TypeIs (.ref d) "set" := by
      obtain ⟨o, ho, hx, _⟩ := R.ob
      exact ⟨o, ho, hx.1⟩
    refine wpAny_call_entry F.slot_set_add hT F.entry_set_add ?_ (F.args_set_add_2 _ _)
    unfold Builtin.«set.add» Builtin.Frozenset.oneOther
    simp only [bind_assoc, List.isEmpty_nil]
    unfold setAdd Builtin.Frozenset.addrOf
    iterate 2
      refine wpAny_bind (wpAny_pure ?_)
      try dsimp only
    refine wpAny_bind (wpAny_holding (wpAny_bind (wpAny_pyHash_tuple (by simpa using hu) hk ?_)))
    refine add_at (s := { s with toks := s.toks + (k.length + 1) }) R hk (by simpa using hu) few fun b h' L' es' ep' t' sb R2 c1 c2 => ?_
    show wpAny _ _ (ret Value.none) _ _ _
    have there : ∃ u, h'.get? d = some u := by
      obtain ⟨o, ho, _⟩ := R2.ob
      exact ⟨o, ho⟩
    exact wpAny_pure ⟨_, rfl, .non, _, I.write (e := d) (t' := s.toks + (k.length + 1)) (by rw [hd]; trivial) (.inl rfl) (fun b u hb q => (sb.2 b hb).trans q) there (setTO_new R2.t0), rfl, q L' c1 c2⟩
def tAddT (K : PySem.W.Frag) (P : Program) (w : World) (to : TE) (t : TA) : TE := fun σ H Q => to σ H fun x H1 => (∃ d L, x = V.ref d ∧ H1 d = some (SetTO P w d L) ∧ (∀ p ∈ L, SqT K H1 p.1 (p.2.map V.int))) ∧ t σ H1 fun xs H2 => rAddT K P w x xs H2 Q
variable {o e : Expr} {es : List Expr} {to : TE} {t : TA} {apos cpos : Pos}
theorem pe_addT (hu : X.A.units + 1 < cLine) (ho : PE X o to) (ha : PA X (e :: es) t)
    (hbase : attributeBase o "add" X.env (eval o X.env) = eval o X.env := by rfl)
    (hfew : ((backTo cpos (starEach (e :: es) X.env)).all (fun x => !x.1) && (backToKw cpos (keywordEach [] X.env)).all (fun x => x.1.isSome)
      && decide ((e :: es).length + ([] : List Keyword).length + (if ([] : List Keyword).isEmpty then 0 else 1) < 30)) = true := by rfl)
    (hline : (apos.endLine == cpos.line) = true := by rfl) (hs : starEach (e :: es) X.env = (false, eval e X.env) :: starEach es X.env := by rfl) (hplain : (backTo cpos (starEach es X.env)).any (·.1) = false := by rfl) :
    PE X (.Call (.Attribute o "add" apos) (e :: es) [] cpos) (tAddT X.K X.prog X.w to t) := by
  refine ⟨fun pins s σ H Q I h => ?_⟩
  refine wpAny_Call_method_late hbase hfew hline rfl (thn (ho.run pins s σ H _ I h) fun v s1 ⟨x, H1, I1, r1, ⟨d, L, ex, hd, hL⟩, q1⟩ => ?_)
  subst ex
  cases r1
  have R0 : SetT0 X.prog X.w s1.heap d L := (I1.hok d _ hd).1
  obtain ⟨es', ep, tb, R⟩ := R0.full fun p hp => I1.isT (hL p hp)
  obtain ⟨ob, hob, hex, hdat⟩ := R.ob
  have hT : s1.TypeIs (.ref d) "set" := ⟨ob, hob, hex.1⟩
  refine ⟨"set", "set.add", F.plainAttrs_set, F.slot_set_add, F.type_set_add, hT, (fun _ z => ?_), ?_⟩
  · cases z
    exact ⟨ob, hob, hex.2.1⟩
  have hA := ha.run cpos pins s1 σ H1 _ I1 q1
  rw [hs] at hA ⊢
  refine Calls.callWith_builtin (by show (false || (backTo cpos (starEach es X.env)).any (·.1)) = false; rw [hplain] <;> rfl) (Calls.evalArgs_plain ?_)
  exact thn hA fun us s2 ⟨vs, H2, I2, r2, q2⟩ => call_addT (x := .ref d) hu I2 rfl r2 q2
end
end Pm
namespace Pm
open PySem PySem.Spec PyProof.Rows L2 SX
/-! ### sorted of triples (int, int, text), no two of them with the same ints -/
/-- v is a tuple of the ints i, j and a text -/
def IsTrip (h : Heap) (v : Value) (i j : Int) (z : Str) : Prop := ∃ a o t u y n, v = .ref a ∧ h.get? a = some o ∧ o.cls = .type "tuple" ∧ o.data = .seq #[.int i t, .int j u, .str z y] n
theorem IsTrip.keeps {h h' : Heap} {v : Value} {i j : Int} {z : Str} (p : IsTrip h v i j z) (k : ∀ b o, h.get? b = some o → o.cls = .type "tuple" → h'.get? b = some o) : IsTrip h' v i j z := by
  obtain ⟨a, o, t, u, y, n, e, ho, hc, hd⟩ := p
  exact ⟨a, o, t, u, y, n, e, k _ _ ho hc, hc, hd⟩
section
variable {prog : Program} {w : World} {A : Around} {E : Value → Shared → Prop} {s : Shared}
theorem trip_cmp {vs : List Value} {k : Value → Int × Int} {tx : Value → Str} (hp : ∀ v ∈ vs, IsTrip s.heap v (k v).1 (k v).2 (tx v)) (hd : ∀ v ∈ vs, ∀ u ∈ vs, k v = k u → v = u) :
    SrtO.Cmp prog w A s (tuples' true) (fun p => p.1 ∈ vs) (SrtO.lt2 fun v u => SrtO.lexB (k v) (k u)) := by
  intro p q hm hm'
  have h1 := hp _ hm
  have h2 := hp _ hm'
  have same : (k p.1).1 = (k q.1).1 → (k p.1).2 = (k q.1).2 → tx p.1 = tx q.1 := fun a b => by rw [hd _ hm _ hm' (Prod.ext a b)]
  show wpAny (model prog w) A (keyLt' (tuples' true) p.1 q.1) (fun r s' => s' = s ∧ r = SrtO.lexB (k p.1) (k q.1)) (fun _ _ => False) s
  unfold SrtO.lexB
  generalize (k p.1).1 = x at h1 same ⊢
  generalize (k p.1).2 = y at h1 same ⊢
  generalize (k q.1).1 = x' at h2 same ⊢
  generalize (k q.1).2 = y' at h2 same ⊢
  generalize tx p.1 = z at h1 same
  generalize tx q.1 = z' at h2 same
  obtain ⟨a, o, t, u, y0, n, e, ho, hc, hd⟩ := h1
  obtain ⟨a', o', t', u', y0', n', e', ho', hc', hd'⟩ := h2
  rw [e, e']
  refine PySem.W.kat_lt ho hd ho' hd' ?_
  show PySem.W.KatLex prog w A true (decide (3 < 3)) _ [(.int x t, .int x' t'), (.int y u, .int y' u'), (.str z y0, .str z' y0')] 0 s
  refine PySem.W.kat_cons (SeqAt.EqAt.int_int x t x' t' prog w _ _ ?_)
  refine PySem.W.kat_go (fun e1 => ?_) (fun e1 => ?_)
  · have ex : x = x' := by simpa using e1
    refine PySem.W.kat_yes (PySem.W.kat_cons (SeqAt.EqAt.int_int y u y' u' prog w _ _ ?_))
    refine PySem.W.kat_go (fun e2 => ?_) (fun e2 => ?_)
    · have ey : y = y' := by simpa using e2
      have ez : z = z' := same ex ey
      have e3 : (if x = x' then decide (y < y') else decide (x < x')) = false := by
        rw [if_pos ex, ey]
        exact decide_eq_false (Int.lt_irrefl _)
      refine PySem.W.kat_yes (PySem.W.kat_cons (SeqAt.EqAt.str_str z y0 z' y0' prog w _ _ ?_))
      refine PySem.W.kat_go (fun _ => ?_) (fun e4 => ?_)
      · exact PySem.W.kat_yes (PySem.W.kat_nil ⟨rfl, e3.symm⟩)
      · rw [ez] at e4
        simp at e4
    · have e3 : (if x = x' then decide (y < y') else decide (x < x')) = decide (y < y') := if_pos ex
      refine PySem.W.kat_no (PySem.W.kat_one _ _ (PyProof.Rows.lt_int ?_))
      exact (show s = s ∧ decide (y < y') = (if x = x' then decide (y < y') else decide (x < x')) from ⟨rfl, e3.symm⟩)
  · have ex : ¬ x = x' := by simpa using e1
    have e3 : (if x = x' then decide (y < y') else decide (x < x')) = decide (x < x') := if_neg ex
    exact PySem.W.kat_no (oneLt_int ⟨rfl, e3.symm⟩)
theorem firsts3 {h : Heap} : ∀ {vs : List Value}, (∀ v ∈ vs, ∃ x y z, IsTrip h v x y z) → ∃ fs : List Value, PySem.W.KatTups h vs fs ∧ fs.length = vs.length ∧ ∀ f ∈ fs, ∃ x t, f = Value.int x t
  | [], _ => ⟨[], PySem.W.KatTups.nil, rfl, fun _ hm => by simp at hm⟩
  | v :: vs, hp => by
    obtain ⟨fs, h1, h2, h3⟩ := firsts3 (vs := vs) fun v' hm => hp v' (List.mem_cons_of_mem _ hm)
    obtain ⟨x, y, z, a, o, t, u, y0, n, e, ho, hc, hd⟩ := hp v (List.mem_cons_self ..)
    subst e
    refine ⟨.int x t :: fs, PySem.W.KatTups.cons ho hc hd rfl h1, by rw [List.length_cons, List.length_cons, h2], fun f hm => ?_⟩
    rcases List.mem_cons.mp hm with rfl | hm
    · exact ⟨x, t, rfl⟩
    · exact h3 f hm
theorem trips_sortable {a : Addr} {vs : List Value} {k : Value → Int × Int} {tx : Value → Str} (h0 : 0 < vs.length) (hp : ∀ v ∈ vs, IsTrip s.heap v (k v).1 (k v).2 (tx v)) (hd : ∀ v ∈ vs, ∀ u ∈ vs, k v = k u → v = u)
    (ha : ∀ o, s.heap.get? a = some o → o.cls ≠ .type "tuple") : SrtO.SortableO prog w A s a vs fun v u => SrtO.lexB (k v) (k u) := by
  intro h' keep
  have hp' : ∀ v ∈ vs, IsTrip h' v (k v).1 (k v).2 (tx v) := fun v hm => (hp v hm).keeps fun b o e c => keep b o (fun z => by subst z; exact ha o e c) e
  obtain ⟨fs, h1, h2, h3⟩ := firsts3 fun v hm => ⟨_, _, _, hp' v hm⟩
  refine ⟨tuples' true, fun Q E hq => ?_, trip_cmp hp' hd⟩
  refine PySem.W.kat_kind (T := .type "int") h1 (by omega) (fun f hm => ?_) (by rfl) ?_
  · obtain ⟨x, t, rfl⟩ := h3 f hm
    exact PySem.W.Looks.now
  · have e : (Value.type "int" != Value.type "tuple") = true := by first | decide +kernel | rfl | decide
    rw [e]
    exact hq
theorem sorted_trips {l : Addr} {vs : List Value} {k : Value → Int × Int} {tx : Value → Str} {Q : Value → Shared → Prop} (hl : s.heap.IsList l vs.toArray) (hz : vs.length ≤ sizeLine) (hp : ∀ v ∈ vs, IsTrip s.heap v (k v).1 (k v).2 (tx v)) (hd : ∀ v ∈ vs, ∀ u ∈ vs, k v = k u → v = u)
    (h : ∀ (h' : Heap) (d : Addr) (out : List Value), SrtO.Srtd (fun v u => SrtO.lexB (k v) (k u)) out → SrtO.Stb (fun v u => SrtO.lexB (k v) (k u)) out vs → (∀ b o, s.heap.get? b = some o → h'.get? b = some o) → s.heap.objs.size ≤ d → (∃ n, h'.get? d = some (seqObj "list" out.toArray n)) → Q (.ref d) { s with heap := h' }) :
    wpAny (model prog w) A (call (.builtin "sorted") [.ref l]) Q E s := by
  refine SrtO.sorted_ord (SrtO.swo_lex k) hl hz (fun h2 h₁ a ha kk => ?_) fun out hs hb => ?_
  · refine trips_sortable (s := { s with heap := h₁ }) (tx := tx) (by omega) (fun v hm => (hp v hm).keeps fun b o e _ => (kk b o e).2) hd fun o e => ?_
    have e' : some o = some (seqObj "list" vs.toArray 0) := e.symm.trans ha
    cases e'
    intro c
    exact absurd (Value.type.inj c) (by decide)
  · exact h _ _ out hs hb (fun b o e => sortedAll_old e) (Nat.le_succ _) (sortedAll_at s.heap vs out.toArray)
end
/-- sorted(xs), xs a list of triples at the addresses of L, each with its ints and its text; no two with the same ints -/
abbrev Trip := Addr × (Int × Int) × Str
def TripO (p : Trip) : HO := .tup [.int p.2.1.1, .int p.2.1.2, .str p.2.2]
def rSortedTr (K : PySem.W.Frag) : List V → Hp → VK → Prop := fun vs H Q => ∃ (a : Addr) (L : List Trip), vs = [V.ref a] ∧ SqL K H a (L.map fun p => V.ref p.1) ∧ (∀ p ∈ L, H p.1 = some (TripO p)) ∧ (L.map fun p => p.2.1).Nodup ∧
  ∀ (M : List Trip) (d : Addr), M.Perm L → M.Pairwise (fun p q => SrtO.lexB q.2.1 p.2.1 = false) → H d = none → Q (.ref d) (upd H d (.lst (M.map fun p => V.ref p.1)))
theorem vals_refs : ∀ {L : List Trip} {us : List Value}, Vals (L.map fun p => V.ref p.1) us → us = L.map fun p => Value.ref p.1
  | [], _, .nil => rfl
  | p :: L, _, .cons r t => by
    have e := vals_refs t
    cases r
    rw [e]
    rfl
theorem cr_sortedTr {X : Cx} : CallR X (.builtin "sorted") (rSortedTr X.K) := by
  intro pins s σ H vs us Q I r h
  obtain ⟨a, L, rfl, hs, hx, nd, q⟩ := h
  obtain ⟨its, rv, hl, hz⟩ := I.list hs
  obtain ⟨u, rfl, ru⟩ := vals1 r
  obtain rfl : u = Value.ref a := ru
  -- what stands behind an address
  let find : Value → Option Trip := fun v => L.find? fun p => Value.ref p.1 == v
  let k : Value → Int × Int := fun v => ((find v).map (·.2.1)).getD (0, 0)
  let tx : Value → Str := fun v => ((find v).map (·.2.2)).getD Str.empty
  have addr : ∀ p ∈ L, ∀ p' ∈ L, p.1 = p'.1 → p = p' := fun p hp p' hp' e => by
    have h1 := hx p hp
    rw [e, hx p' hp'] at h1
    obtain ⟨p1, ⟨pi, pj⟩, pz⟩ := p
    obtain ⟨p1', ⟨pi', pj'⟩, pz'⟩ := p'
    have e : p1 = p1' := e
    subst e
    unfold TripO at h1
    simp only [Option.some.injEq, HO.tup.injEq, List.cons.injEq, V.int.injEq, V.str.injEq, and_true] at h1
    obtain ⟨a, b, c⟩ := h1
    rw [a, b, c]
  have found : ∀ p ∈ L, find (.ref p.1) = some p := fun p hp => by
    show L.find? _ = _
    cases e : L.find? (fun q => Value.ref q.1 == Value.ref p.1) with
    | none =>
      rw [List.find?_eq_none] at e
      exact absurd (beq_self_eq_true _) (e p hp)
    | some q =>
      have m := List.mem_of_find?_eq_some e
      have y := List.find?_some e
      have y : q.1 = p.1 := by simpa using y
      rw [addr q m p hp y]
  have kof : ∀ p ∈ L, k (.ref p.1) = p.2.1 := fun p hp => by
    show ((find (.ref p.1)).map (·.2.1)).getD (0, 0) = _
    rw [found p hp]
    rfl
  have txof : ∀ p ∈ L, tx (.ref p.1) = p.2.2 := fun p hp => by
    show ((find (.ref p.1)).map (·.2.2)).getD Str.empty = _
    rw [found p hp]
    rfl
  have eits : its = L.map fun p => Value.ref p.1 := vals_refs rv
  have inits : ∀ v ∈ its, ∃ p ∈ L, v = Value.ref p.1 := fun v hv => by
    rw [eits] at hv
    obtain ⟨p, hp, e⟩ := List.mem_map.mp hv
    exact ⟨p, hp, e.symm⟩
  refine sorted_trips (k := k) (tx := tx) hl.isList (by rw [← rv.length]; exact hz) (fun v hv => ?_) (fun v hv u hu e => ?_) fun h' d out h1 h2 kp hd hn => ?_
  · obtain ⟨p, hp, rfl⟩ := inits v hv
    rw [kof p hp, txof p hp]
    obtain ⟨_, its2, r2, o, ho, hc, n, hd⟩ := I.hok _ _ (hx p hp)
    match its2, r2, hd with
    | _, .cons ri (.cons rj (.cons rz .nil)), hd =>
      obtain ⟨t1, rfl⟩ := ri
      obtain ⟨t2, rfl⟩ := rj
      obtain ⟨t3, rfl⟩ := rz
      exact ⟨p.1, o, t1, t2, t3, n, rfl, ho, hc, hd⟩
  · obtain ⟨p, hp, rfl⟩ := inits v hv
    obtain ⟨p', hp', rfl⟩ := inits u hu
    rw [kof p hp, kof p' hp'] at e
    obtain ⟨i, hi⟩ := List.mem_iff_getElem?.mp hp
    obtain ⟨j, hj⟩ := List.mem_iff_getElem?.mp hp'
    obtain ⟨hi1, hi2⟩ := List.getElem?_eq_some_iff.mp hi
    obtain ⟨hj1, hj2⟩ := List.getElem?_eq_some_iff.mp hj
    have nd2 := List.pairwise_iff_getElem.mp nd
    have ij : i = j := by
      rcases Nat.lt_trichotomy i j with c | c | c
      · exact absurd (by rw [List.getElem_map, List.getElem_map, hi2, hj2, e]) (nd2 i j (by simpa using hi1) (by simpa using hj1) c)
      · exact c
      · exact absurd (by rw [List.getElem_map, List.getElem_map, hi2, hj2, e]) (nd2 j i (by simpa using hj1) (by simpa using hi1) c)
    subst ij
    rw [hi] at hj
    cases hj
    rfl
  · obtain ⟨n, hn⟩ := hn
    let g : Value → Trip := fun v => (find v).getD (0, (0, 0), Str.empty)
    have gof : ∀ p ∈ L, g (.ref p.1) = p := fun p hp => by
      show (find (.ref p.1)).getD _ = p
      rw [found p hp]
      rfl
    have pm : (out.map g).Perm L := by
      have y := h2.perm.map g
      rw [eits, List.map_map] at y
      have e : L.map (g ∘ fun p => Value.ref p.1) = L := (List.map_congr_left fun p hp => gof p hp).trans (List.map_id L)
      rw [e] at y
      exact y
    have outin : ∀ v ∈ out, ∃ p ∈ L, v = Value.ref p.1 := fun v hv => inits v (h2.perm.mem_iff.mp hv)
    have eo : out = (out.map g).map fun p => Value.ref p.1 := by
      rw [List.map_map]
      refine (List.map_id out).symm.trans (List.map_congr_left fun v hv => ?_)
      obtain ⟨p, hp, rfl⟩ := outin v hv
      show _ = Value.ref (g (.ref p.1)).1
      rw [gof p hp]
      rfl
    have pw : (out.map g).Pairwise (fun p q => SrtO.lexB q.2.1 p.2.1 = false) := by
      refine List.pairwise_map.mpr (h1.imp_of_mem fun {v u} hv hu e => ?_)
      obtain ⟨p, hp, rfl⟩ := outin v hv
      obtain ⟨p', hp', rfl⟩ := outin u hu
      rw [gof p hp, gof p' hp']
      have e : SrtO.lexB (k (.ref p'.1)) (k (.ref p.1)) = false := e
      rw [kof p hp, kof p' hp'] at e
      exact e
    have vb : Vals ((out.map g).map fun p => V.ref p.1) out := by
      conv => rhs; rw [eo]
      generalize out.map g = M
      induction M with
      | nil => exact .nil
      | cons p M ih => exact .cons rfl ih
    refine ⟨.ref d, upd H d (.lst ((out.map g).map fun p => V.ref p.1)), I.laid (t' := s.toks) kp hd ⟨?_, out, n, vb, hn⟩, rfl, q _ d pm pw (I.hok.fresh hd)⟩
    rw [List.length_map, pm.length_eq]
    rw [List.length_map] at hz
    exact hz
end Pm
namespace Pm
open PySem PySem.Spec PyProof.Rows L2 SX
/-! ### conditions -/
/-- an offset and the signs -/
abbrev Cnd := (Int × Int) × List Nat
def CondO (c : Cnd) : HO := .tup [.int c.1.1, .int c.1.2, .str (S c.2)]
def refC (ks : List (Addr × Cnd)) : List V := ks.map fun q => V.ref q.1
def placeB (p : Int × Int) : Bool := (decide (-3 ≤ p.1) && decide (p.1 ≤ 3)) && ((decide (-3 ≤ p.2) && decide (p.2 ≤ 3)) && (decide (p.1 ≠ 0) || decide (p.2 ≠ 0)))
def badAt (i : Nat) (seen : List (Int × Int)) (c : Cnd) : Bool := decide (8 < i) || !placeB c.1 || decide (c.1 ∈ seen) || !diffB 35 c.2
def fstBad : Nat → List (Int × Int) → List Cnd → Option Nat
  | _, _, [] => none
  | i, seen, c :: r => if badAt i seen c then some i else fstBad (i + 1) (c.1 :: seen) r
structure UTx (K : PySem.W.Frag) (mg : Str → Option Value) : Prop where
  reach : ∃ u, mg "REACH" = some u ∧ RelV (.int 3) u
  most : ∃ u, mg "MOST_CONDITIONS" = some u ∧ RelV (.int 8) u
section
variable {P : Program} {w : World} {K : PySem.W.Frag} {mg : Str → Option Value} {base : Heap} {C CI : Addr}
theorem scEInvalidRule : FnScope ["self", "part"] ["self", "part"] (defScope cInvalidRuleInit) := ⟨rfl, rfl, rfl, by decide +kernel, rfl, by decide +kernel, by decide +kernel⟩
theorem okEInvalidRule {f C : Addr} {fd : FuncData} (F : Fun K "__init__" "InvalidRule.__init__" cInvalidRuleInit f fd) (T : OexC K C) (nx : PySem.W.findIn K (.ref C) "part" = some none) : FnOk P w K mg base CX0 1 f fd ["self", "part"] (spE1 C "part") := by
  refine F.ok scEInvalidRule (fun vs H Q E h => ?_) (fun cdv A outer s H vs Q E hr h => ?_)
  · obtain ⟨a, v, rfl, _⟩ := h
    rfl
  · obtain ⟨a, v, rfl, ha, k⟩ := h
    refine ⟨_, pss_one (ps_ost (pv 0) (pv 1)), ?_⟩
    refine ⟨_, rfl, _, rfl, a, C, rfl, T, nx, .inl ⟨ha, fun dx nd ne => ?_⟩⟩
    refine k _ dx upd_same (by rw [upd_ne ne, upd_same]) nd ne fun b o nb e => ?_
    rw [upd_ne nb, upd_ne (ne_of_none e nd)]
    exact e

def spPlace : Sp := fun vs H Q _ => ∃ dx dy, vs = [.int dx, .int dy] ∧ Q (.bl (placeB (dx, dy))) H
theorem scPlace : FnScope ["dx", "dy"] ["dx", "dy"] (defScope gIsPlace) := ⟨rfl, rfl, rfl, by decide +kernel, rfl, by decide +kernel, by decide +kernel⟩
theorem ok_place {f : Addr} {fd : FuncData} (F : Fun K "_is_place" "_is_place" gIsPlace f fd) (U : UTx K mg) : FnOk P w K mg base CX0 1 f fd ["dx", "dy"] spPlace := by
  refine F.ok scPlace (fun vs H Q E h => ?_) (fun cdv A outer s H vs Q E hr h => ?_)
  · obtain ⟨dx, dy, rfl, _⟩ := h
    rfl
  · obtain ⟨dx, dy, rfl, k⟩ := h
    obtain ⟨ur, hR, rR⟩ := U.reach
    refine ⟨_, pss_one (ps_ret (pe_and (pe_chain op_le op_le (pe_un un_neg (pe_glob (by rfl) hR rR)) (pv 0) (pe_glob (by rfl) hR rR)) (pe_and (pe_chain op_le op_le (pe_un un_neg (pe_glob (by rfl) hR rR)) (pv 1) (pe_glob (by rfl) hR rR))
      (pe_one (pe_or (pe_cmpR op_ne (pv 0) pe_int (nomark _)) (pe_one (pe_cmpR op_ne (pv 1) pe_int (nomark _)))))))), ?_⟩
    have q : ∀ b, placeB (dx, dy) = b → Q (.bl b) H := fun b e => by
      rw [e] at k
      exact k
    refine ⟨3, rfl, _, rfl, _, _, rfl, rfl, _, rfl, ite2 (fun a => ?_) (fun a => ?_)⟩
    · have a : -3 ≤ dx := of_decide_eq_true a
      refine ⟨_, _, rfl, rfl, _, rfl, ite2 (fun b => ?_) (fun b => ?_)⟩
      · have b : dx ≤ 3 := of_decide_eq_true b
        refine ⟨3, rfl, _, rfl, _, _, rfl, rfl, _, rfl, ite2 (fun c => ?_) (fun c => ?_)⟩
        · have c : -3 ≤ dy := of_decide_eq_true c
          refine ⟨_, _, rfl, rfl, _, rfl, ite2 (fun d => ?_) (fun d => ?_)⟩
          · have d : dy ≤ 3 := of_decide_eq_true d
            refine ⟨_, rfl, rfl, _, rfl, ?_⟩
            by_cases e : dx = 0
            · refine iteFe (by simp [e]) ⟨_, rfl, rfl, q _ ?_⟩
              unfold placeB
              simp [a, b, c, d, e]
            · refine iteTe (by simp [e]) (q _ ?_)
              unfold placeB
              simp [a, b, c, d, e]
          · have d : ¬ dy ≤ 3 := fun z => d (decide_eq_true z)
            exact q false (by unfold placeB; simp [d])
        · have c : ¬ -3 ≤ dy := fun z => c (decide_eq_true z)
          exact ⟨_, rfl, iteF (q false (by unfold placeB; simp [c]))⟩
      · have b : ¬ dx ≤ 3 := fun z => b (decide_eq_true z)
        exact q false (by unfold placeB; simp [b])
    · have a : ¬ -3 ≤ dx := fun z => a (decide_eq_true z)
      exact ⟨_, rfl, iteF (q false (by unfold placeB; simp [a]))⟩
end
end Pm
namespace Pm
open PySem PySem.Spec PyProof.Rows L2 SX
theorem hash_S : ("#" : Str) = S [35] := by decide +kernel
theorem walkS' {K : PySem.W.Frag} {a : Addr} {xs : List V} : Walk (ItS K a) xs.length (fun H => SqL K H a xs) (fun i H v H' => ∃ T x, v = .ref T ∧ H T = none ∧ H' = upd H T (.tup [.int ((i : Int) + 1), x]) ∧ xs[i]? = some x) := walkS
theorem refC_at {ks : List (Addr × Cnd)} {i : Nat} {x : V} (h : (refC ks)[i]? = some x) : ∃ t c, ks[i]? = some (t, c) ∧ x = .ref t := by
  unfold refC at h
  rw [List.getElem?_map] at h
  cases e : ks[i]? with
  | none =>
    rw [e] at h
    cases h
  | some q =>
    rw [e] at h
    cases h
    exact ⟨q.1, q.2, rfl, rfl⟩
/-- conditions in the heap: their list and each -/
structure CndsAt (H : Hp) (a : Addr) (ks : List (Addr × Cnd)) : Prop where
  lst : H a = some (.lst (refC ks))
  each : ∀ q ∈ ks, H q.1 = some (CondO q.2)
theorem CndsAt.same {H H' : Hp} {a : Addr} {ks : List (Addr × Cnd)} (h : CndsAt H a ks) (s : Same H H') : CndsAt H' a ks := ⟨s _ _ h.lst, fun q hq => s _ _ (h.each q hq)⟩
/-- the search, step by step -/
theorem fst_step {i : Nat} {seen : List (Int × Int)} {c : Cnd} {r : List Cnd} : fstBad i seen (c :: r) = if badAt i seen c then some i else fstBad (i + 1) (c.1 :: seen) r := rfl
def seenOf (cs : List Cnd) (i : Nat) : List (Int × Int) := ((cs.take i).map (·.1)).reverse
theorem seen_succ {cs : List Cnd} {i : Nat} {c : Cnd} (h : cs[i]? = some c) : seenOf cs (i + 1) = c.1 :: seenOf cs i := by
  unfold seenOf
  rw [List.take_add_one, h]
  simp
section
variable {P : Program} {w : World} {K : PySem.W.Frag} {mg : Str → Option Value} {base : Heap} {C CI : Addr}
def spCheck (CI : Addr) : Sp := fun vs H Q E => ∃ a ks, vs = [.ref a] ∧ CndsAt H a ks ∧ ks.length ≤ 1000 ∧ (∀ q ∈ ks, q.2.2.length ≤ 1000) ∧
  (∀ p, fstBad 1 [] (ks.map (·.2)) = some p → Lets E CI [("part", .int (p : Int))] H) ∧ (fstBad 1 [] (ks.map (·.2)) = none → ∀ H', Same H H' → Q .non H')
abbrev nCheck : List Str := ["conditions", "earlier", "part", "dx", "dy", "signs"]
theorem scCheck : FnScope nCheck ["conditions"] (defScope gCheckConditions) := ⟨rfl, rfl, rfl, by decide +kernel, rfl, by decide +kernel, by decide +kernel⟩
theorem ok_check {f g d e : Addr} {fd gd dd ed : FuncData} (F : Fun K "_check_conditions" "_check_conditions" gCheckConditions f fd) (G : Cl P w K mg base CX0 1 "_is_place" ["dx", "dy"] spPlace g gd) (D : Cl P w K mg base CX0 2 "are_different_signs" ["signs", "besides"] spDiff d dd)
    (Ex : EMk P w K mg base CI "InvalidRule" ["self", "part"] (spE1 CI "part") e ed) (T : PTxt K mg C) (R : STxt K mg) (U : UTx K mg) : FnOk P w K mg base (L2.CX P w) 3 f fd ["conditions"] (spCheck CI) := by
  refine F.okX scCheck (fun vs H Q E h => ?_) (fun cdv A outer s H vs Q E hr h => ?_)
  · obtain ⟨a, ks, rfl, _⟩ := h
    rfl
  · obtain ⟨a, ks, rfl, hc, few, each, bad, good⟩ := h
    have hr1 : Room 1 _ := hr.mono (by decide)
    have hr2 : Room 2 _ := hr
    have hu := hu_of hr
    obtain ⟨mc, cr, _, ⟨uE, hE⟩⟩ := T.cr
    obtain ⟨um, hM, rM⟩ := U.most
    refine ⟨_, (pss_cons (ps_set (i := 1) scCheck.nd rfl (.inl rfl) (pe_callTy0 cr_set0T (by rfl) R.set (by decide +kernel)))
      (pss_one (ps_for (passes_of rfl) rfl (pi_enumS (by rfl) T.enum (pa_cons (pv 0) pa_nil) (pk_cons pe_int pk_nil)) (pg_tup rfl (pgs_cons (pg_name (i := 2) scCheck.nd rfl (.inl rfl)) (pgs_cons (pg_tup rfl (pgs_cons (pg_name (i := 3) scCheck.nd rfl (.inl rfl)) (pgs_cons (pg_name (i := 4) scCheck.nd rfl (.inl rfl)) (pgs_cons (pg_name (i := 5) scCheck.nd rfl (.inl rfl)) pgs_nil)))) pgs_nil))) (pss_cons (ps_if (PW.pt (pw_or (pt_cmpR op_gt (pv 2) (pe_glob (by rfl) hM rM) (nomark _)) (pw_or (pt_not (pt_val (pe_call G.ok hr1 (by rfl) G.gl G.kp G.bd .nil pass0 (pa_cons (pv 3) (pa_cons (pv 4) pa_nil))))) (pw_or1 (pt_cmpR (op_inT hu) (pe_tup (pa_cons (pv 3) (pa_cons (pv 4) pa_nil))) (pv 1) (by rfl)))))) (pss_one (ps_raise rfl (takes_of rfl rfl rfl rfl) (pmk_oex Ex.T Ex.at_ Ex.ty Ex.ok hr2 Ex.bd .nil pass0 (by rfl) Ex.gl (pa_cons (pv 2) pa_nil)))) pss_nil)
        (pss_cons (ps_if (pt_not (pt_val (pe_call D.ok hr (by rfl) D.gl D.kp D.bd .nil pass0 (pa_cons (pv 5) (pa_cons (ClX.pe_cval (pe_glob (v := .ref C) (by rfl) T.gC rfl)) pa_nil))))) (pss_one (ps_raise rfl (takes_of rfl rfl rfl rfl) (pmk_oex Ex.T Ex.at_ Ex.ty Ex.ok hr2 Ex.bd .nil pass0 (by rfl) Ex.gl (pa_cons (pv 2) pa_nil)))) pss_nil)
        (pss_one (ps_expr (pe_addT hu (pv 1) (pa_cons (pe_tup (pa_cons (pv 3) (pa_cons (pv 4) pa_nil))) pa_nil))))))))), ?_⟩
    refine ⟨rfl, fun D0 nD0 => ?_⟩
    have s0 := same_upd (o := SetTO P w D0 []) nD0
    have hD0 : (upd H D0 (SetTO P w D0 [])) D0 = some (SetTO P w D0 []) := upd_same
    refine ⟨_, rfl, a, _, rfl, rfl, SqL.of (s0 _ _ hc.lst), for_it walkS (fun i σ G => ∃ y2 y3 y4 y5 L, σ = [some (.ref a), some (.ref D0), y2, y3, y4, y5] ∧ Same H G ∧ (∀ b o, b ≠ D0 → upd H D0 (SetTO P w D0 []) b = some o → G b = some o) ∧ G D0 = some (SetTO P w D0 L) ∧ (∀ p ∈ L, G p.1 = some (.tup (p.2.map V.int))) ∧
      (∀ c : Int × Int, [c.1, c.2] ∈ L.map (·.2) ↔ c ∈ seenOf (ks.map (·.2)) i) ∧ L.length ≤ i ∧ i ≤ 8 ∧ fstBad 1 [] (ks.map (·.2)) = fstBad (i + 1) (seenOf (ks.map (·.2)) i) ((ks.map (·.2)).drop i)) ⟨_, _, _, _, [], rfl, s0, fun _ _ _ e => e, hD0, (fun p hp => nomatch hp), (fun c => ⟨fun z => (nomatch z), fun z => (nomatch z)⟩), Nat.le_refl _, by decide, rfl⟩ (fun i σ G _ ⟨_, _, _, _, _, _, sG, _⟩ => SqL.of (sG _ _ hc.lst)) ?_ ?_⟩
    · rintro i x σ G G' hi ⟨y2, y3, y4, y5, L, rfl, sG, oG, hD, hL, hk, ll, i8, ef⟩ ⟨T1, x1, rfl, nT, rfl, gx⟩
      obtain ⟨t, c, hti, rfl⟩ := refC_at gx
      have mq : (t, c) ∈ ks := List.mem_of_getElem? hti
      have s1 := same_upd (o := .tup [.int ((i : Int) + 1), .ref t]) nT
      have s2 := sG.trans s1
      have ht := s2 _ _ (hc.each _ mq)
      have hci : (ks.map (·.2))[i]? = some c := by
        rw [List.getElem?_map, hti]
        rfl
      have edr : (ks.map (·.2)).drop i = c :: (ks.map (·.2)).drop (i + 1) := by
        obtain ⟨h1, h2⟩ := List.getElem?_eq_some_iff.mp hci
        rw [List.drop_eq_getElem_cons h1, h2]
      rw [edr, fst_step] at ef
      have isbad : badAt (i + 1) (seenOf (ks.map (·.2)) i) c = true → fstBad 1 [] (ks.map (·.2)) = some (i + 1) := fun e => by rw [ef, if_pos e]
      refine ⟨T1, _, rfl, SqT.of upd_same, rfl, _, _, rfl, _, _, rfl, t, _, rfl, SqT.of ht, rfl, _, _, rfl, _, _, rfl, _, _, rfl, rfl, rfl, ?_⟩
      refine ⟨_, rfl, _, _, rfl, rfl, _, rfl, ?_⟩
      by_cases b1 : 8 < i + 1
      · have hb := isbad (by unfold badAt; simp [b1])
        refine iteTe (decide_eq_true (by omega)) (iteT ?_)
        refine ⟨_, rfl, by show 1 ≤ 1000; decide, fun x nx => ⟨x, _, rfl, upd_same, fun H2 d h1 h2 nd ne sb => ⟨rfl, d, _, h1, h2, ?_, ?_⟩⟩⟩
        · rwa [upd_ne ne] at nd
        · exact bad _ hb d _ (back s2 (by rwa [upd_ne ne] at nd)) upd_same (s2.trans (on_way nx nd ne sb))
      refine iteFe (decide_eq_false (by omega)) ⟨_, rfl, _, rfl, _, _, rfl, _, rfl, ?_⟩
      cases b2 : placeB c.1 with
      | false =>
        have hb := isbad (by unfold badAt; simp [b2])
        refine iteTe rfl (iteT ?_)
        refine ⟨_, rfl, by show 1 ≤ 1000; decide, fun x nx => ⟨x, _, rfl, upd_same, fun H2 d h1 h2 nd ne sb => ⟨rfl, d, _, h1, h2, ?_, ?_⟩⟩⟩
        · rwa [upd_ne ne] at nd
        · exact bad _ hb d _ (back s2 (by rwa [upd_ne ne] at nd)) upd_same (s2.trans (on_way nx nd ne sb))
      | true =>
      refine iteFe rfl ⟨_, rfl, _, rfl, by show 2 ≤ sizeLine; decide, fun p np => ?_⟩
      have s3 := s2.trans (same_upd (o := .tup [.int c.1.1, .int c.1.2]) np)
      have hD2 : upd (upd G T1 (.tup [.int ((i : Int) + 1), .ref t])) p (.tup [.int c.1.1, .int c.1.2]) D0 = some (SetTO P w D0 L) := by
        rw [upd_ne (ne_of_none (s1 _ _ hD) np)]
        exact s1 _ _ hD
      have hL2 : ∀ q ∈ L, upd (upd G T1 (.tup [.int ((i : Int) + 1), .ref t])) p (.tup [.int c.1.1, .int c.1.2]) q.1 = some (.tup (q.2.map V.int)) := fun q hq => same_upd np _ _ (s1 _ _ (hL q hq))
      refine ⟨_, rfl, p, D0, [c.1.1, c.1.2], L, rfl, rfl, SqT.of upd_same, hD2, fun q hq => SqT.of (hL2 q hq), _, rfl, ?_⟩
      by_cases b3 : c.1 ∈ seenOf (ks.map (·.2)) i
      · have hb := isbad (by unfold badAt; simp [b3])
        refine iteTe (decide_eq_true ((hk c.1).mpr b3)) ?_
        refine ⟨_, rfl, by show 1 ≤ 1000; decide, fun x nx => ⟨x, _, rfl, upd_same, fun H2 d h1 h2 nd ne sb => ⟨rfl, d, _, h1, h2, ?_, ?_⟩⟩⟩
        · rwa [upd_ne ne] at nd
        · exact bad _ hb d _ (back s3 (by rwa [upd_ne ne] at nd)) upd_same (s3.trans (on_way nx nd ne sb))
      refine iteFe (decide_eq_false fun z => b3 ((hk c.1).mp z)) ?_
      refine ⟨_, rfl, C, mc, _, uE, rfl, cr, hE, c.2, 35, (by rw [hash_S]; rfl), each _ mq, fun G4 s4 => ⟨_, rfl, ?_⟩⟩
      cases b4 : diffB 35 c.2 with
      | false =>
        have hb := isbad (by unfold badAt; simp [b4])
        have s5 := s3.trans s4
        refine iteT ?_
        refine ⟨_, rfl, by show 1 ≤ 1000; decide, fun x nx => ⟨x, _, rfl, upd_same, fun H2 d h1 h2 nd ne sb => ⟨rfl, d, _, h1, h2, ?_, ?_⟩⟩⟩
        · rwa [upd_ne ne] at nd
        · exact bad _ hb d _ (back s5 (by rwa [upd_ne ne] at nd)) upd_same (s5.trans (on_way nx nd ne sb))
      | true =>
      refine iteF ?_
      refine ⟨_, rfl, ⟨D0, L, rfl, s4 _ _ hD2, fun q hq => SqT.of (s4 _ _ (hL2 q hq))⟩, _, rfl, _, rfl, by show 2 ≤ sizeLine; decide, fun p2 np2 => ?_⟩
      have s6 := same_upd (o := .tup [.int c.1.1, .int c.1.2]) np2
      have hD3 := s6 _ _ (s4 _ _ hD2)
      have new : [c.1.1, c.1.2] ∉ L.map (·.2) := fun z => b3 ((hk c.1).mp z)
      refine ⟨D0, p2, [c.1.1, c.1.2], L, rfl, rfl, hD3, fun q hq => SqT.of (s6 _ _ (s4 _ _ (hL2 q hq))), SqT.of upd_same, by omega, fun L' _ c2 => ?_⟩
      have pm := c2 new
      have s7 : ∀ b o, b ≠ D0 → upd G4 p2 (.tup [.int c.1.1, .int c.1.2]) b = some o → upd (upd G4 p2 (.tup [.int c.1.1, .int c.1.2])) D0 (SetTO P w D0 L') b = some o := fun b o nb e => by
        rw [upd_ne nb]
        exact e
      have sAll : Same G (upd G4 p2 (.tup [.int c.1.1, .int c.1.2])) := ((s1.trans (same_upd np)).trans s4).trans s6
      have np2D : p2 ≠ D0 := Ne.symm (ne_of_none (s4 _ _ hD2) np2)
      refine ⟨_, _, _, _, L', rfl, fun b o e => ?_, fun b o nb e => s7 b o nb (sAll _ _ (oG b o nb e)), upd_same, fun q hq => ?_, fun d => ?_, ?_, by omega, ?_⟩
      · exact s7 b o (ne_of_none e nD0) (sAll _ _ (sG _ _ e))
      · rcases List.mem_cons.mp (pm.mem_iff.mp hq) with z | z
        · subst z
          exact s7 _ _ np2D upd_same
        · refine s7 _ _ (fun y => ?_) (sAll _ _ (hL q z))
          have y2 := hL q z
          rw [y, hD] at y2
          cases y2
      · rw [(pm.map (·.2)).mem_iff, seen_succ hci, List.map_cons, List.mem_cons, List.mem_cons, hk d]
        constructor
        · rintro (z | z)
          · simp only [List.cons.injEq, and_true] at z
            exact .inl (Prod.ext z.1 z.2)
          · exact .inr z
        · rintro (z | z)
          · rw [z]
            exact .inl rfl
          · exact .inr z
      · rw [pm.length_eq, List.length_cons]
        omega
      · rw [ef, if_neg (by unfold badAt; simp [b1, b2, b3, b4]), seen_succ hci]
    · rintro σ G ⟨y2, y3, y4, y5, L, rfl, sG, oG, hD, hL, hk, ll, i8, ef⟩
      refine good ?_ G sG
      rw [ef, show (refC ks).length = (ks.map (·.2)).length by unfold refC; rw [List.length_map, List.length_map], List.drop_length]
      rfl
end
end Pm
namespace Pm
open PySem PySem.Spec PyProof.Rows L2 SX
/-- from top to bottom, then from left to right -/
def fl (p : Int × Int) : Int × Int := (p.2, p.1)
def Ord (cs : List Cnd) : Prop := cs.Pairwise fun p q => SrtO.lexB (fl q.1) (fl p.1) = false
def ascC (c : Cnd) : Cnd := (c.1, asc c.2)
def unS (s : Str) : List Nat := s.cps.toList
theorem S_unS (s : Str) : S (unS s) = s := by
  obtain ⟨a⟩ := s
  rfl
theorem unS_S (z : List Nat) : unS (S z) = z := by
  unfold unS
  simp
section
variable {P : Program} {w : World} {K : PySem.W.Frag} {mg : Str → Option Value} {base : Heap} {C CI : Addr}
def spNeed (CI : Addr) : Sp := fun vs H Q E => ∃ n c, vs = [.int n, .int c] ∧ (¬ (0 ≤ n ∧ n ≤ c) → Lets E CI [("part", .int 0)] H) ∧ (0 ≤ n ∧ n ≤ c → Q .non H)
theorem scNeed : FnScope ["need", "count"] ["need", "count"] (defScope gCheckNeed) := ⟨rfl, rfl, rfl, by decide +kernel, rfl, by decide +kernel, by decide +kernel⟩
theorem ok_need {f e : Addr} {fd ed : FuncData} (F : Fun K "_check_need" "_check_need" gCheckNeed f fd) (Ex : EMk P w K mg base CI "InvalidRule" ["self", "part"] (spE1 CI "part") e ed) : FnOk P w K mg base (L2.CX P w) 3 f fd ["need", "count"] (spNeed CI) := by
  refine F.okX scNeed (fun vs H Q E h => ?_) (fun cdv A outer s H vs Q E hr h => ?_)
  · obtain ⟨n, c, rfl, _⟩ := h
    rfl
  · obtain ⟨n, c, rfl, bad, good⟩ := h
    have hr2 : Room 2 _ := hr
    refine ⟨_, (pss_one (ps_if (pt_not (pt_chain op_le op_le pe_int (pv 0) (pv 1))) (pss_one (ps_raise rfl (takes_of rfl rfl rfl rfl) (pmk_oex Ex.T Ex.at_ Ex.ty Ex.ok hr2 Ex.bd .nil pass0 (by rfl) Ex.gl (pa_cons pe_int pa_nil)))) pss_nil)), ?_⟩
    have out : ¬ (0 ≤ n ∧ n ≤ c) → ∀ x, H x = none → ∀ H2 d, H2 x = some (exo x CI (some d)) → H2 d = some (exd d [("part", .int 0)]) → upd H x (exo x CI none) d = none → d ≠ x → SameBut x (upd H x (exo x CI none)) H2 → E (.ref CI) (some d) (upd (del H2 x) d (.xd [("part", .int 0)])) := fun nb x nx H2 d h1 h2 nd ne sb => by
      exact bad nb d _ (by rwa [upd_ne ne] at nd) upd_same (on_way nx nd ne sb)
    refine ⟨_, rfl, _, _, rfl, rfl, _, rfl, ite2 (fun a => ?_) (fun a => ?_)⟩
    · have a : 0 ≤ n := of_decide_eq_true a
      refine ⟨_, rfl, _, _, rfl, rfl, _, rfl, ?_⟩
      by_cases b : n ≤ c
      · exact iteFe (by rw [decide_eq_true b]; rfl) (good ⟨a, b⟩)
      · refine iteTe (by rw [decide_eq_false b]; rfl) ⟨by show 1 ≤ 1000; decide, fun x nx => ⟨x, _, rfl, upd_same, fun H2 d h1 h2 nd ne sb => ⟨rfl, d, _, h1, h2, ?_, ?_⟩⟩⟩
        · rwa [upd_ne ne] at nd
        · exact out (fun z => b z.2) x nx H2 d h1 h2 nd ne sb
    · have a : ¬ 0 ≤ n := fun z => a (decide_eq_true z)
      refine ⟨_, rfl, iteT ⟨by show 1 ≤ 1000; decide, fun x nx => ⟨x, _, rfl, upd_same, fun H2 d h1 h2 nd ne sb => ⟨rfl, d, _, h1, h2, ?_, ?_⟩⟩⟩⟩
      · rwa [upd_ne ne] at nd
      · exact out (fun z => a z.1) x nx H2 d h1 h2 nd ne sb
def spInOrder : Sp := fun vs H Q _ => ∃ a ks, vs = [.ref a] ∧ CndsAt H a ks ∧ ks.length ≤ 1000 ∧ (∀ q ∈ ks, q.2.2.length ≤ 1000) ∧ (ks.map fun q => q.2.1).Nodup ∧
  ∀ p ms H', Same H H' → H p = none → CndsAt H' p ms → (ms.map (·.2)).Perm ((ks.map (·.2)).map ascC) → Ord (ms.map (·.2)) → Q (.ref p) H'
abbrev nInOrder : List Str := ["conditions", "dx", "dy", "signs", "flipped"]
theorem scInOrder : FnScope nInOrder ["conditions"] (defScope gInOrder) := ⟨rfl, rfl, rfl, by decide +kernel, rfl, by decide +kernel, by decide +kernel⟩
theorem ok_inorder {f g : Addr} {fd gd : FuncData} (F : Fun K "_in_order" "_in_order" gInOrder f fd) (G : Cl P w K mg base CX0 1 "in_ascii_order" ["signs"] spAsc g gd) (R : STxt K mg) : FnOk P w K mg base CX0 2 f fd ["conditions"] spInOrder := by
  refine F.ok scInOrder (fun vs H Q E h => ?_) (fun cdv A outer s H vs Q E hr h => ?_)
  · obtain ⟨a, ks, rfl, _⟩ := h
    rfl
  · obtain ⟨a, ks, rfl, hc, few, each, nd, k⟩ := h
    refine ⟨_, (pss_cons (ps_set (i := 4) scInOrder.nd rfl (.inl rfl) (pe_callB cr_sortedTr (by rfl) R.srt (by decide +kernel) (pa_cons (pe_lc (own := [("dx", 1), ("dy", 2), ("signs", 3)]) (g := (gTup K 3 (gCons (gName 1) (gCons (gName 2) (gCons (gName 3) gNil))))) (tt := tYes) rfl scInOrder.nd (pi_list (pv 0)) (blkOk_by (own := [("dx", 1), ("dy", 2), ("signs", 3)]) (N := nInOrder) (sc := defScope gInOrder) (by decide +kernel)) (fun _ _ _ _ _ => (pg_tup rfl (pgs_cons (pg_name (i := 1) scInOrder.nd rfl (.inl rfl)) (pgs_cons (pg_name (i := 2) scInOrder.nd rfl (.inl rfl)) (pgs_cons (pg_name (i := 3) scInOrder.nd rfl (.inl rfl)) pgs_nil))))) (fun _ _ _ _ _ => pts_nil) (fun _ _ _ _ _ => (pe_tup (pa_cons (pv 2) (pa_cons (pv 1) (pa_cons (pe_call G.ok hr (by rfl) G.gl G.kp G.bd .nil pass0 (pa_cons (pv 3) pa_nil)) pa_nil)))))) pa_nil)))
      (pss_one (ps_ret (pe_lc (own := [("dy", 2), ("dx", 1), ("signs", 3)]) (g := (gTup K 3 (gCons (gName 2) (gCons (gName 1) (gCons (gName 3) gNil))))) (tt := tYes) rfl scInOrder.nd (pi_list (pv 4)) (blkOk_by (own := [("dy", 2), ("dx", 1), ("signs", 3)]) (N := nInOrder) (sc := defScope gInOrder) (by decide +kernel)) (fun _ _ _ _ _ => (pg_tup rfl (pgs_cons (pg_name (i := 2) scInOrder.nd rfl (.inl rfl)) (pgs_cons (pg_name (i := 1) scInOrder.nd rfl (.inl rfl)) (pgs_cons (pg_name (i := 3) scInOrder.nd rfl (.inl rfl)) pgs_nil))))) (fun _ _ _ _ _ => pts_nil) (fun _ _ _ _ _ => (pe_tup (pa_cons (pv 1) (pa_cons (pv 2) (pa_cons (pv 3) pa_nil))))))))), ?_⟩
    refine ⟨.ref a, rfl, a, rfl, ⟨_, SqL.of hc.lst⟩, fun D nD => lc_list (K := K) (a := a) (xs := refC ks) (fun i G => ∃ ts : List Trip, Same H G ∧ G D = some (.lst (ts.map fun p => V.ref p.1)) ∧ (∀ p ∈ ts, G p.1 = some (TripO p)) ∧ ts.map (·.2) = (ks.take i).map fun q => (fl q.2.1, S (asc q.2.2))) ⟨[], same_upd nD, upd_same, (fun p hp => nomatch hp), rfl⟩ (fun i G _ ⟨ts, sm, _⟩ => SqL.of (sm _ _ hc.lst)) ?_ ?_⟩
    · rintro i x G hx ⟨ts, sm, hD, ht, et⟩
      obtain ⟨t, c, hi, rfl⟩ := refC_at hx
      have mq := List.mem_of_getElem? hi
      have htc := sm _ _ (hc.each _ mq)
      have li : i < ks.length := (List.getElem?_eq_some_iff.mp hi).1
      refine ⟨t, _, rfl, SqT.of htc, rfl, _, _, rfl, _, _, rfl, _, _, rfl, rfl, rfl, ?_⟩
      refine tyes (iteT ⟨_, rfl, _, rfl, _, rfl, c.2, rfl, each _ mq, fun G2 s2 => ⟨by show 3 ≤ sizeLine; decide, fun T nT => ?_⟩⟩)
      have s3 := s2.trans (same_upd (o := .tup [.int c.1.2, .int c.1.1, .str (S (asc c.2))]) nT)
      have nDT : D ≠ T := ne_of_none (s2 _ _ hD) nT
      refine ⟨ts.map fun p => V.ref p.1, s3 _ _ hD, ?_, ts ++ [(T, fl c.1, S (asc c.2))], fun b o e => ?_, ?_, fun p hp => ?_, ?_⟩
      · have := congrArg List.length et
        rw [List.length_map, List.length_map, List.length_take] at this
        rw [List.length_map]
        exact small1000 (by omega)
      · rw [upd_ne (ne_of_none e nD)]
        exact s3 _ _ (sm _ _ e)
      · rw [upd_same, List.map_append]
        rfl
      · have pD : ∀ q : Trip, upd G2 T (.tup [.int c.1.2, .int c.1.1, .str (S (asc c.2))]) q.1 = some (TripO q) → q.1 ≠ D := fun q e y => by
          rw [y, s3 _ _ hD] at e
          cases e
        rcases List.mem_append.mp hp with z | z
        · have y := s3 _ _ (ht p z)
          rw [upd_ne (pD p y)]
          exact y
        · rw [List.mem_singleton.mp z]
          rw [upd_ne nDT.symm]
          exact upd_same
      · rw [List.map_append, et, List.take_add_one, hi, List.map_append]
        rfl
    · rintro G ⟨ts, sm, hD, ht, et⟩
      rw [show (refC ks).length = ks.length from List.length_map _, List.take_of_length_le (Nat.le_refl _)] at et
      have ndt : (ts.map fun p => p.2.1).Nodup := by
        have e : ts.map (fun p => p.2.1) = (ks.map fun q => q.2.1).map fl := by
          have y := congrArg (List.map Prod.fst) et
          rw [List.map_map, List.map_map] at y
          rw [List.map_map]
          exact y
        rw [e]
        exact List.pairwise_map.mpr (nd.imp fun ne e => ne (Prod.ext (congrArg Prod.snd e) (congrArg Prod.fst e)))
      refine ⟨D, ts, rfl, SqL.of hD, ht, ndt, fun M d pm pw nd2 => ?_⟩
      have sM := same_upd (o := .lst (M.map fun p => V.ref p.1)) nd2
      have hM : ∀ p ∈ M, upd G d (.lst (M.map fun p => V.ref p.1)) p.1 = some (TripO p) := fun p hp => sM _ _ (ht p (pm.mem_iff.mp hp))
      have hd : upd G d (.lst (M.map fun p => V.ref p.1)) d = some (.lst (M.map fun p => V.ref p.1)) := upd_same
      generalize upd G d (.lst (M.map fun p => V.ref p.1)) = G1 at sM hM hd
      have s01 := sm.trans sM
      refine ⟨.ref d, rfl, d, rfl, ⟨_, SqL.of hd⟩, fun D2 nD2 => lc_list (K := K) (a := d) (xs := M.map fun p => V.ref p.1) (fun i G => ∃ ms : List (Addr × Cnd), Same G1 G ∧ G D2 = some (.lst (refC ms)) ∧ (∀ q ∈ ms, G q.1 = some (CondO q.2)) ∧ ms.map (·.2) = (M.take i).map fun p => (fl p.2.1, unS p.2.2)) ⟨[], same_upd nD2, upd_same, (fun p hp => nomatch hp), rfl⟩ (fun i G _ ⟨ms, sm, _⟩ => SqL.of (sm _ _ hd)) ?_ ?_⟩
      · rintro i x G2 hx ⟨ms, sm2, hD2, hms, em⟩
        rw [List.getElem?_map] at hx
        obtain ⟨p, hi, rfl⟩ : ∃ p, M[i]? = some p ∧ x = V.ref p.1 := by
          cases e : M[i]? with
          | none =>
            rw [e] at hx
            cases hx
          | some p =>
            rw [e] at hx
            cases hx
            exact ⟨p, rfl, rfl⟩
        have mp := List.mem_of_getElem? hi
        have htc := sm2 _ _ (hM p mp)
        refine ⟨p.1, _, rfl, SqT.of htc, rfl, _, _, rfl, _, _, rfl, _, _, rfl, rfl, rfl, ?_⟩
        refine tyes (iteT ⟨_, rfl, _, rfl, _, rfl, by show 3 ≤ sizeLine; decide, fun T nT => ?_⟩)
        have s3 := same_upd (o := .tup [.int p.2.1.2, .int p.2.1.1, .str p.2.2]) nT
        have nDT : D2 ≠ T := ne_of_none hD2 nT
        refine ⟨refC ms, s3 _ _ hD2, ?_, ms ++ [(T, fl p.2.1, unS p.2.2)], fun b o e => ?_, ?_, fun q hq => ?_, ?_⟩
        · have e1 := congrArg List.length em
          have e2 := pm.length_eq
          have e3 := congrArg List.length et
          rw [List.length_map, List.length_map, List.length_take] at e1
          rw [List.length_map, List.length_map] at e3
          rw [show (refC ms).length = ms.length from List.length_map _]
          exact small1000 (by omega)
        · rw [upd_ne (ne_of_none e nD2)]
          exact s3 _ _ (sm2 _ _ e)
        · rw [upd_same]
          unfold refC
          rw [List.map_append]
          rfl
        · rcases List.mem_append.mp hq with z | z
          · have y := s3 _ _ (hms q z)
            rw [upd_ne (fun e => ?_)]
            · exact y
            · rw [e, s3 _ _ hD2] at y
              cases y
          · rw [List.mem_singleton.mp z]
            rw [upd_ne nDT.symm, upd_same]
            show _ = some (HO.tup [.int (fl p.2.1).1, .int (fl p.2.1).2, .str (S (unS p.2.2))])
            rw [S_unS]
            rfl
        · rw [List.map_append, em, List.take_add_one, hi, List.map_append]
          rfl
      · rintro G2 ⟨ms, sm2, hD2, hms, em⟩
        rw [List.length_map, List.take_of_length_le (Nat.le_refl _)] at em
        have sAll := s01.trans sm2
        refine k D2 ms G2 sAll (back s01 nD2) ⟨hD2, hms⟩ ?_ ?_
        · rw [em]
          have y := pm.map fun p : Trip => ((fl p.2.1, unS p.2.2) : Cnd)
          have e : (ts.map fun p : Trip => ((fl p.2.1, unS p.2.2) : Cnd)) = (ks.map (·.2)).map ascC := by
            have z := congrArg (List.map fun x : (Int × Int) × Str => ((fl x.1, unS x.2) : Cnd)) et
            rw [List.map_map, List.map_map] at z
            rw [List.map_map]
            refine z.trans (List.map_congr_left fun q _ => ?_)
            show ((fl (fl q.2.1), unS (S (asc q.2.2))) : Cnd) = ascC q.2
            rw [unS_S]
            rfl
          rw [e] at y
          exact y
        · unfold Ord
          rw [em]
          exact List.pairwise_map.mpr (pw.imp fun {p q} e => e)
end
end Pm
namespace Pm
open PySem PySem.Spec PyProof.Rows L2 SX NdefX
/-! ### a def whose first statement is super().m(e, ..) -/
/-- a def of the text that closes over __class__ (the class at D), its first parameter self -/
structure FunS (prog : Program) (K : PySem.W.Frag) (x qual : Str) (st : Stmt) (D f cc cda : Addr) (fd : FuncData) : Prop where
  ex : ∃ (oc : Value) (od : Option Addr) (dV kV doc pm : Value) (an : Option Addr) (ct : Value) (osl : Array (Option Value)),
    fd = PySem.W.fnX x qual (defArgs st) (defBody st) (defScope st) [("__class__", cc)] dV kV doc pm an (.ref cda) ct ∧ K.lookup f = some ⟨oc, od, .func fd, osl⟩ ∧ PySem.W.codeIn K (.ref cda) qual = true
  cell : ∃ (cl : Value) (cld : Option Addr) (csl : Array (Option Value)), K.lookup cc = some ⟨cl, cld, .cell (some (.ref D)), csl⟩
  code : ∃ (ccl : Value) (cdd : Option Addr) (vs : Array Value) (ccs : Array (Option Value)) (file : Str) (tf : Tok), K.lookup cda = some ⟨ccl, cdd, .fields vs, ccs⟩ ∧ vs[2]? = some (.str file tf) ∧ ((prog.main.file : Str) == file) = true
  cls : ∃ cd, PySem.W.clsIn K D = some cd
  top : (prog.main.scope.names.lookup ("super" : Str)).isSome = false
  any : PySem.W.nsIn K cStatics "thirdparty.any" = some none
  arg : ∃ ar : Arg, ((defArgs st).posonlyargs ++ (defArgs st).args).head? = some ar ∧ ar.arg = "self"
/-- the class C of self: below D; super() finds m at g -/
structure SupM (K : PySem.W.Frag) (C D : Addr) (m : Str) (g : Addr) : Prop where
  sub : PySem.W.mroIn K C (.ref D) = some true
  at_ : PySem.W.ks_superIn K C D m = some (some (.ref g))
  ty : PySem.W.typeIn K (.ref g) = some (.type "function")
  fi : PySem.W.fnIn K g = true
section
variable {CX CXf : CXT} {P : Program} {w : World} {K : PySem.W.Frag} {mg : Str → Option Value} {base : Heap} {N ps ps2 : List Str} {D f g C cc cda : Addr} {k j : Nat} {x qual m : Str} {st : Stmt} {fd gd : FuncData} {sp sp2 : Sp} {p0 p1 apos pos pos2 : Pos} {e : Expr} {es : List Expr} {rest : List Stmt} {pl : Sem Bool}
abbrev supNF (x qual : Str) (st : Stmt) (cc cda : Addr) : NF := ⟨x, qual, defArgs st, defBody st, defScope st, [("__class__", cc)], cda⟩
abbrev supCx (CX : CXT) (P : Program) (w : World) (K : PySem.W.Frag) (mg : Str → Option Value) (base : Heap) (N : List Str) (x qual : Str) (st : Stmt) (f cc cda : Addr) (A : Around) (outer : List Env) (s : Shared) (H : Hp) (E : XK) : Cx := ncx CX P w K mg base N (supNF x qual st cc cda) f A outer s H E
theorem supfn_of (F : FunS P K x qual st D f cc cda fd) (S : NScope N ps ["__class__"] (defScope st)) (gm : mg "super" = none) (ks : (defScope st).names.lookup ("super" : Str) = some .globalImplicit)
    (p0s : ps[0]? = some ("self" : Str)) (hat : (m == ("__class__" : Str)) = false)
    (hb : defBody st = .Expr (.Call (.Attribute (.Call (.Name "super" p0) [] [] p1) m apos) (e :: es) [] pos) pos2 :: rest)
    (hM : SupM K C D m g) (G : FnOk P w K mg base CXf j g gd ps2 sp2) (bG : Binds K gd ps2 [])
    (len : ∀ vs H Q E, sp vs H Q E → vs.length = ps.length)
    (hbody : ∀ (A : Around) (outer : List Env) (s : Shared) (H : Hp) (vs : List V) (Q : VK) (E : XK), Room k (A.deeper (envF (supNF x qual st cc cda) f s.heap.objs.size)) → sp vs H Q E →
      ∃ (t : TA) (u : TS) (xa dx : Addr) (fs : List (Str × V)) (E2 : XK), vs[0]? = some (.ref xa) ∧ H xa = some (.ins C dx fs) ∧ Room j (A.deeper (envF (supNF x qual st cc cda) f s.heap.objs.size)) ∧
        (∀ σ, PassesAt CXf (supCx CX P w K mg base N x qual st f cc cda A outer s H E) σ E2) ∧
        PA (supCx CX P w K mg base N x qual st f cc cda A outer s H E) (e :: es) t ∧ PSs (supCx CX P w K mg base N x qual st f cc cda A outer s H E) rest u ∧
        t (startF N vs [some (.ref D)]) H (fun us H1 => sp2 (.ref xa :: us) H1 (fun _ H2 => u { nx := fun _ H' => Q .non H', rt := Q } (startF N vs [some (.ref D)]) H2) E2))
    (ht : ∀ env : Env, eval (.Call (.Attribute (.Call (.Name "super" p0) [] [] p1) m apos) (e :: es) [] pos) env = (do
      let ov ← attributeBase (.Call (.Name "super" p0) [] [] p1) m env (eval (.Call (.Name "super" p0) [] [] p1) env)
      standAt apos.atName
      let (f, first) ← holding [ov] (getMethod ov m pl)
      callWith pos f first (backTo pos (starEach (e :: es) env)) []) := by intro _; rfl)
    (hst : ∀ env : Env, starEach (e :: es) env = (false, eval e env) :: starEach es env := by intro _; rfl) (hpl : ∀ env : Env, (backTo pos (starEach es env)).any (·.1) = false := by intro _; rfl)
    (hi : ∀ env : Env, env.scope = defScope st → interactive env = false := by intro _ z; unfold interactive; rw [z]; rfl)
    (hsw : ∀ env : Env, swapsWith (.Call (.Attribute (.Call (.Name "super" p0) [] [] p1) m apos) (e :: es) [] pos) none pos2.line env = pure false := by intro _; rfl) :
    FnOk P w K mg base CX (k + 1) f fd ps sp := by
  obtain ⟨oc, od, dV, kV, doc, pm, an, ct, osl, rfl, lk, hcd⟩ := F.ex
  obtain ⟨cl, cld, csl, lc⟩ := F.cell
  obtain ⟨ccl, cdd, cvs, ccs, file, tf, lcode, hvs, hfile⟩ := F.code
  obtain ⟨cdD, hD⟩ := F.cls
  obtain ⟨ar, har, hself⟩ := F.arg
  refine ⟨len, fun A outer s H args us vs Q E hr e0 hbind r hsp => ?_⟩
  have hl := len _ _ _ _ hsp
  have KX : K.In s.heap := e0.mod.kin.keeps fun b o e => (e0.bs b o e).1
  have lim : s.heap.NoLimit := e0.mod.nolimit.keeps fun b o e => (e0.bs b o e).1
  refine codeAny_call_function hr.depth (KX _ _ lk) rfl S.co S.gen rfl (PySem.W.codeRec_of KX hcd) (hbind _ _ _ _ ?_)
  refine wpAny_newFunctionEnv S.nocell (fun ⟨n, _⟩ hy => S.par n (List.of_mem_zip hy).1) (fun h₁ hns hsb => ⟨lim.fresh _ hsb, ?_⟩) S.kind
  show codeAny _ _ (.func (defBody st) (envF (supNF x qual st cc cda) f s.heap.objs.size)) _ _
  refine ks_codeAny_funcAt ?_
  have kp : ∀ b o, s.heap.get? b = some o → h₁.get? b = some o := fun b o e => hsb.extBut b o (Nat.ne_of_lt (Heap.lt_size e)) (Heap.get?_push_of_some _ e)
  obtain ⟨t, u, xa, dx, fs, E2, hv0, hxa, hrj, hx, ha, hrest, asked⟩ := hbody A outer s H vs Q E (hr.deeper _) hsp
  have one : ∀ {y : Str} {c : Addr}, List.lookup y [(("__class__" : Str), cc)] = some c → y = "__class__" ∧ c = cc := fun {y c} z => by
    simp only [List.lookup] at z
    split at z
    · rename_i q
      exact ⟨eq_of_beq q, (Option.some.inj z).symm⟩
    · cases z
  have hcc : s.heap.IsCell cc (some (.ref D)) := ⟨_, KX _ _ lc, rfl⟩
  have C0 : CellsAt (supNF x qual st cc cda).cl ["__class__"] [some (.ref D)] s.heap H := by
    refine ⟨rfl, fun y c z => ?_, fun y y' c z z' => (one z).1.trans (one z').1.symm, fun i y hi => ?_⟩
    · rw [(one z).2]
      exact ⟨(e0.bs _ _ (e0.mod.kin _ _ lc)).2, _, hcc⟩
    · match i, hi with
      | 0, hi =>
        cases hi
        refine ⟨cc, by simp [List.lookup], fun v hv => ?_⟩
        have hv : (some (V.ref D) : Option V) = some v := by simpa using hv
        cases hv
        exact ⟨.ref D, rfl, hcc⟩
  have I : L2.Inv (supCx CX P w K mg base N x qual st f cc cda A outer s H E) [] (startF N vs [some (.ref D)]) H { s with heap := h₁, toks := s.toks + (ps.zip us).length } := inv_startN S hr.hd e0 hl r C0 hns kp
  generalize { s with heap := h₁, toks := s.toks + (ps.zip us).length } = s1 at I ⊢
  have KX1 : K.In s1.heap := I.kIn
  rw [hb]
  refine ks_wpAt_execs_cons (ks_wpAt_Expr_any (ks_wpAt_MethodCall (pl := pl) ?_ (ht _)) (hi _ rfl) (hsw _))
  -- super()
  have kc : (defScope st).names.lookup ("__class__" : Str) = some .free := S.frk _ List.mem_cons_self
  refine ks_wpAt_super_base (env := envF (supNF x qual st cc cda) f s.heap.objs.size) ks kc hat rfl (KX1 _ _ lk) rfl har rfl (KX1 _ _ lcode) rfl hvs hfile F.top ?_
  obtain ⟨mb, hb1, hb2⟩ := I.mod.blt
  have X := supCx CX P w K mg base N x qual st f cc cda A outer s H E
  refine PySem.W.ks_loadName_global S.kind ks (Calls.loadGlobal_builtin (I.mod.glob.keeps I.bk) gm (hb1.keeps I.bk) ((hb2 "super" (by decide)).trans (by first | boot_by_name | rfl | kernel_rfl)) ⟨rfl, ?_⟩)
  refine wpAny_loadName_free (c := cc) S.kind kc (by simp [List.lookup]) ⟨_, KX1 _ _ lc, rfl⟩ ?_
  rw [hself]
  obtain ⟨m0, hn0, hl0⟩ := I.loc
  have pre0 : N[0]? = some ("self" : Str) := by
    have y := congrArg (fun l => l[0]?) S.pre
    have p0 : 0 < ps.length := (List.getElem?_eq_some_iff.mp p0s).1
    rw [List.getElem?_take_of_lt (by omega), List.getElem?_append_left p0] at y
    exact y.trans p0s
  have st0 : (startF N vs [some (.ref D)])[0]? = some (some (.ref xa)) := by
    have v0 : 0 < vs.length := (List.getElem?_eq_some_iff.mp hv0).1
    unfold startF
    rw [List.getElem?_append_left (by rw [List.length_map]; exact v0), List.getElem?_map, hv0]
    rfl
  obtain ⟨u0, ru0, lu0⟩ := hl0 0 "self" (.ref xa) pre0 st0 (.inl (S.par _ (List.mem_of_getElem? p0s)))
  obtain rfl : u0 = Value.ref xa := ru0
  have ld : m0 ("self" : Str) = some (.ref xa) := by
    rcases lu0 with ⟨_, z⟩ | ⟨z, _⟩
    · exact z
    · rcases z with z | z
      · have := (S.par _ (List.mem_of_getElem? p0s)).symm.trans z
        cases this
      · have := (S.par _ (List.mem_of_getElem? p0s)).symm.trans z
        cases this
  refine wpAny_loadName_local S.kind (S.par _ (List.mem_of_getElem? p0s)) hn0 ld ?_
  obtain ⟨oD, hD1, hD2⟩ : ∃ oD, s1.heap.get? D = some oD ∧ oD.data = .cls cdD := by
    have hD' := hD
    unfold PySem.W.clsIn at hD'
    split at hD'
    · rename_i c d cd' sl ho
      cases hD'
      exact ⟨_, KX1 _ _ ho, rfl⟩
    · cases hD'
  obtain ⟨mA, O, _, _, _, _⟩ := ins_get I.hok hxa
  obtain ⟨odd, J, _⟩ := O.look
  obtain ⟨hh, gg, dd, tt, oss⟩ := s1
  refine ks_wpAny_isType_cls hD1 hD2 ⟨rfl, ?_⟩
  refine ks_wpAny_call_super hD1 hD2 J.at_ J.cls (fun c z => ?_) (PySem.W.looks_mroIn KX1 hM.sub) (fun h' hso k' => ?_)
  · have y := J.no
    unfold PySem.W.notCls at y
    rw [z] at y
    exact Bool.noConfusion y
  have I2 : L2.Inv (supCx CX P w K mg base N x qual st f cc cda A outer s H E) [] (startF N vs [some (.ref D)]) H ⟨h', gg, dd, tt, oss⟩ := I.kept (t' := tt) k'
  have KX2 : K.In h' := I2.kIn
  have J2 : ∃ ox odx, PySem.W.InstAt h' xa ox C odx := by
    obtain ⟨mA, O, _, _, _, _⟩ := ins_get I2.hok hxa
    obtain ⟨od2, J2, _⟩ := O.look
    exact ⟨_, _, J2⟩
  obtain ⟨ox2, odx2, J2⟩ := J2
  cases hc : PySem.W.clsIn K C with
  | none =>
    have z := hM.at_
    unfold PySem.W.ks_superIn at z
    rw [hc] at z
    cases z
  | some cd =>
    have hm := hM.at_
    unfold PySem.W.ks_superIn at hm
    rw [hc] at hm
    obtain ⟨of, hof, hofc⟩ : ∃ of, h'.get? g = some of ∧ of.cls = .type "function" := by
      have ht' : (K.lookup g).map (·.cls) = some (.type "function") := hM.ty
      cases z : K.lookup g with
      | none => rw [z] at ht'; cases ht'
      | some of => rw [z] at ht'; exact ⟨of, KX2 _ _ z, Option.some.inj ht'⟩
    refine ks_wpAny_getMethod_super hso (PySem.W.looks_opaque KX2 F.any) (l₀ := cd.mro) (fun A Q E s k q => wpAny_bind ((PySem.W.looks_clsIn KX2 hc) A _ E s k (wpAny_pure q))) rfl KX2 hm hof hofc (PySem.W.ks_ne KX2 J2 hc) hat ?_
    have I3 := ClX.met_new (g := g) (C := xa) I2
    refine ClX.callwith_cm (X := supCx CX P w K mg base N x qual st f cc cda A outer s H E) I3 (ClX.base_none I2 (Nat.le_refl _)) hM.fi (thn (ha.run pos _ _ _ H _ I3 asked) fun us2 s3 ⟨vs2, H2, I4, rv2, q2⟩ => ⟨⟨ClX.pin_at I4, I4.kIn⟩, ?_⟩) (hst _) (hpl _)
    have l2 : (Value.ref xa :: us2).length = ps2.length := by
      rw [← G.len _ _ _ _ q2, List.length_cons, List.length_cons, rv2.length]
    have bnd := bG s3 (.ref xa :: us2) I4.kIn (by rw [List.append_nil]; exact l2)
    rw [List.append_nil] at bnd
    refine thn (Q := EP (supCx CX P w K mg base N x qual st f cc cda A outer s H E) ((h'.objs.size, PySem.W.methodObj (.ref g) (.ref xa)) :: []) (startF N vs [some (.ref D)]) (fun _ H2 => u { nx := fun _ H' => Q .non H', rt := Q } (startF N vs [some (.ref D)]) H2))
      (wpAny_call (PySem.W.method_call (ClX.pin_at I4) (codeAny_mono (G.run (A.deeper (envF (supNF x qual st cc cda) f s.heap.objs.size)) (supCx CX P w K mg base N x qual st f cc cda A outer s H E).stack s3 H2 ⟨.ref xa :: us2, []⟩ (.ref xa :: us2) (.ref xa :: vs2) _ E2 hrj I4.env0 bnd (.cons rfl rv2) q2) fun r s' z => ?_))) fun _ s4 z => ?_
    · cases r with
      | error er => exact hx _ _ H2 s3 er s' I4 z
      | ok fl =>
        cases fl with
        | ret u => exact I4.after z
        | next => exact z.elim
        | brk => exact z.elim
        | cont => exact z.elim
    · obtain ⟨v5, H5, I5, _, q5⟩ := ClX.unpinE z
      refine wpAt_of_wpAny (wpAny_mono (hrest.run [] _ _ H5 _ I5 q5) (fun fl s' hs => ?_) fun e s' hs => hs)
      have fin : ∀ {σ' : L2.St} {H' : Hp} {v : V} {u : Value}, L2.Inv (supCx CX P w K mg base N x qual st f cc cda A outer s H E) [] σ' H' s' → L2.RelV v u → Q v H' → CE outer P w H s Q u s' :=
        fun {σ' H' v u} J rv q => ⟨v, H', J.os, J.bare, J.base, J.hok, rv, q⟩
      cases fl with
      | ret u =>
        obtain ⟨v, σ', H', J, rv, q⟩ := hs
        exact fin J rv q
      | next =>
        obtain ⟨σ', H', J, q⟩ := hs
        exact fin (v := V.non) (u := Value.none) J rfl q
      | brk =>
        obtain ⟨_, _, _, q⟩ := hs
        exact False.elim q
      | cont =>
        obtain ⟨_, _, _, q⟩ := hs
        exact False.elim q
end
end Pm
namespace Pm
open PySem PySem.Spec PyProof.Rows L2 SX NdefX
/-! ### rules -/
structure RCls (K : PySem.W.Frag) (C : Addr) : Prop where
  cl : L2.Cls K C
  nS : NoAttr K C "stone"
  nC : NoAttr K C "_conditions"
  nN : NoAttr K C "need"
def faultR (st : List Nat) (cs : List Cnd) : Option Nat := if stoneB st then fstBad 1 [] cs else some 0
theorem fst_none : ∀ {cs : List Cnd} {i : Nat} {seen : List (Int × Int)}, fstBad i seen cs = none → (cs.map (·.1)).Nodup ∧ (∀ c ∈ cs, c.1 ∉ seen) ∧ (∀ c ∈ cs, placeB c.1 = true ∧ diffB 35 c.2 = true) ∧ (cs ≠ [] → i + cs.length ≤ 9)
  | [], _, _, _ => ⟨List.nodup_nil, (fun c m => nomatch m), (fun c m => nomatch m), fun z => absurd rfl z⟩
  | c :: r, i, seen, h => by
    rw [fst_step] at h
    split at h
    · cases h
    rename_i nb
    obtain ⟨h1, h2, h3, h4⟩ := fst_none h
    unfold badAt at nb
    simp only [Bool.or_eq_true, Bool.not_eq_true', decide_eq_true_eq, not_or, Bool.not_eq_false] at nb
    obtain ⟨⟨⟨a, b⟩, c1⟩, d⟩ := nb
    refine ⟨List.nodup_cons.mpr ⟨fun m => ?_, h1⟩, fun x m => ?_, fun x m => ?_, fun _ => ?_⟩
    · obtain ⟨x, mx, e⟩ := List.mem_map.mp m
      exact h2 x mx (by rw [e]; exact List.mem_cons_self)
    · rcases List.mem_cons.mp m with e | m
      · rw [e]
        exact c1
      · exact fun y => h2 x m (List.mem_cons_of_mem _ y)
    · rcases List.mem_cons.mp m with e | m
      · rw [e]
        exact ⟨b, d⟩
      · exact h3 x m
    · by_cases e : r = []
      · rw [e, List.length_singleton]
        omega
      · have := h4 e
        rw [List.length_cons]
        omega
section
variable {P : Program} {w : World} {K : PySem.W.Frag} {mg : Str → Option Value} {base : Heap} {C CI : Addr}
/-- an error that leaves a constructor: the object at r is lost -/
def LetsB (r : Addr) (E : XK) (C : Addr) (fs : List (Str × V)) (H : Hp) : Prop := ∀ d H', H d = none → H' d = some (.xd fs) → SameBut r H H' → E (.ref C) (some d) H'
theorem LetsB.lets {r : Addr} {E : XK} {C : Addr} {fs : List (Str × V)} {H : Hp} (h : LetsB r E C fs H) : Lets E C fs H := fun d H' nd hd sg => h d H' nd hd (same_sb sg)
def spRuleInit (CI : Addr) (K : PySem.W.Frag) : Sp := fun vs H Q E => ∃ r dx C st a ks, vs = [.ref r, .str (S st), .ref a] ∧ RCls K C ∧ H r = some (.ins C dx []) ∧ CndsAt H a ks ∧ st.length ≤ 1000 ∧ ks.length ≤ 1000 ∧ (∀ q ∈ ks, q.2.2.length ≤ 1000) ∧
  (∀ p, faultR st (ks.map (·.2)) = some p → LetsB r E CI [("part", .int (p : Int))] H) ∧
  (faultR st (ks.map (·.2)) = none → ∀ H' l ms, SameBut r H H' → H l = none → H' r = some (.ins C dx [("stone", .str (S st)), ("_conditions", .ref l)]) → CndsAt H' l ms → (ms.map (·.2)).Perm ((ks.map (·.2)).map ascC) → Ord (ms.map (·.2)) → Q .non H')
theorem scRuleInit : FnScope ["self", "stone", "conditions"] ["self", "stone", "conditions"] (defScope cRuleInit) := ⟨rfl, rfl, rfl, by decide +kernel, rfl, by decide +kernel, by decide +kernel⟩
theorem ok_ruleinit {f i c o e : Addr} {fd di dc do_ ed : FuncData} (F : Fun K "__init__" "Rule.__init__" cRuleInit f fd) (Is : Cl P w K mg base CX0 1 "is_stone" ["sign"] spStone i di) (Ck : Cl P w K mg base (L2.CX P w) 3 "_check_conditions" ["conditions"] (spCheck CI) c dc) (Io : Cl P w K mg base CX0 2 "_in_order" ["conditions"] spInOrder o do_)
    (Ex : EMk P w K mg base CI "InvalidRule" ["self", "part"] (spE1 CI "part") e ed) : FnOk P w K mg base (L2.CX P w) 4 f fd ["self", "stone", "conditions"] (spRuleInit CI K) := by
  refine F.okX scRuleInit (fun vs H Q E h => ?_) (fun cdv A outer s H vs Q E hr h => ?_)
  · obtain ⟨r, dx, C, st, a, ks, rfl, _⟩ := h
    rfl
  · obtain ⟨r, dx, C, st, a, ks, rfl, T, hr0, hc, fs, few, each, bad, good⟩ := h
    have hr1 : Room 1 _ := hr.mono (by decide)
    have hr2 : Room 2 _ := hr.mono (by decide)
    refine ⟨_, (pss_cons (ps_if (pt_not (pt_val (pe_call Is.ok hr1 (by rfl) Is.gl Is.kp Is.bd .nil pass0 (pa_cons (pv 1) pa_nil)))) (pss_one (ps_raise rfl (takes_of rfl rfl rfl rfl) (pmk_oex Ex.T Ex.at_ Ex.ty Ex.ok hr2 Ex.bd .nil pass0 (by rfl) Ex.gl (pa_cons pe_int pa_nil)))) pss_nil)
      (pss_cons (ps_expr (pe_callS (E := fun _ => E) Ck.ok hr (by rfl) Ck.gl Ck.kp Ck.bd (fun σ pins H s e s' I c => passes_call (takes_of rfl rfl rfl rfl) (fun _ _ _ _ z => z) pins σ H s e s' I c) (pa_cons (pv 2) pa_nil)))
      (pss_cons (ps_fld (pv 0) (pv 1) rfl)
      (pss_one (ps_fld (pv 0) (pe_call Io.ok hr2 (by rfl) Io.gl Io.kp Io.bd .nil pass0 (pa_cons (pv 2) pa_nil)) rfl))))), ?_⟩
    refine ⟨_, rfl, st, rfl, fs, _, rfl, ?_⟩
    cases e0 : stoneB st with
    | false =>
      refine iteT ⟨by show 1 ≤ 1000; decide, fun x nx => ⟨x, _, rfl, upd_same, fun H2 d h1 h2 nd ne sb => ⟨rfl, d, _, h1, h2, ?_, ?_⟩⟩⟩
      · rwa [upd_ne ne] at nd
      · exact bad 0 (by unfold faultR; rw [e0]; rfl) d _ (by rwa [upd_ne ne] at nd) upd_same (same_sb (on_way nx nd ne sb))
    | true =>
      have ef : faultR st (ks.map (·.2)) = fstBad 1 [] (ks.map (·.2)) := by unfold faultR; rw [e0]; rfl
      refine iteF ?_
      refine ⟨_, rfl, a, ks, rfl, hc, few, each, fun p hp => (bad p (ef.trans hp)).lets, fun hn H1 s1 => ?_⟩
      have nd : (ks.map fun q => q.2.1).Nodup := by
        have y := (fst_none hn).1
        rw [List.map_map] at y
        exact y
      refine ⟨_, rfl, _, rfl, r, C, dx, [], rfl, s1 _ _ hr0, T.cl, T.nS, by show 0 < 1000; decide, ?_⟩
      have ner : ∀ b o, b ≠ r → H b = some o → upd H1 r (.ins C dx [("stone", V.str (S st))]) b = some o := fun b o nb e => by
        rw [upd_ne nb]
        exact s1 _ _ e
      have nar : a ≠ r := ne_of hc.lst hr0 (by intro z; cases z)
      have hc2 : CndsAt (upd H1 r (.ins C dx [("stone", V.str (S st))])) a ks := ⟨ner _ _ nar hc.lst, fun q hq => ner _ _ (ne_of (hc.each q hq) hr0 (by intro z; cases z)) (hc.each q hq)⟩
      refine ⟨_, rfl, a, ks, rfl, hc2, few, each, nd, fun l ms H2 s2 nl hm pm od => ?_⟩
      have hr2' : H2 r = some (.ins C dx [("stone", V.str (S st))]) := s2 _ _ upd_same
      refine ⟨_, rfl, r, C, dx, _, rfl, hr2', T.cl, T.nC, by show 1 < 1000; decide, ?_⟩
      have nl0 : H l = none := by
        cases z : H l with
        | none => rfl
        | some o =>
          have y : l ≠ r := fun e => by
            rw [e, upd_same] at nl
            cases nl
          have y2 := (ner _ _ y z).symm.trans nl
          cases y2
      have nlr : l ≠ r := ne_of hm.lst hr2' (by intro z; cases z)
      refine good (ef.trans hn) _ l ms (fun b o nb e => ?_) nl0 (by rw [upd_same]; rfl) ⟨?_, fun q hq => ?_⟩ pm od
      · rw [upd_ne nb]
        exact s2 _ _ (ner _ _ nb e)
      · rw [upd_ne nlr]
        exact hm.lst
      · rw [upd_ne (ne_of (hm.each q hq) hr2' (by intro z; cases z))]
        exact hm.each q hq
end
end Pm
namespace Pm
open PySem PySem.Spec PyProof.Rows L2 SX NdefX
/-- what a rule with a need refuses -/
def faultC (st : List Nat) (cs : List Cnd) (n : Int) : Option Nat := match faultR st cs with
  | some p => some p
  | none => if 0 ≤ n ∧ n ≤ (cs.length : Int) then none else some 0
def faultS (cs : List Cnd) (n : Int) : Option Nat := match fstBad 1 [] cs with
  | some p => some p
  | none => if 0 ≤ n ∧ n ≤ (cs.length : Int) then none else some 0
section
variable {P : Program} {w : World} {K : PySem.W.Frag} {mg : Str → Option Value} {base : Heap} {C CI D : Addr}
def spCountInit (CI C : Addr) (K : PySem.W.Frag) : Sp := fun vs H Q E => ∃ r dx st a ks n, vs = [.ref r, .str (S st), .ref a, .int n] ∧ H r = some (.ins C dx []) ∧ CndsAt H a ks ∧ st.length ≤ 1000 ∧ ks.length ≤ 1000 ∧ (∀ q ∈ ks, q.2.2.length ≤ 1000) ∧
  (∀ p, faultC st (ks.map (·.2)) n = some p → LetsB r E CI [("part", .int (p : Int))] H) ∧
  (faultC st (ks.map (·.2)) n = none → ∀ H' l ms, SameBut r H H' → H l = none → H' r = some (.ins C dx [("stone", .str (S st)), ("_conditions", .ref l), ("need", .int n)]) → CndsAt H' l ms → (ms.map (·.2)).Perm ((ks.map (·.2)).map ascC) → Ord (ms.map (·.2)) → Q .non H')
abbrev nCountInit : List Str := ["self", "stone", "conditions", "need", "__class__"]
theorem scCountInit : NScope nCountInit ["self", "stone", "conditions", "need"] ["__class__"] (defScope cCountRuleInit) := nscope_by (by decide +kernel)
theorem ok_countinit {f cc cda g c : Addr} {fd gd dc : FuncData} (F : FunS P K "__init__" "CountRule.__init__" cCountRuleInit C f cc cda fd) (gm : mg "super" = none) (hM : SupM K C C "__init__" g) (G : FnOk P w K mg base (L2.CX P w) 4 g gd ["self", "stone", "conditions"] (spRuleInit CI K)) (bG : Binds K gd ["self", "stone", "conditions"] [])
    (Nd : Cl P w K mg base (L2.CX P w) 3 "_check_need" ["need", "count"] (spNeed CI) c dc) (L : LTxt K mg) (T : RCls K C) : FnOk P w K mg base (L2.CX P w) 5 f fd ["self", "stone", "conditions", "need"] (spCountInit CI C K) := by
  refine supfn_of (k := 4) (j := 4) F scCountInit gm rfl rfl rfl rfl hM G bG (fun vs H Q E h => ?_) (fun A outer s H vs Q E hr h => ?_)
  · obtain ⟨r, dx, st, a, ks, n, rfl, _⟩ := h
    rfl
  · obtain ⟨r, dx, st, a, ks, n, rfl, hr0, hc, fs, few, each, bad, good⟩ := h
    have hr3 : Room 3 _ := hr.mono (by decide)
    refine ⟨_, _, r, dx, [], E, rfl, hr0, hr, fun σ pins H s e s' I c => passes_call (takes_of rfl rfl rfl rfl) (fun _ _ _ _ z => z) pins σ H s e s' I c, (pa_cons (pv 1) (pa_cons (pv 2) pa_nil)), (pss_cons (ps_expr (pe_callS (E := fun _ => E) Nd.ok hr3 (by rfl) Nd.gl Nd.kp Nd.bd (fun σ pins H s e s' I c => passes_call (takes_of rfl rfl rfl rfl) (fun _ _ _ _ z => z) pins σ H s e s' I c) (pa_cons (pv 3) (pa_cons (pe_callB call_len_seq (by rfl) L.len PySem.boot_len (pa_cons (pv 2) pa_nil)) pa_nil))))
      (pss_one (ps_fld (pv 0) (pv 3) rfl))), ?_⟩
    refine ⟨_, rfl, _, rfl, r, dx, C, st, a, ks, rfl, T, hr0, hc, fs, few, each, fun p hp => bad p (by unfold faultC; rw [hp]), fun hn H1 l ms s1 nl hr1 hm pm od => ?_⟩
    have nar : a ≠ r := ne_of hc.lst hr0 (by intro z; cases z)
    have len : (refC ks).length = (ks.map (·.2)).length := by unfold refC; rw [List.length_map, List.length_map]
    refine ⟨_, rfl, _, rfl, a, _, rfl, .inl (SqL.of (s1 _ _ nar hc.lst)), n, _, rfl, fun nb => ?_, fun ok => ?_⟩
    · have lt : LetsB r E CI [("part", .int 0)] H := bad 0 (by
        unfold faultC
        rw [hn]
        show (if _ then _ else _) = _
        rw [if_neg (by rw [← len]; exact nb)])
      intro d H' nd hd sg
      have nd0 : H d = none := by
        cases z : H d with
        | none => rfl
        | some o =>
          have y : d ≠ r := fun e => by
            rw [e, hr1] at nd
            cases nd
          rw [s1 _ _ y z] at nd
          cases nd
      exact lt d H' nd0 hd (sb_trans s1 (same_sb sg))
    · refine ⟨_, rfl, _, rfl, r, C, dx, _, rfl, hr1, T.cl, T.nN, by show 2 < 1000; decide, ?_⟩
      have nlr : l ≠ r := ne_of hm.lst hr1 (by intro z; cases z)
      refine good (by unfold faultC; rw [hn]; exact if_pos (by rw [← len]; exact ok)) _ l ms (fun b o nb e => ?_) nl (by rw [upd_same]; rfl) ⟨?_, fun q hq => ?_⟩ pm od
      · rw [upd_ne nb]
        exact s1 _ _ nb e
      · rw [upd_ne nlr]
        exact hm.lst
      · rw [upd_ne (ne_of (hm.each q hq) hr1 (by intro z; cases z))]
        exact hm.each q hq
end
end Pm
namespace Pm
open PySem PySem.Spec PyProof.Rows L2 SX NdefX
theorem emp_S : ("" : Str) = S [] := by decide +kernel
def alphaL : List Nat := unS alphaS
theorem alphaL_S : S alphaL = alphaS := S_unS _
theorem alphaL_len : alphaL.length = 26 := by decide +kernel
/-- pairs of ints in the heap -/
def PairO (p : Int × Int) : HO := .tup [.int p.1, .int p.2]
structure PairsAt (H : Hp) (a : Addr) (ps : List (Addr × (Int × Int))) : Prop where
  lst : H a = some (.lst (ps.map fun q => V.ref q.1))
  each : ∀ q ∈ ps, H q.1 = some (PairO q.2)
def wideC (p : Int × Int) : Cnd := (p, alphaL)
section
variable {P : Program} {w : World} {K : PySem.W.Frag} {mg : Str → Option Value} {base : Heap} {C CI D : Addr}
def spSameInit (CI C : Addr) (K : PySem.W.Frag) : Sp := fun vs H Q E => ∃ r dx a ps n, vs = [.ref r, .ref a, .int n] ∧ H r = some (.ins C dx []) ∧ PairsAt H a ps ∧ ps.length ≤ 1000 ∧
  (∀ p, faultS (ps.map fun q => wideC q.2) n = some p → LetsB r E CI [("part", .int (p : Int))] H) ∧
  (faultS (ps.map fun q => wideC q.2) n = none → ∀ H' l ms, SameBut r H H' → H l = none → H' r = some (.ins C dx [("stone", .str ""), ("need", .int n), ("_conditions", .ref l)]) → CndsAt H' l ms → (ms.map (·.2)).Perm ((ps.map fun q => wideC q.2).map ascC) → Ord (ms.map (·.2)) → Q .non H')
abbrev nSameInit : List Str := ["self", "places", "need", "conditions", "dx", "dy"]
theorem scSameInit : FnScope nSameInit ["self", "places", "need"] (defScope cSameRuleInit) := ⟨rfl, rfl, rfl, by decide +kernel, rfl, by decide +kernel, by decide +kernel⟩
theorem ok_sameinit {f c o d : Addr} {fd dc do_ dd : FuncData} (F : Fun K "__init__" "SameRule.__init__" cSameRuleInit f fd) (Ck : Cl P w K mg base (L2.CX P w) 3 "_check_conditions" ["conditions"] (spCheck CI) c dc) (Io : Cl P w K mg base CX0 2 "_in_order" ["conditions"] spInOrder o do_)
    (Nd : Cl P w K mg base (L2.CX P w) 3 "_check_need" ["need", "count"] (spNeed CI) d dd) (L : LTxt K mg) (Tx : PTxt K mg D) (T : RCls K C) : FnOk P w K mg base (L2.CX P w) 5 f fd ["self", "places", "need"] (spSameInit CI C K) := by
  refine F.okX scSameInit (fun vs H Q E h => ?_) (fun cdv A outer s H vs Q E hr h => ?_)
  · obtain ⟨r, dx, a, ps, n, rfl, _⟩ := h
    rfl
  · obtain ⟨r, dx, a, ps, n, rfl, hr0, hp, few, bad, good⟩ := h
    obtain ⟨uS, hS, rS⟩ := Tx.stones
    have hr2 : Room 2 _ := hr.mono (by decide)
    have hr3 : Room 3 _ := hr.mono (by decide)
    refine ⟨_, (pss_cons (ps_setLc (i := 3) (own := [("dx", 4), ("dy", 5)]) (g := (gTup K 2 (gCons (gName 4) (gCons (gName 5) gNil)))) (tt := tYes) rfl scSameInit.nd rfl rfl (sw_true rfl rfl rfl (by decide +kernel)) (pi_list (pv 1)) (blkOk_by (own := [("dx", 4), ("dy", 5)]) (N := nSameInit) (sc := defScope cSameRuleInit) (by decide +kernel)) (fun _ _ _ _ _ => (pg_tup rfl (pgs_cons (pg_name (i := 4) scSameInit.nd rfl (.inl rfl)) (pgs_cons (pg_name (i := 5) scSameInit.nd rfl (.inl rfl)) pgs_nil)))) (fun _ _ _ _ _ => pts_nil) (fun _ _ _ _ _ => (pe_tup (pa_cons (pv 4) (pa_cons (pv 5) (pa_cons (pe_glob (by rfl) hS rS) pa_nil))))))
      (pss_cons (ps_expr (pe_callS (E := fun _ => E) Ck.ok hr3 (by rfl) Ck.gl Ck.kp Ck.bd (fun σ pins H s e s' I c => passes_call (takes_of rfl rfl rfl rfl) (fun _ _ _ _ z => z) pins σ H s e s' I c) (pa_cons (pv 3) pa_nil)))
      (pss_cons (ps_expr (pe_callS (E := fun _ => E) Nd.ok hr3 (by rfl) Nd.gl Nd.kp Nd.bd (fun σ pins H s e s' I c => passes_call (takes_of rfl rfl rfl rfl) (fun _ _ _ _ z => z) pins σ H s e s' I c) (pa_cons (pv 2) (pa_cons (pe_callB call_len_seq (by rfl) L.len PySem.boot_len (pa_cons (pv 3) pa_nil)) pa_nil))))
      (pss_cons (ps_fld (pv 0) pe_str rfl)
      (pss_cons (ps_fld (pv 0) (pv 2) rfl)
      (pss_one (ps_fld (pv 0) (pe_call Io.ok hr2 (by rfl) Io.gl Io.kp Io.bd .nil pass0 (pa_cons (pv 3) pa_nil)) rfl))))))), ?_⟩
    refine ⟨.ref a, rfl, a, rfl, ⟨_, SqL.of hp.lst⟩, fun D nD => lc_list (K := K) (a := a) (xs := ps.map fun q => V.ref q.1) (fun i G => ∃ ks : List (Addr × Cnd), Same H G ∧ G D = some (.lst (refC ks)) ∧ (∀ q ∈ ks, G q.1 = some (CondO q.2)) ∧ ks.map (·.2) = (ps.take i).map fun q => wideC q.2) ⟨[], same_upd nD, upd_same, (fun p hp => nomatch hp), rfl⟩ (fun i G _ ⟨ts, sm, _⟩ => SqL.of (sm _ _ hp.lst)) ?_ ?_⟩
    · rintro i x G hx ⟨ks, sm, hD, hks, ek⟩
      rw [List.getElem?_map] at hx
      obtain ⟨q, hi, rfl⟩ : ∃ q, ps[i]? = some q ∧ x = V.ref q.1 := by
        cases e : ps[i]? with
        | none =>
          rw [e] at hx
          cases hx
        | some p =>
          rw [e] at hx
          cases hx
          exact ⟨p, rfl, rfl⟩
      have htc := sm _ _ (hp.each q (List.mem_of_getElem? hi))
      have li : i < ps.length := (List.getElem?_eq_some_iff.mp hi).1
      refine ⟨q.1, _, rfl, SqT.of htc, rfl, _, _, rfl, _, _, rfl, rfl, rfl, ?_⟩
      refine tyes (iteT ⟨_, rfl, _, rfl, by show 3 ≤ sizeLine; decide, fun T nT => ?_⟩)
      have s3 := same_upd (o := .tup [.int q.2.1, .int q.2.2, .str alphaS]) nT
      have nDT : D ≠ T := ne_of_none hD nT
      refine ⟨refC ks, s3 _ _ hD, ?_, ks ++ [(T, wideC q.2)], fun b o e => ?_, ?_, fun p hp => ?_, ?_⟩
      · have := congrArg List.length ek
        rw [List.length_map, List.length_map, List.length_take] at this
        rw [show (refC ks).length = ks.length from List.length_map _]
        exact small1000 (by omega)
      · rw [upd_ne (ne_of_none e nD)]
        exact s3 _ _ (sm _ _ e)
      · rw [upd_same]
        unfold refC
        rw [List.map_append]
        rfl
      · rcases List.mem_append.mp hp with z | z
        · have y := s3 _ _ (hks p z)
          rw [upd_ne (fun e => ?_)]
          · exact y
          · rw [e, s3 _ _ hD] at y
            cases y
        · rw [List.mem_singleton.mp z]
          rw [upd_ne nDT.symm, upd_same]
          show _ = some (HO.tup [.int q.2.1, .int q.2.2, .str (S alphaL)])
          rw [alphaL_S]
      · rw [List.map_append, ek, List.take_add_one, hi, List.map_append]
        rfl
    · rintro G ⟨ks, sm, hD, hks, ek⟩
      rw [List.length_map, List.take_of_length_le (Nat.le_refl _)] at ek
      have lk : ks.length = ps.length := by
        have := congrArg List.length ek
        rwa [List.length_map, List.length_map] at this
      have hcG : CndsAt G D ks := ⟨hD, hks⟩
      have each : ∀ q ∈ ks, q.2.2.length ≤ 1000 := fun q hq => by
        have m : q.2 ∈ ks.map (·.2) := List.mem_map.mpr ⟨q, hq, rfl⟩
        rw [ek] at m
        obtain ⟨p, _, e⟩ := List.mem_map.mp m
        rw [← e]
        show alphaL.length ≤ 1000
        rw [alphaL_len]
        decide
      have back2 : ∀ {G2 : Hp}, Same H G2 → ∀ p, faultS (ps.map fun q => wideC q.2) n = some p → Lets E CI [("part", .int (p : Int))] G2 := fun {G2} sg p e d H' nd hd s => bad p e d H' (back sg nd) hd (same_sb (sg.trans s))
      refine ⟨_, rfl, D, ks, rfl, hcG, by omega, each, fun p hf => back2 sm p (by unfold faultS; rw [← ek, hf]), fun hn G1 s1 => ?_⟩
      have len : (refC ks).length = (ps.map fun q => wideC q.2).length := by
        unfold refC
        rw [List.length_map, List.length_map, lk]
      have hn2 : fstBad 1 [] (ps.map fun q => wideC q.2) = none := by rw [← ek]; exact hn
      refine ⟨_, rfl, _, rfl, D, _, rfl, .inl (SqL.of (s1 _ _ hD)), n, _, rfl, fun nb => back2 (sm.trans s1) 0 ?_, fun ok => ?_⟩
      · unfold faultS
        rw [hn2]
        exact if_neg (by rw [← len]; exact nb)
      have sG1 := sm.trans s1
      have hrG := sG1 _ _ hr0
      refine ⟨_, rfl, r, C, dx, [], rfl, hrG, T.cl, T.nS, by show 0 < 1000; decide, ?_⟩
      refine ⟨_, rfl, _, rfl, r, C, dx, _, rfl, upd_same, T.cl, T.nN, by show 1 < 1000; decide, ?_⟩
      have hcU : CndsAt (upd (upd G1 r (.ins C dx [("stone", .str "")])) r (.ins C dx [("stone", .str ""), ("need", .int n)])) D ks := by
        refine ⟨?_, fun q hq => ?_⟩
        · have ne := ne_of (s1 _ _ hD) hrG (by intro z; cases z)
          rw [upd_ne ne, upd_ne ne]
          exact s1 _ _ hD
        · have y := s1 _ _ (hks q hq)
          have ne := ne_of y hrG (by intro z; cases z)
          rw [upd_ne ne, upd_ne ne]
          exact y
      have nd : (ks.map fun q => q.2.1).Nodup := by
        have y := (fst_none hn).1
        rw [List.map_map] at y
        exact y
      refine ⟨_, rfl, D, ks, rfl, hcU, by omega, each, nd, fun l ms H2 s2 nl hm pm od => ?_⟩
      have hr2' : H2 r = some (.ins C dx [("stone", .str ""), ("need", .int n)]) := s2 _ _ upd_same
      refine ⟨_, rfl, r, C, dx, _, rfl, hr2', T.cl, T.nC, by show 2 < 1000; decide, ?_⟩
      have sbU : SameBut r H (upd (upd G1 r (.ins C dx [("stone", .str "")])) r (.ins C dx [("stone", .str ""), ("need", .int n)])) := fun b o nb e => by
        rw [upd_ne nb, upd_ne nb]
        exact sG1 _ _ e
      have nl0 : H l = none := by
        cases z : H l with
        | none => rfl
        | some o =>
          have y : l ≠ r := fun e => by
            have nl2 : upd (upd G1 r (.ins C dx [("stone", .str "")])) r (.ins C dx [("stone", .str ""), ("need", .int n)]) l = none := nl
            rw [e, upd_same] at nl2
            cases nl2
          have y2 := (sbU l _ y z).symm.trans nl
          cases y2
      have nlr : l ≠ r := ne_of hm.lst hr2' (by intro z; cases z)
      refine good (by unfold faultS; rw [hn2]; exact if_pos (by rw [← len]; exact ok)) _ l ms (fun b o nb e => ?_) nl0 (by rw [upd_same]; rfl) ⟨?_, fun q hq => ?_⟩ (by rw [← ek]; exact pm) od
      · rw [upd_ne nb]
        exact s2 _ _ (sbU b o nb e)
      · rw [upd_ne nlr]
        exact hm.lst
      · rw [upd_ne (ne_of (hm.each q hq) hr2' (by intro z; cases z))]
        exact hm.each q hq
end
end Pm
namespace Pm
open PySem PySem.Spec PyProof.Rows L2 SX NdefX
def lows : List Str := ["lays", "conditions", "KIND", "slack", "clashes", "fits", "written", "_condition_words"]
/-- a rule at r: kind 0 all, 1 count, 2 same -/
def RuleAt (C : Addr) (H : Hp) (r : Addr) (κ : Nat) (st : List Nat) (need : Int) (ms : List Cnd) : Prop := ∃ dx fs l ks, H r = some (.ins C dx fs) ∧ fs.lookup ("stone" : Str) = some (.str (S st)) ∧ fs.lookup ("_conditions" : Str) = some (.ref l) ∧ (κ ≠ 0 → fs.lookup ("need" : Str) = some (.int need)) ∧
  (∀ m ∈ lows, fs.lookup m = none) ∧ CndsAt H l ks ∧ ks.map (·.2) = ms
theorem RuleAt.same {C : Addr} {H H' : Hp} {r : Addr} {κ : Nat} {st : List Nat} {need : Int} {ms : List Cnd} (h : RuleAt C H r κ st need ms) (s : Same H H') : RuleAt C H' r κ st need ms := by
  obtain ⟨dx, fs, l, ks, a, b, c, d, e, f, g⟩ := h
  exact ⟨dx, fs, l, ks, s _ _ a, b, c, d, e, f.same s, g⟩
def laysB (κ : Nat) (st z : List Nat) : Bool := if κ = 2 then stoneB z else decide (z = st)
def condsOf (κ : Nat) (z : List Nat) (ms : List Cnd) : List Cnd := if κ = 2 then ms.map fun c => (c.1, z) else ms
def slackOf (κ : Nat) (need : Int) (ms : List Cnd) : Int := if κ = 0 then 0 else (ms.length : Int) - need
section
variable {P : Program} {w : World} {K : PySem.W.Frag} {mg : Str → Option Value} {base : Heap} {C CI CW D : Addr} {κ : Nat}
theorem scEWrongStone : FnScope ["self", "stone"] ["self", "stone"] (defScope cWrongStoneInit) := ⟨rfl, rfl, rfl, by decide +kernel, rfl, by decide +kernel, by decide +kernel⟩
theorem okEWrongStone {f C : Addr} {fd : FuncData} (F : Fun K "__init__" "WrongStone.__init__" cWrongStoneInit f fd) (T : OexC K C) (nx : PySem.W.findIn K (.ref C) "stone" = some none) : FnOk P w K mg base CX0 1 f fd ["self", "stone"] (spE1 C "stone") := by
  refine F.ok scEWrongStone (fun vs H Q E h => ?_) (fun cdv A outer s H vs Q E hr h => ?_)
  · obtain ⟨a, v, rfl, _⟩ := h
    rfl
  · obtain ⟨a, v, rfl, ha, k⟩ := h
    refine ⟨_, pss_one (ps_ost (pv 0) (pv 1)), ?_⟩
    refine ⟨_, rfl, _, rfl, a, C, rfl, T, nx, .inl ⟨ha, fun dx nd ne => ?_⟩⟩
    refine k _ dx upd_same (by rw [upd_ne ne, upd_same]) nd ne fun b o nb e => ?_
    rw [upd_ne nb, upd_ne (ne_of_none e nd)]
    exact e

def spLays (C : Addr) (κ : Nat) : Sp := fun vs H Q _ => ∃ r st need ms z, vs = [.ref r, .str (S z)] ∧ RuleAt C H r κ st need ms ∧ z.length ≤ 1000 ∧ Q (.bl (laysB κ st z)) H
theorem scLays : FnScope ["self", "stone"] ["self", "stone"] (defScope cRuleLays) := ⟨rfl, rfl, rfl, by decide +kernel, rfl, by decide +kernel, by decide +kernel⟩
theorem ok_lays {f : Addr} {fd : FuncData} (F : Fun K "lays" "Rule.lays" cRuleLays f fd) (T : RCls K C) (k2 : κ ≠ 2) : FnOk P w K mg base CX0 1 f fd ["self", "stone"] (spLays C κ) := by
  refine F.ok scLays (fun vs H Q E h => ?_) (fun cdv A outer s H vs Q E hr h => ?_)
  · obtain ⟨r, st, need, ms, z, rfl, _⟩ := h
    rfl
  · obtain ⟨r, st, need, ms, z, rfl, ⟨dx, fs, l, ks, hr0, h1, _⟩, few, k⟩ := h
    refine ⟨_, (pss_one (ps_ret (pe_cmpR op_eq (pv 1) (pe_fld (pv 0) rfl) (nomark _)))), ?_⟩
    refine ⟨_, rfl, _, rfl, r, C, dx, fs, _, rfl, hr0, T.cl, T.nS, h1, rfl, ?_⟩
    have e : laysB κ st z = decide (V.str (S z) = V.str (S st)) := by
      unfold laysB
      rw [if_neg k2]
      exact decide_eq_decide.mpr ⟨fun e => by rw [e], fun e => S_inj (V.str.inj e)⟩
    rw [e] at k
    exact k
theorem scLaysS : FnScope ["self", "stone"] ["self", "stone"] (defScope cSameRuleLays) := ⟨rfl, rfl, rfl, by decide +kernel, rfl, by decide +kernel, by decide +kernel⟩
theorem ok_laysS {f i : Addr} {fd di : FuncData} (F : Fun K "lays" "SameRule.lays" cSameRuleLays f fd) (Is : Cl P w K mg base CX0 1 "is_stone" ["sign"] spStone i di) : FnOk P w K mg base CX0 2 f fd ["self", "stone"] (spLays C 2) := by
  refine F.ok scLaysS (fun vs H Q E h => ?_) (fun cdv A outer s H vs Q E hr h => ?_)
  · obtain ⟨r, st, need, ms, z, rfl, _⟩ := h
    rfl
  · obtain ⟨r, st, need, ms, z, rfl, _, few, k⟩ := h
    refine ⟨_, (pss_one (ps_ret (pe_call Is.ok hr (by rfl) Is.gl Is.kp Is.bd .nil pass0 (pa_cons (pv 1) pa_nil)))), ?_⟩
    exact ⟨_, rfl, z, rfl, few, k⟩
def spCond (C CW : Addr) (κ : Nat) : Sp := fun vs H Q E => ∃ r st need ms z, vs = [.ref r, .str (S z)] ∧ RuleAt C H r κ st need ms ∧ z.length ≤ 1000 ∧ ms.length ≤ 1000 ∧ (laysB κ st z = false → Lets E CW [("stone", .str (S z))] H) ∧
  (laysB κ st z = true → ∀ p ks H', Same H H' → H p = none → CndsAt H' p ks → ks.map (·.2) = condsOf κ z ms → Q (.ref p) H')
theorem scCond : FnScope ["self", "stone"] ["self", "stone"] (defScope cRuleConditions) := ⟨rfl, rfl, rfl, by decide +kernel, rfl, by decide +kernel, by decide +kernel⟩
theorem ok_cond {f g e : Addr} {fd gd ed : FuncData} (F : Fun K "conditions" "Rule.conditions" cRuleConditions f fd) (T : RCls K C) (k2 : κ ≠ 2) (mL : Meth K C "lays" g) (OL : FnOk P w K mg base CX0 1 g gd ["self", "stone"] (spLays C κ)) (bL : Binds K gd ["self", "stone"] [])
    (Ex : EMk P w K mg base CW "WrongStone" ["self", "stone"] (spE1 CW "stone") e ed) (L : LTxt K mg) : FnOk P w K mg base (L2.CX P w) 3 f fd ["self", "stone"] (spCond C CW κ) := by
  refine F.okX scCond (fun vs H Q E h => ?_) (fun cdv A outer s H vs Q E hr h => ?_)
  · obtain ⟨r, st, need, ms, z, rfl, _⟩ := h
    rfl
  · obtain ⟨r, st, need, ms, z, rfl, hR, few, fm, bad, good⟩ := h
    have hr1 : Room 1 _ := hr.mono (by decide)
    have hr2 : Room 2 _ := hr.mono (by decide)
    obtain ⟨dx, fs, l, ks, hr0, h1, h2, h3, h4, hc, ek⟩ := id hR
    refine ⟨_, (pss_cons (ps_if (pt_not (pt_val (pe_meth (pv 0) T.cl mL OL hr1 bL .nil pass0 (pa_cons (pv 1) pa_nil)))) (pss_one (ps_raise rfl (takes_of rfl rfl rfl rfl) (pmk_oex Ex.T Ex.at_ Ex.ty Ex.ok hr2 Ex.bd .nil pass0 (by rfl) Ex.gl (pa_cons (pv 1) pa_nil)))) pss_nil)
      (pss_one (ps_ret (pe_callTy call_list_of (by rfl) L.lst (by decide +kernel) (pa_cons (pe_fld (pv 0) rfl) pa_nil))))), ?_⟩
    refine ⟨_, rfl, r, dx, fs, rfl, hr0, h4 _ (by decide), _, rfl, r, st, need, ms, z, rfl, hR, few, _, rfl, ?_⟩
    cases e : laysB κ st z with
    | false =>
      refine iteT ⟨_, rfl, by show 1 ≤ 1000; decide, fun x nx => ⟨x, _, rfl, upd_same, fun H2 d h1 h2 nd ne sb => ⟨rfl, d, _, h1, h2, ?_, ?_⟩⟩⟩
      · rwa [upd_ne ne] at nd
      · exact bad e d _ (by rwa [upd_ne ne] at nd) upd_same (on_way nx nd ne sb)
    | true =>
      refine iteF ⟨_, rfl, r, C, dx, fs, _, rfl, hr0, T.cl, T.nC, h2, l, _, rfl, .inl (SqL.of hc.lst), fun p np => ?_⟩
      have s1 := same_upd (o := .lst (refC ks)) np
      refine good e p ks _ s1 np ⟨upd_same, fun q hq => s1 _ _ (hc.each q hq)⟩ ?_
      rw [ek]
      unfold condsOf
      rw [if_neg k2]
abbrev nCondS : List Str := ["self", "stone", "dx", "dy", "_"]
theorem scCondS : FnScope nCondS ["self", "stone"] (defScope cSameRuleConditions) := ⟨rfl, rfl, rfl, by decide +kernel, rfl, by decide +kernel, by decide +kernel⟩
theorem ok_condS {f g e : Addr} {fd gd ed : FuncData} (F : Fun K "conditions" "SameRule.conditions" cSameRuleConditions f fd) (T : RCls K C) (mL : Meth K C "lays" g) (OL : FnOk P w K mg base CX0 2 g gd ["self", "stone"] (spLays C 2)) (bL : Binds K gd ["self", "stone"] [])
    (Ex : EMk P w K mg base CW "WrongStone" ["self", "stone"] (spE1 CW "stone") e ed) (L : LTxt K mg) : FnOk P w K mg base (L2.CX P w) 3 f fd ["self", "stone"] (spCond C CW 2) := by
  refine F.okX scCondS (fun vs H Q E h => ?_) (fun cdv A outer s H vs Q E hr h => ?_)
  · obtain ⟨r, st, need, ms, z, rfl, _⟩ := h
    rfl
  · obtain ⟨r, st, need, ms, z, rfl, hR, few, fm, bad, good⟩ := h
    have hr1 : Room 2 _ := hr.mono (by decide)
    have hr2 : Room 2 _ := hr.mono (by decide)
    obtain ⟨dx, fs, l, ks, hr0, h1, h2, h3, h4, hc, ek⟩ := id hR
    refine ⟨_, (pss_cons (ps_if (pt_not (pt_val (pe_meth (pv 0) T.cl mL OL hr1 bL .nil pass0 (pa_cons (pv 1) pa_nil)))) (pss_one (ps_raise rfl (takes_of rfl rfl rfl rfl) (pmk_oex Ex.T Ex.at_ Ex.ty Ex.ok hr2 Ex.bd .nil pass0 (by rfl) Ex.gl (pa_cons (pv 1) pa_nil)))) pss_nil)
      (pss_one (ps_ret (pe_lc (own := [("dx", 2), ("dy", 3), ("_", 4)]) (g := (gTup K 3 (gCons (gName 2) (gCons (gName 3) (gCons (gName 4) gNil))))) (tt := tYes) rfl scCondS.nd (pi_list (pe_fld (pv 0) rfl)) (blkOk_by (own := [("dx", 2), ("dy", 3), ("_", 4)]) (N := nCondS) (sc := defScope cSameRuleConditions) (by decide +kernel)) (fun _ _ _ _ _ => (pg_tup rfl (pgs_cons (pg_name (i := 2) scCondS.nd rfl (.inl rfl)) (pgs_cons (pg_name (i := 3) scCondS.nd rfl (.inl rfl)) (pgs_cons (pg_name (i := 4) scCondS.nd rfl (.inl rfl)) pgs_nil))))) (fun _ _ _ _ _ => pts_nil) (fun _ _ _ _ _ => (pe_tup (pa_cons (pv 2) (pa_cons (pv 3) (pa_cons (pv 1) pa_nil))))))))), ?_⟩
    refine ⟨_, rfl, r, dx, fs, rfl, hr0, h4 _ (by decide), _, rfl, r, st, need, ms, z, rfl, hR, few, _, rfl, ?_⟩
    cases e : laysB 2 st z with
    | false =>
      refine iteT ⟨_, rfl, by show 1 ≤ 1000; decide, fun x nx => ⟨x, _, rfl, upd_same, fun H2 d h1 h2 nd ne sb => ⟨rfl, d, _, h1, h2, ?_, ?_⟩⟩⟩
      · rwa [upd_ne ne] at nd
      · exact bad e d _ (by rwa [upd_ne ne] at nd) upd_same (on_way nx nd ne sb)
    | true =>
      refine iteF ⟨_, rfl, r, C, dx, fs, _, rfl, hr0, T.cl, T.nC, h2, l, rfl, ⟨_, SqL.of hc.lst⟩, fun D nD => lc_list (K := K) (a := l) (xs := refC ks) (fun i G => ∃ ms : List (Addr × Cnd), Same H G ∧ G D = some (.lst (refC ms)) ∧ (∀ q ∈ ms, G q.1 = some (CondO q.2)) ∧ ms.map (·.2) = (ks.take i).map fun q => (q.2.1, z)) ⟨[], same_upd nD, upd_same, (fun p hp => nomatch hp), rfl⟩ (fun i G _ ⟨ts, sm, _⟩ => SqL.of (sm _ _ hc.lst)) ?_ ?_⟩
      · rintro i x G hx ⟨ms2, sm, hD, hms, em⟩
        obtain ⟨t, c, hi, rfl⟩ := refC_at hx
        have htc := sm _ _ (hc.each _ (List.mem_of_getElem? hi))
        have li : i < ks.length := (List.getElem?_eq_some_iff.mp hi).1
        have lk : ks.length = ms.length := by rw [← ek, List.length_map]
        refine ⟨t, _, rfl, SqT.of htc, rfl, _, _, rfl, _, _, rfl, _, _, rfl, rfl, rfl, ?_⟩
        refine tyes (iteT ⟨_, rfl, _, rfl, _, rfl, by show 3 ≤ sizeLine; decide, fun T' nT => ?_⟩)
        have s3 := same_upd (o := .tup [.int c.1.1, .int c.1.2, .str (S z)]) nT
        have nDT : D ≠ T' := ne_of_none hD nT
        refine ⟨refC ms2, s3 _ _ hD, ?_, ms2 ++ [(T', (c.1, z))], fun b o e => ?_, ?_, fun p hp => ?_, ?_⟩
        · have := congrArg List.length em
          rw [List.length_map, List.length_map, List.length_take] at this
          rw [show (refC ms2).length = ms2.length from List.length_map _]
          exact small1000 (by omega)
        · rw [upd_ne (ne_of_none e nD)]
          exact s3 _ _ (sm _ _ e)
        · rw [upd_same]
          unfold refC
          rw [List.map_append]
          rfl
        · rcases List.mem_append.mp hp with y | y
          · have y2 := s3 _ _ (hms p y)
            rw [upd_ne (fun e => ?_)]
            · exact y2
            · rw [e, s3 _ _ hD] at y2
              cases y2
          · rw [List.mem_singleton.mp y]
            rw [upd_ne nDT.symm, upd_same]
            rfl
        · rw [List.map_append, em, List.take_add_one, hi, List.map_append]
          rfl
      · rintro G ⟨ms2, sm, hD, hms, em⟩
        rw [show (refC ks).length = ks.length from List.length_map _, List.take_of_length_le (Nat.le_refl _)] at em
        refine good e D ms2 G sm nD ⟨hD, hms⟩ ?_
        rw [em, ← ek]
        unfold condsOf
        rw [if_pos rfl, List.map_map]
        rfl
def spSlack (C : Addr) (κ : Nat) : Sp := fun vs H Q _ => ∃ r st need ms, vs = [.ref r] ∧ RuleAt C H r κ st need ms ∧ ms.length ≤ 1000 ∧ Q (.int (slackOf κ need ms)) H
theorem scSlack : FnScope ["self"] ["self"] (defScope cRuleSlack) := ⟨rfl, rfl, rfl, by decide +kernel, rfl, by decide +kernel, by decide +kernel⟩
theorem ok_slack {f : Addr} {fd : FuncData} (F : Fun K "slack" "Rule.slack" cRuleSlack f fd) : FnOk P w K mg base CX0 1 f fd ["self"] (spSlack C 0) := by
  refine F.ok scSlack (fun vs H Q E h => ?_) (fun cdv A outer s H vs Q E hr h => ?_)
  · obtain ⟨r, st, need, ms, rfl, _⟩ := h
    rfl
  · obtain ⟨r, st, need, ms, rfl, _, fm, k⟩ := h
    exact ⟨_, (pss_one (ps_ret pe_int)), k⟩
theorem scSlackC : FnScope ["self"] ["self"] (defScope cCountRuleSlack) := ⟨rfl, rfl, rfl, by decide +kernel, rfl, by decide +kernel, by decide +kernel⟩
theorem ok_slackC {f : Addr} {fd : FuncData} (F : Fun K "slack" "CountRule.slack" cCountRuleSlack f fd) (T : RCls K C) (L : LTxt K mg) (k0 : κ ≠ 0) : FnOk P w K mg base CX0 1 f fd ["self"] (spSlack C κ) := by
  refine F.ok scSlackC (fun vs H Q E h => ?_) (fun cdv A outer s H vs Q E hr h => ?_)
  · obtain ⟨r, st, need, ms, rfl, _⟩ := h
    rfl
  · obtain ⟨r, st, need, ms, rfl, ⟨dx, fs, l, ks, hr0, h1, h2, h3, h4, hc, ek⟩, fm, k⟩ := h
    refine ⟨_, (pss_one (ps_ret (pe_op op_sub (pe_callB call_len_seq (by rfl) L.len PySem.boot_len (pa_cons (pe_fld (pv 0) rfl) pa_nil)) (pe_fld (pv 0) rfl)))), ?_⟩
    refine ⟨_, rfl, r, C, dx, fs, _, rfl, hr0, T.cl, T.nC, h2, l, _, rfl, .inl (SqL.of hc.lst), _, rfl, r, C, dx, fs, _, rfl, hr0, T.cl, T.nN, h3 k0, _, _, rfl, rfl, ?_⟩
    have e : slackOf κ need ms = ((refC ks).length : Int) - need := by
      unfold slackOf
      rw [if_neg k0, ← ek]
      unfold refC
      rw [List.length_map, List.length_map]
    rw [e] at k
    exact k
def spLenR (C : Addr) (κ : Nat) : Sp := fun vs H Q _ => ∃ r st need ms, vs = [.ref r] ∧ RuleAt C H r κ st need ms ∧ Q (.int (ms.length : Int)) H
theorem scLenR : FnScope ["self"] ["self"] (defScope cRuleLen) := ⟨rfl, rfl, rfl, by decide +kernel, rfl, by decide +kernel, by decide +kernel⟩
theorem ok_lenR {f : Addr} {fd : FuncData} (F : Fun K "__len__" "Rule.__len__" cRuleLen f fd) (T : RCls K C) (L : LTxt K mg) : FnOk P w K mg base CX0 1 f fd ["self"] (spLenR C κ) := by
  refine F.ok scLenR (fun vs H Q E h => ?_) (fun cdv A outer s H vs Q E hr h => ?_)
  · obtain ⟨r, st, need, ms, rfl, _⟩ := h
    rfl
  · obtain ⟨r, st, need, ms, rfl, ⟨dx, fs, l, ks, hr0, h1, h2, h3, h4, hc, ek⟩, k⟩ := h
    refine ⟨_, (pss_one (ps_ret (pe_callB call_len_seq (by rfl) L.len PySem.boot_len (pa_cons (pe_fld (pv 0) rfl) pa_nil)))), ?_⟩
    refine ⟨_, rfl, r, C, dx, fs, _, rfl, hr0, T.cl, T.nC, h2, l, _, rfl, .inl (SqL.of hc.lst), ?_⟩
    rw [← ek, List.length_map] at k
    rw [show (refC ks).length = ks.length from List.length_map _]
    exact k
end
end Pm
namespace Pm
open PySem PySem.Spec PyProof.Rows L2 SX NdefX
theorem hu65r {A : Around} {k : Nat} (hr : Room k A) : A.units + 65 < cLine := by
  have := hr.un
  omega
structure BTx (mg : Str → Option Value) : Prop where
  bool : mg "bool" = none
  tup : mg "tuple" = none
  str : mg "str" = none
/-- offsets as data -/
def dP (c : Int × Int) : PyData := .tuple [.int c.1, .int c.2]
theorem dP_eqv (c d : Int × Int) : PyData.eqv (dP c) (dP d) = decide (c = d) := by
  obtain ⟨x, y⟩ := c
  obtain ⟨u, v⟩ := d
  simp [dP, PyData.eqv, PyData.eqvAll]
  rfl
theorem dP_shaped (c : Int × Int) : SeqAt.shaped (dP c) = true := by
  simp [dP, SeqAt.shaped, PyData.canLay0, PyData.canLayAll0, PyData.depth, PyData.depthAll]
theorem dPs_lay : ∀ M : List (Int × Int), PyData.canLayAll0 (M.map dP) = true
  | [] => rfl
  | c :: M => by simp [PyData.canLayAll0, dP, PyData.canLay0, dPs_lay M]
theorem dPs_depth : ∀ M : List (Int × Int), PyData.depthAll (M.map dP) ≤ 1
  | [] => by simp [PyData.depthAll]
  | c :: M => by
    have := dPs_depth M
    simp [PyData.depthAll, dP, PyData.depth]
    omega
theorem dPs_shaped (M : List (Int × Int)) : SeqAt.shaped (.list (M.map dP)) = true := by
  have := dPs_depth M
  simp [SeqAt.shaped, PyData.canLay0, dPs_lay M, PyData.depth]
  omega
theorem dPs_any (M : List (Int × Int)) (c : Int × Int) : ((M.map dP).any fun z => PyData.eqv z (dP c)) = decide (c ∈ M) := by
  rw [List.any_map]
  rw [Bool.eq_iff_iff, List.any_eq_true, decide_eq_true_eq]
  constructor
  · rintro ⟨d, hd, e⟩
    have e : PyData.eqv (dP d) (dP c) = true := e
    rw [dP_eqv, decide_eq_true_eq] at e
    rw [← e]
    exact hd
  · intro h
    exact ⟨c, h, by show PyData.eqv (dP c) (dP c) = true; rw [dP_eqv]; simp⟩
section
variable {P : Program} {w : World} {K : PySem.W.Frag} {mg : Str → Option Value} {base : Heap} {C CI CW D : Addr} {κ : Nat}
def spIsI : Sp := fun vs H Q _ => ∃ n, vs = [.int n] ∧ Q (.bl true) H
theorem scIsI : FnScope ["_law_value"] ["_law_value"] (defScope lIsInt) := ⟨rfl, rfl, rfl, by decide +kernel, rfl, by decide +kernel, by decide +kernel⟩
theorem ok_isI {f : Addr} {fd : FuncData} (F : Fun K "_law_is_int" "_law_is_int" lIsInt f fd) (L : LTxt K mg) (B : BTx mg) : FnOk P w K mg base CX0 1 f fd ["_law_value"] spIsI := by
  refine F.ok scIsI (fun vs H Q E h => ?_) (fun cdv A outer s H vs Q E hr h => ?_)
  · obtain ⟨n, rfl, _⟩ := h
    rfl
  · obtain ⟨n, rfl, q⟩ := h
    refine ⟨_, (pss_one (ps_ret (pe_and (pe_callB call_isi (by rfl) L.isi (by decide +kernel) (pa_cons (pv 0) (pa_cons (pe_bltn (v := .ty "int") (by rfl) L.int (by decide +kernel) rfl) pa_nil))) (pe_one (pe_not (pe_callB call_isi (by rfl) L.isi (by decide +kernel) (pa_cons (pv 0) (pa_cons (pe_bltn (v := .ty "bool") (by rfl) B.bool (by decide +kernel) rfl) pa_nil)))))))), ?_⟩
    refine ⟨_, rfl, .int n, .ty "int", .type "int", .type "int", true, rfl, .ty _, .base (.int n), kit_ty (by decide +kernel), true, rfl, ?_⟩
    exact ⟨_, rfl, .int n, .ty "bool", .type "int", .type "bool", false, rfl, .ty _, .base (.int n), kit_ty (by decide +kernel), false, rfl, q⟩
def spOffset : Sp := fun vs H Q _ => ∃ b l, vs = [.ref b] ∧ BagL H b l ∧ ∀ t p H', placeB p = true → SameBut b H H' → BagL H' b l → H t = none → H' t = some (PairO p) → Q (.ref t) H'
theorem scOffset : FnScope ["_law_bag_here", "_law_spot"] ["_law_bag_here"] (defScope lOffset) := ⟨rfl, rfl, rfl, by decide +kernel, rfl, by decide +kernel, by decide +kernel⟩
theorem spots : ∀ n : Int, 0 ≤ n → n < 8 → ∃ v : Int, atI [V.int 16, V.int 17, V.int 18, V.int 23, V.int 24, V.int 29, V.int 30, V.int 31] n = some (.int v) ∧ 0 ≤ v ∧ v < 48 := by
  intro n h0 h1
  obtain ⟨j, rfl⟩ : ∃ j : Nat, n = (j : Int) := ⟨n.toNat, by omega⟩
  have hj : j < 8 := by omega
  match j, hj with
  | 0, _ => exact ⟨16, rfl, by decide, by decide⟩
  | 1, _ => exact ⟨17, rfl, by decide, by decide⟩
  | 2, _ => exact ⟨18, rfl, by decide, by decide⟩
  | 3, _ => exact ⟨23, rfl, by decide, by decide⟩
  | 4, _ => exact ⟨24, rfl, by decide, by decide⟩
  | 5, _ => exact ⟨29, rfl, by decide, by decide⟩
  | 6, _ => exact ⟨30, rfl, by decide, by decide⟩
  | 7, _ => exact ⟨31, rfl, by decide, by decide⟩
theorem bag_sb {H H' : Hp} {b l : Addr} (h : BagL H b l) (s : Same H H') : BagL H' b l := by
  obtain ⟨ns, i, p, q, hb, hl, r⟩ := h
  exact ⟨ns, i, p, q, s _ _ hb, s _ _ hl, r⟩
theorem sb_none {b t : Addr} {H H' : Hp} {l : Addr} (hb : BagL H b l) (hb2 : BagL H' b l) (s : SameBut b H H') (h : H' t = none) : H t = none := by
  obtain ⟨xs, e⟩ := bag_b hb
  refine but_back e s (fun z => ?_) h
  obtain ⟨ys, e2⟩ := bag_b hb2
  rw [z, e2] at h
  cases h
theorem ok_offset {f t : Addr} {fd td : FuncData} (F : Fun K "_law_offset" "_law_offset" lOffset f fd) (T : Cl P w K mg base CX0 1 "_law_take" tkNames spTake t td) (L : LTxt K mg) : FnOk P w K mg base CX0 2 f fd ["_law_bag_here"] spOffset := by
  refine F.ok scOffset (fun vs H Q E h => ?_) (fun cdv A outer s H vs Q E hr h => ?_)
  · obtain ⟨b, l, rfl, _⟩ := h
    rfl
  · obtain ⟨b, l, rfl, hb, k⟩ := h
    refine ⟨_, pss_cons (ps_set (i := 1) scOffset.nd rfl (.inl rfl) (pe_call T.ok hr (by rfl) T.gl T.kp T.bd .nil pass0 (pa_cons (pv 0) (pa_cons pe_int pa_nil)))) (C8.pss_cut (ps_if (pt_cmpR op_gt (pe_call T.ok hr (by rfl) T.gl T.kp T.bd .nil pass0 (pa_cons (pv 0) (pa_cons pe_int pa_nil))) pe_int (nomark _)) (pss_one (ps_set (i := 1) scOffset.nd rfl (.inl rfl) (pe_ix ix_list (pe_lst (pa_cons pe_int (pa_cons pe_int (pa_cons pe_int (pa_cons pe_int (pa_cons pe_int (pa_cons pe_int (pa_cons pe_int (pa_cons pe_int pa_nil))))))))) (pe_op op_mod (pe_callTy call_int1 (by rfl) L.int (by decide +kernel) (pa_cons (pv 1) pa_nil)) pe_int) (fun _ _ => rfl)))) pss_nil) (pss_cons (ps_set (i := 1) scOffset.nd rfl (.inl rfl) (pe_op op_add (pv 1) (pe_callTy call_int1 (by rfl) L.int (by decide +kernel) (pa_cons (pe_cmpR op_gt (pv 1) pe_int (nomark _)) pa_nil))))
      (pss_one (ps_ret (pe_tup (pa_cons (pe_op op_sub (pe_op op_mod (pe_callTy call_int1 (by rfl) L.int (by decide +kernel) (pa_cons (pv 1) pa_nil)) pe_int) pe_int) (pa_cons (pe_op op_sub (pe_op op_fdiv (pv 1) pe_int) pe_int) pa_nil))))))), ?_⟩
    refine ⟨_, rfl, b, l, 48, rfl, hb, by decide, by decide, fun n H1 n0 n1 u1 b1 => ?_⟩
    refine ⟨fun σ G => ∃ m : Int, σ = [some (.ref b), some (.int m)] ∧ 0 ≤ m ∧ m < 48 ∧ SameBut b H G ∧ BagL G b l, ?_, ?_⟩
    · refine ⟨_, rfl, b, l, 3, rfl, b1, by decide, by decide, fun m H2 m0 m1 u2 b2 => ⟨_, _, rfl, rfl, _, rfl, ite2 (fun _ => ?_) (fun _ => ⟨n, rfl, n0, n1, but_same (u1.trans u2), b2⟩)⟩⟩
      refine ⟨by show 8 ≤ sizeLine; decide, fun p np => ⟨_, rfl, .inl ⟨_, rfl, _, _, rfl, rfl, (by show (0 : Int) < 8; decide), ?_⟩⟩⟩
      obtain ⟨v, ev, v0, v1⟩ := spots _ (Int.emod_nonneg n (show (8 : Int) ≠ 0 by decide)) (Int.emod_lt_of_pos n (show (0 : Int) < 8 by decide))
      refine ⟨p, _, _, _, rfl, rfl, SqL.of upd_same, ev, v, rfl, v0, v1, fun a o na e => ?_, ?_⟩
      · have y := but_same (u1.trans u2) a o na e
        rw [upd_ne (ne_of_none y np)]
        exact y
      · exact bag_upd b2 np
    · rintro σ G ⟨m, rfl, m0, m1, sG, bG⟩
      refine ⟨_, rfl, _, rfl, _, _, rfl, rfl, .inr ⟨_, rfl, _, _, rfl, rfl, ?_⟩⟩
      have spot : ∃ v : Int, m + (if decide (23 < m) = true then 1 else 0) = v ∧ 0 ≤ v ∧ v < 49 ∧ v ≠ 24 := by
        refine ⟨_, rfl, ?_⟩
        by_cases c : 23 < m
        · rw [decide_eq_true c]
          simp
          omega
        · rw [decide_eq_false c]
          simp
          omega
      obtain ⟨v, ev, v0, v1, v24⟩ := spot
      refine ⟨_, rfl, .inl ⟨_, rfl, _, _, rfl, rfl, (by show (0 : Int) < 7; decide), _, _, rfl, rfl, _, rfl, _, _, rfl, rfl, ⟨by decide, by decide⟩, _, _, rfl, rfl, (by show 2 ≤ sizeLine; decide), fun t nt => ?_⟩⟩
      have y := k t (v % 7 - 3, v / 7 - 3) _ ?_ (fun a o na e => ?_) (bag_upd (o := PairO (v % 7 - 3, v / 7 - 3)) bG nt) (sb_none hb bG sG nt) upd_same
      · rw [← ev] at y
        exact y
      · unfold placeB
        have h1 := Int.emod_nonneg v (show (7 : Int) ≠ 0 by decide)
        have h2 := Int.emod_lt_of_pos v (show (0 : Int) < 7 by decide)
        have h3 : 0 ≤ v / 7 := Int.ediv_nonneg v0 (by decide)
        have h4 : v / 7 < 7 := Int.ediv_lt_of_lt_mul (by decide) (by omega)
        simp only [Bool.and_eq_true, Bool.or_eq_true, decide_eq_true_eq]
        refine ⟨⟨by omega, by omega⟩, ⟨by omega, by omega⟩, ?_⟩
        by_cases z : v % 7 = 3
        · right
          omega
        · left
          omega
      · have y := sG a o na e
        rw [upd_ne (ne_of_none y nt)]
        exact y
end
end Pm
namespace Pm
open PySem PySem.Spec PyProof.Rows L2 SX NdefX
/-- drawn signs of a condition -/
structure Sgn (y : List Nat) : Prop where
  ne : y ≠ []
  nd : y.Nodup
  all : ∀ c ∈ y, c = 35 ∨ Let c
  few : y.length ≤ 3
theorem Sgn.diff {y : List Nat} (h : Sgn y) : diffB 35 y = true := by
  unfold diffB
  rw [decide_eq_true h.ne, decide_eq_true h.nd, Bool.true_and, Bool.true_and, List.all_eq_true]
  intro c m
  rcases h.all c m with e | e
  · rw [decide_eq_true e]
    rfl
  · rw [decide_eq_true e, Bool.or_true]
theorem pal_at {z : List Nat} (h : Pal z) {n : Int} (n0 : 0 ≤ n) (n3 : n < 3) : ∃ c, atI z n = some c ∧ Let c := by
  obtain ⟨j, rfl⟩ : ∃ j : Nat, n = (j : Int) := ⟨n.toNat, by omega⟩
  have hj : j < z.length := by rw [h.len]; omega
  exact ⟨z[j], atI_nat (List.getElem?_eq_getElem hj), h.good (List.getElem_mem hj)⟩
theorem CndsAt.sb {H H' : Hp} {b l p : Addr} {ks : List (Addr × Cnd)} (h : CndsAt H p ks) (pb : p ≠ b) (hb : BagL H b l) (s : SameBut b H H') : CndsAt H' p ks := by
  obtain ⟨xs, e⟩ := bag_b hb
  exact ⟨s _ _ pb h.lst, fun q hq => s _ _ (ne_of (h.each q hq) e (by intro z; cases z)) (h.each q hq)⟩
def kindT (κ : Nat) : Str := if κ = 0 then "all" else if κ = 1 then "count" else "same"
structure GoodR (κ : Nat) (hue : Nat) (cs : List Cnd) (need : Int) : Prop where
  k3 : κ < 3
  hue : Let hue
  few : cs.length ≤ 8
  nd : (cs.map (·.1)).Nodup
  each : ∀ c ∈ cs, placeB c.1 = true ∧ Sgn c.2
  n0 : 0 ≤ need
  n1 : need ≤ (cs.length : Int)
  all : κ = 0 → need = (cs.length : Int)
/-- the law's own rule at t, its parts at pl -/
structure RuleT (H : Hp) (t pl : Addr) (κ hue : Nat) (ks : List (Addr × Cnd)) (need : Int) : Prop where
  at_ : H t = some (.tup [.str (kindT κ), .str (S [hue]), .ref pl, .int need])
  cs : CndsAt H pl ks
  good : GoodR κ hue (ks.map (·.2)) need
theorem RuleT.same {H H' : Hp} {t pl : Addr} {κ hue : Nat} {ks : List (Addr × Cnd)} {need : Int} (h : RuleT H t pl κ hue ks need) (s : Same H H') : RuleT H' t pl κ hue ks need := ⟨s _ _ h.at_, h.cs.same s, h.good⟩
section
variable {P : Program} {w : World} {K : PySem.W.Frag} {mg : Str → Option Value} {base : Heap} {C CI CW D : Addr} {κ : Nat}
def spSigns : Sp := fun vs H Q _ => ∃ b l z, vs = [.ref b, .str (S z)] ∧ BagL H b l ∧ Pal z ∧ ∀ y H', Sgn y → But b H H' → BagL H' b l → Q (.str (S y)) H'
theorem scSigns : FnScope ["_law_bag_here", "_law_palette_here", "_law_signs_here", "_law_other"] ["_law_bag_here", "_law_palette_here"] (defScope lSigns) := ⟨rfl, rfl, rfl, by decide +kernel, rfl, by decide +kernel, by decide +kernel⟩
theorem ok_signs {f t : Addr} {fd td : FuncData} (F : Fun K "_law_signs" "_law_signs" lSigns f fd) (T : Cl P w K mg base CX0 1 "_law_take" tkNames spTake t td) : FnOk P w K mg base CX0 2 f fd ["_law_bag_here", "_law_palette_here"] spSigns := by
  refine F.ok scSigns (fun vs H Q E h => ?_) (fun cdv A outer s H vs Q E hr h => ?_)
  · obtain ⟨b, l, z, rfl, _⟩ := h
    rfl
  · obtain ⟨b, l, z, rfl, hb, hz, k⟩ := h
    refine ⟨_, pss_cons (ps_set (i := 2) scSigns.nd rfl (.inl rfl) (pe_ix ix_str (pv 1) (pe_call T.ok hr (by rfl) T.gl T.kp T.bd .nil pass0 (pa_cons (pv 0) (pa_cons pe_int pa_nil))) (fun _ _ => rfl))) (pss_cons (ps_set (i := 3) scSigns.nd rfl (.inl rfl) (pe_ix ix_str (pv 1) (pe_call T.ok hr (by rfl) T.gl T.kp T.bd .nil pass0 (pa_cons (pv 0) (pa_cons pe_int pa_nil))) (fun _ _ => rfl))) (C8.pss_cut (ps_if (PW.pt (pw_and (pt_cmpR op_eq (pe_call T.ok hr (by rfl) T.gl T.kp T.bd .nil pass0 (pa_cons (pv 0) (pa_cons pe_int pa_nil))) pe_int (nomark _)) (pw_and1 (pt_cmpR op_notIn_sign (pv 3) (pv 2) (by rfl))))) (pss_one (ps_set (i := 2) scSigns.nd rfl (.inl rfl) (pe_op op_add_str (pv 3) (pv 2)))) pss_nil) (pss_cons (ps_if (pt_cmpR op_eq (pe_call T.ok hr (by rfl) T.gl T.kp T.bd .nil pass0 (pa_cons (pv 0) (pa_cons pe_int pa_nil))) pe_int (nomark _)) (pss_one (ps_set (i := 2) scSigns.nd rfl (.inl rfl) (pe_op op_add_str (pv 2) pe_str))) pss_nil)
      (pss_one (ps_ret (pv 2)))))), ?_⟩
    have lz : (S z).length ≤ sizeLine := by rw [len_S, hz.len]; exact small_line (by decide)
    refine ⟨_, rfl, _, rfl, b, l, 3, rfl, hb, by decide, by decide, fun n H1 n0 n1 u1 b1 => ?_⟩
    obtain ⟨c, ec, hc⟩ := pal_at hz n0 n1
    refine ⟨_, n, c, rfl, rfl, lz, ec, ?_⟩
    refine ⟨_, rfl, _, rfl, b, l, 3, rfl, b1, by decide, by decide, fun n2 H2 p0 p1 u2 b2 => ?_⟩
    obtain ⟨d, ed, hd⟩ := pal_at hz p0 p1
    refine ⟨_, n2, d, rfl, rfl, lz, ed, ?_⟩
    refine ⟨fun σ G => ∃ y, σ = [some (.ref b), some (.str (S z)), some (.str (S y)), some (.str (S [d]))] ∧ y ≠ [] ∧ y.Nodup ∧ (∀ c ∈ y, Let c) ∧ y.length ≤ 2 ∧ But b H G ∧ BagL G b l, ?_, ?_⟩
    · refine ⟨_, rfl, b, l, 3, rfl, b2, by decide, by decide, fun n3 H3 _ _ u3 b3 => ⟨rfl, _, rfl, ite2 (fun _ => ?_) (fun _ => ⟨[c], rfl, by simp, by simp, by simpa using hc, (by show 1 ≤ 2; decide), (u1.trans u2).trans u3, b3⟩)⟩⟩
      refine ⟨_, rfl, _, rfl, d, S [c], rfl, rfl, _, rfl, ?_⟩
      by_cases e : d = c
      · refine iteFe (by rw [e]; simp) ⟨[c], rfl, by simp, by simp, by simpa using hc, (by show 1 ≤ 2; decide), (u1.trans u2).trans u3, b3⟩
      · refine iteTe (by simp [e]) ⟨_, rfl, _, rfl, _, _, rfl, rfl, (by rw [len_S, len_S]; show 1 + 1 ≤ sizeLine; decide), [d, c], ?_, by simp, by simp [e], ?_, (by show 2 ≤ 2; decide), (u1.trans u2).trans u3, b3⟩
        · exact congrArg (fun x => [some (V.ref b), some (V.str (S z)), some (V.str x), some (V.str (S [d]))]) (S_cat [d] [c])
        · intro x m
          rcases List.mem_cons.mp m with e | m
          · rw [e]
            exact hd
          · rw [List.mem_singleton.mp m]
            exact hc
    · rintro σ G ⟨y, rfl, y0, y1, y2, y3, uG, bG⟩
      refine ⟨_, rfl, b, l, 4, rfl, bG, by decide, by decide, fun n3 H3 _ _ u3 b3 => ⟨rfl, _, rfl, ite2 (fun _ => ?_) (fun _ => ⟨_, rfl, k y H3 ⟨y0, y1, fun c m => .inr (y2 c m), by omega⟩ (uG.trans u3) b3⟩)⟩⟩
      refine ⟨_, rfl, _, _, rfl, rfl, ?_, _, rfl, ?_⟩
      · rw [len_S]
        show y.length + 1 ≤ sizeLine
        exact small_line (by omega)
      · have e : S y ++ ("#" : Str) = S (y ++ [35]) := by rw [hash_S, S_cat]
        have q := k (y ++ [35]) H3 ⟨by simp, ?_, fun c m => ?_, by rw [List.length_append, List.length_singleton]; omega⟩ (uG.trans u3) b3
        · rw [← e] at q
          exact q
        · rw [List.nodup_append]
          refine ⟨y1, by simp, fun a ha c hc e2 => ?_⟩
          have hl := y2 a ha
          rw [e2, List.mem_singleton.mp hc] at hl
          unfold Let at hl
          omega
        · rcases List.mem_append.mp m with m | m
          · exact .inr (y2 c m)
          · exact .inl (List.mem_singleton.mp m)
def spParts : Sp := fun vs H Q _ => ∃ b l z, vs = [.ref b, .str (S z)] ∧ BagL H b l ∧ Pal z ∧ ∀ p ks H', SameBut b H H' → BagL H' b l → H p = none → CndsAt H' p ks → ks.length ≤ 8 → (ks.map fun q => q.2.1).Nodup → (∀ q ∈ ks, placeB q.2.1 = true ∧ Sgn q.2.2) → Q (.ref p) H'
abbrev nParts : List Str := ["_law_bag_here", "_law_palette_here", "_law_many", "_law_parts_here", "_law_k", "_law_offset_here", "_law_signs_here", "_law_part"]
theorem scParts : FnScope nParts ["_law_bag_here", "_law_palette_here"] (defScope lParts) := ⟨rfl, rfl, rfl, by decide +kernel, rfl, by decide +kernel, by decide +kernel⟩
theorem ok_parts {f t o g : Addr} {fd td od gd : FuncData} (F : Fun K "_law_parts" "_law_parts" lParts f fd) (T : Cl P w K mg base CX0 1 "_law_take" tkNames spTake t td) (O : Cl P w K mg base CX0 2 "_law_offset" ["_law_bag_here"] spOffset o od) (Sg : Cl P w K mg base CX0 2 "_law_signs" ["_law_bag_here", "_law_palette_here"] spSigns g gd) (L : LTxt K mg) :
    FnOk P w K mg base CX0 3 f fd ["_law_bag_here", "_law_palette_here"] spParts := by
  refine F.ok scParts (fun vs H Q E h => ?_) (fun cdv A outer s H vs Q E hr h => ?_)
  · obtain ⟨b, l, z, rfl, _⟩ := h
    rfl
  · obtain ⟨b, l, z, rfl, hb, hz, k⟩ := h
    have hr1 : Room 1 _ := hr.mono (by decide)
    refine ⟨_, pss_cons (ps_set (i := 2) scParts.nd rfl (.inl rfl) (pe_call T.ok hr1 (by rfl) T.gl T.kp T.bd .nil pass0 (pa_cons (pv 0) (pa_cons pe_int pa_nil)))) (C8.pss_cut (ps_if (pt_cmpR op_eq (pe_call T.ok hr1 (by rfl) T.gl T.kp T.bd .nil pass0 (pa_cons (pv 0) (pa_cons pe_int pa_nil))) pe_int (nomark _)) (pss_one (ps_set (i := 2) scParts.nd rfl (.inl rfl) pe_int)) pss_nil) (pss_cons (ps_set (i := 3) scParts.nd rfl (.inl rfl) (pe_lst pa_nil))
      (pss_cons (ps_for PassesOwn.never rfl (pi_range1 (by rfl) L.rng (pa_cons (pv 2) pa_nil)) (pg_name (i := 4) scParts.nd rfl (.inl rfl)) (pss_cons (ps_set (i := 5) scParts.nd rfl (.inl rfl) (pe_call O.ok hr (by rfl) O.gl O.kp O.bd .nil pass0 (pa_cons (pv 0) pa_nil)))
        (pss_cons (ps_set (i := 6) scParts.nd rfl (.inl rfl) (pe_call Sg.ok hr (by rfl) Sg.gl Sg.kp Sg.bd .nil pass0 (pa_cons (pv 0) (pa_cons (pv 1) pa_nil))))
        (pss_one (ps_if (pt_cmpR (op_notInD (hu65r hr)) (pv 5) (pe_lc (own := [("_law_part", 7)]) (g := (gName 7)) (tt := tYes) (te := (tTup (tCons (tOp (rIxT K) (tVar 7) (tC (.int 0))) (tCons (tOp (rIxT K) (tVar 7) (tC (.int 1))) tNil)))) rfl scParts.nd (pi_list (pv 3)) (blkOk_by (own := [("_law_part", 7)]) (N := nParts) (sc := defScope lParts) (by decide +kernel)) (fun _ _ _ _ _ => (pg_name (i := 7) scParts.nd rfl (.inl rfl))) (fun _ _ _ _ _ => pts_nil) (fun _ _ _ _ _ => (pe_tup (pa_cons (by exact pe_ix ix_tup (pv 7) pe_int (fun _ _ => rfl)) (pa_cons (by exact pe_ix ix_tup (pv 7) pe_int (fun _ _ => rfl)) pa_nil))))) (by rfl)) (pss_one (ps_expr (pe_bm PySem.F.plainAttrs_list PySem.F.slot_list_append PySem.F.type_list_append mt_append (pv 3) (pa_cons (pe_tup (pa_cons (pe_ix ix_tup (pv 5) pe_int (fun _ _ => rfl)) (pa_cons (pe_ix ix_tup (pv 5) pe_int (fun _ _ => rfl)) (pa_cons (pv 6) pa_nil)))) pa_nil)))) pss_nil)))))
      (pss_one (ps_ret (pv 3)))))), ?_⟩
    refine ⟨_, rfl, b, l, 4, rfl, hb, by decide, by decide, fun n H1 n0 n1 u1 b1 => ?_⟩
    refine ⟨fun σ G => ∃ m : Int, σ = [some (.ref b), some (.str (S z)), some (.int m), none, none, none, none, none] ∧ 0 ≤ m ∧ m ≤ 8 ∧ But b H G ∧ BagL G b l, ?_, ?_⟩
    · exact ⟨_, rfl, b, l, 9, rfl, b1, by decide, by decide, fun n3 H3 _ _ u3 b3 => ⟨rfl, _, rfl, ite2 (fun _ => ⟨8, rfl, by decide, by decide, u1.trans u3, b3⟩) (fun _ => ⟨n, rfl, n0, by omega, u1.trans u3, b3⟩)⟩⟩
    · rintro σ G ⟨m, rfl, m0, m8, uG, bG⟩
      refine ⟨by decide, fun p np => ?_⟩
      have np0 : H p = none := sb_none hb bG (but_same uG) np
      refine ⟨_, rfl, m, rfl, by omega, by omega, for_range (lo := 0) (n := m.toNat) (fun i σ G => ∃ y4 y5 y6 ks, σ = [some (.ref b), some (.str (S z)), some (.int m), some (.ref p), y4, y5, y6, none] ∧ ks.length ≤ i ∧ (ks.map fun q : Addr × Cnd => q.2.1).Nodup ∧ (∀ q ∈ ks, placeB q.2.1 = true ∧ Sgn q.2.2) ∧ (∀ a o, a ≠ b → H a = some o → G a = some o) ∧ BagL G b l ∧ CndsAt G p ks)
        ⟨_, _, _, [], rfl, Nat.le_refl _, List.nodup_nil, (fun q m => nomatch m), fun a o na e => ?_, bag_upd bG np, ⟨upd_same, fun q m => nomatch m⟩⟩ ?_ ?_⟩
      · have y := but_same uG a o na e
        rw [upd_ne (ne_of_none y np)]
        exact y
      · rintro i σ G1 hi ⟨y4, y5, y6, ks, rfl, lk, nd, gk, sG, bG1, hc⟩
        have pb : p ≠ b := fun e => by
          obtain ⟨xs, e2⟩ := bag_b hb
          rw [e, e2] at np0
          cases np0
        refine ⟨_, rfl, b, l, rfl, bG1, fun t c G2 pc s2 b2 nt ht => ?_⟩
        have hc2 := hc.sb pb bG1 s2
        have tb : t ≠ b := fun e => by
          obtain ⟨xs, e2⟩ := bag_b bG1
          rw [e, e2] at nt
          cases nt
        refine ⟨_, rfl, _, rfl, b, l, z, rfl, b2, hz, fun y G3 gy u3 b3 => ?_⟩
        have hc3 := hc2.sb pb b2 (but_same u3)
        have ht3 := (u3 t tb).trans ht
        refine ⟨_, rfl, .ref p, rfl, p, rfl, ⟨_, SqL.of hc3.lst⟩, fun D nD => lc_list (K := K) (a := p) (xs := refC ks) (fun i G => ∃ ps : List (Addr × (Int × Int)), Same G3 G ∧ G D = some (.lst (ps.map fun q => V.ref q.1)) ∧ (∀ q ∈ ps, G q.1 = some (PairO q.2)) ∧ ps.map (·.2) = (ks.take i).map fun q => q.2.1) ⟨[], same_upd nD, upd_same, (fun p hp => nomatch hp), rfl⟩ (fun i G _ ⟨ts, sm, _⟩ => SqL.of (sm _ _ hc3.lst)) ?_ ?_⟩
        · rintro j x G hx ⟨ps, sm, hD, hps, ep⟩
          obtain ⟨t2, c2, hj, rfl⟩ := refC_at hx
          have htc := sm _ _ (hc3.each _ (List.mem_of_getElem? hj))
          have lj : j < ks.length := (List.getElem?_eq_some_iff.mp hj).1
          refine ⟨rfl, tyes (iteT ⟨_, rfl, t2, _, 0, _, rfl, rfl, SqT.of htc, rfl, _, rfl, t2, _, 1, _, rfl, rfl, SqT.of htc, rfl, by show 2 ≤ sizeLine; decide, fun T' nT => ?_⟩)⟩
          have s3 := same_upd (o := .tup [.int c2.1.1, .int c2.1.2]) nT
          have nDT : D ≠ T' := ne_of_none hD nT
          refine ⟨ps.map fun q => V.ref q.1, s3 _ _ hD, ?_, ps ++ [(T', c2.1)], fun a o e => ?_, ?_, fun q hq => ?_, ?_⟩
          · have := congrArg List.length ep
            rw [List.length_map, List.length_map, List.length_take] at this
            rw [List.length_map]
            exact small1000 (by omega)
          · rw [upd_ne (ne_of_none e nD)]
            exact s3 _ _ (sm _ _ e)
          · rw [upd_same, List.map_append]
            rfl
          · rcases List.mem_append.mp hq with y' | y'
            · have y2 := s3 _ _ (hps q y')
              rw [upd_ne (fun e => ?_)]
              · exact y2
              · rw [e, s3 _ _ hD] at y2
                cases y2
            · rw [List.mem_singleton.mp y']
              rw [upd_ne nDT.symm, upd_same]
              rfl
          · rw [List.map_append, ep, List.take_add_one, hj, List.map_append]
            rfl
        · rintro G4 ⟨ps, sm, hD, hps, ep⟩
          rw [show (refC ks).length = ks.length from List.length_map _, List.take_of_length_le (Nat.le_refl _)] at ep
          have dps : DpAll K G4 (ps.map fun q => V.ref q.1) ((ps.map (·.2)).map dP) := by
            clear ep hD
            induction ps with
            | nil => exact .nil
            | cons q ps ih => exact .cons (.tup (SqT.of (hps q List.mem_cons_self)) (.cons (.int _) (.cons (.int _) .nil))) (ih fun q' m => hps q' (List.mem_cons_of_mem _ m))
          refine ⟨dP c, _, .tup (SqT.of (sm _ _ ht3)) (.cons (.int _) (.cons (.int _) .nil)), .lst (SqL.of hD) dps, dP_shaped c, dPs_shaped _, _, rfl, ?_⟩
          rw [dPs_any, ep]
          have sAll : ∀ a o, a ≠ b → H a = some o → G4 a = some o := fun a o na e => sm _ _ ((u3 a na).trans (s2 a o na (sG a o na e)))
          have bG4 := bag_sb b3 sm
          have hc4 := hc3.same sm
          by_cases new : c ∈ ks.map fun q => q.2.1
          · refine iteFe (by rw [decide_eq_true new]; rfl) ?_
            exact ⟨_, _, _, ks, rfl, by omega, nd, gk, sAll, bG4, hc4⟩
          · refine iteTe (by rw [decide_eq_false new]; rfl) ?_
            refine ⟨_, rfl, .inl ⟨rfl, _, SqL.of hc4.lst⟩, _, rfl, t, _, 0, _, rfl, rfl, SqT.of (sm _ _ ht3), rfl, _, rfl, t, _, 1, _, rfl, rfl, SqT.of (sm _ _ ht3), rfl, _, rfl, by show 3 ≤ sizeLine; decide, fun T' nT => ?_⟩
            have s5 := same_upd (o := .tup [.int c.1, .int c.2, .str (S y)]) nT
            have nTb : T' ≠ b := fun e => by
              obtain ⟨xs, e2⟩ := bag_b bG4
              rw [e, e2] at nT
              cases nT
            have npT : p ≠ T' := ne_of_none hc4.lst nT
            have bl : p ≠ l := fun e => by
              obtain ⟨xs, e2⟩ := bag_l hb
              rw [e, e2] at np0
              cases np0
            refine ⟨p, _, _, rfl, rfl, s5 _ _ hc4.lst, ?_, _, _, _, ks ++ [(T', (c, y))], rfl, ?_, ?_, fun q hq => ?_, fun a o na e => ?_, bag_ne (bag_sb bG4 s5) pb bl, ?_, fun q hq => ?_⟩
            · rw [show (refC ks).length = ks.length from List.length_map _]
              exact small1000 (by omega)
            · rw [List.length_append, List.length_singleton]
              omega
            · rw [List.map_append]
              rw [List.nodup_append]
              refine ⟨nd, by simp, fun a ha d hd e2 => ?_⟩
              have hd : d = c := by simpa using hd
              rw [e2, hd] at ha
              exact new ha
            · rcases List.mem_append.mp hq with m' | m'
              · exact gk q m'
              · rw [List.mem_singleton.mp m']
                exact ⟨pc, gy⟩
            · rw [upd_ne (ne_of_none e np0)]
              exact s5 _ _ (sAll a o na e)
            · rw [upd_same]
              unfold refC
              rw [List.map_append]
              rfl
            · rcases List.mem_append.mp hq with m' | m'
              · have y2 := s5 _ _ (hc4.each q m')
                rw [upd_ne (fun e => ?_)]
                · exact y2
                · rw [e, s5 _ _ hc4.lst] at y2
                  cases y2
              · rw [List.mem_singleton.mp m']
                rw [upd_ne npT.symm, upd_same]
                rfl
      · rintro σ G1 ⟨y4, y5, y6, ks, rfl, lk, nd, gk, sG, bG1, hc⟩
        exact ⟨_, rfl, k p ks G1 sG bG1 np0 hc (by omega) nd gk⟩
end
end Pm
namespace Pm
open PySem PySem.Spec PyProof.Rows L2 SX NdefX
theorem kinds_at : ∀ n : Int, 0 ≤ n → n < 3 → ∃ κ : Nat, κ < 3 ∧ n = (κ : Int) ∧ atI [V.str "all", V.str "count", V.str "same"] n = some (.str (kindT κ)) := by
  intro n h0 h1
  obtain ⟨j, rfl⟩ : ∃ j : Nat, n = (j : Int) := ⟨n.toNat, by omega⟩
  have hj : j < 3 := by omega
  match j, hj with
  | 0, _ => exact ⟨0, by decide, rfl, rfl⟩
  | 1, _ => exact ⟨1, by decide, rfl, rfl⟩
  | 2, _ => exact ⟨2, by decide, rfl, rfl⟩
theorem kind_all {κ : Nat} (h : κ < 3) : decide (V.str (kindT κ) = V.str "all") = decide (κ = 0) := by
  match κ, h with
  | 0, _ => decide +kernel
  | 1, _ => decide +kernel
  | 2, _ => decide +kernel
theorem kind_count {κ : Nat} (h : κ < 3) : decide (V.str (kindT κ) = V.str "count") = decide (κ = 1) := by
  match κ, h with
  | 0, _ => decide +kernel
  | 1, _ => decide +kernel
  | 2, _ => decide +kernel
theorem kind_same {κ : Nat} (h : κ < 3) : decide (V.str (kindT κ) = V.str "same") = decide (κ = 2) := by
  match κ, h with
  | 0, _ => decide +kernel
  | 1, _ => decide +kernel
  | 2, _ => decide +kernel
section
variable {P : Program} {w : World} {K : PySem.W.Frag} {mg : Str → Option Value} {base : Heap} {C CI CW D : Addr} {κ : Nat}
def spRule : Sp := fun vs H Q _ => ∃ b l z, vs = [.ref b, .str (S z)] ∧ BagL H b l ∧ Pal z ∧ ∀ t pl κ hue ks need H', SameBut b H H' → BagL H' b l → RuleT H' t pl κ hue ks need → t ≠ b → pl ≠ b → Q (.ref t) H'
abbrev nRule : List Str := ["_law_bag_here", "_law_palette_here", "_law_kind", "_law_hue", "_law_parts_here", "_law_need"]
theorem scRule : FnScope nRule ["_law_bag_here", "_law_palette_here"] (defScope lRule) := ⟨rfl, rfl, rfl, by decide +kernel, rfl, by decide +kernel, by decide +kernel⟩
theorem ok_rule {f t p : Addr} {fd td pd : FuncData} (F : Fun K "_law_rule" "_law_rule" lRule f fd) (T : Cl P w K mg base CX0 1 "_law_take" tkNames spTake t td) (Pa : Cl P w K mg base CX0 3 "_law_parts" ["_law_bag_here", "_law_palette_here"] spParts p pd) (L : LTxt K mg) : FnOk P w K mg base CX0 4 f fd ["_law_bag_here", "_law_palette_here"] spRule := by
  refine F.ok scRule (fun vs H Q E h => ?_) (fun cdv A outer s H vs Q E hr h => ?_)
  · obtain ⟨b, l, z, rfl, _⟩ := h
    rfl
  · obtain ⟨b, l, z, rfl, hb, hz, k⟩ := h
    have hr1 : Room 1 _ := hr.mono (by decide)
    refine ⟨_, (pss_cons (ps_set (i := 2) scRule.nd rfl (.inl rfl) (pe_ix ix_list (pe_lst (pa_cons pe_str (pa_cons pe_str (pa_cons pe_str pa_nil)))) (pe_call T.ok hr1 (by rfl) T.gl T.kp T.bd .nil pass0 (pa_cons (pv 0) (pa_cons pe_int pa_nil))) (fun _ _ => rfl)))
      (pss_cons (ps_set (i := 3) scRule.nd rfl (.inl rfl) (pe_ix ix_str (pv 1) (pe_call T.ok hr1 (by rfl) T.gl T.kp T.bd .nil pass0 (pa_cons (pv 0) (pa_cons pe_int pa_nil))) (fun _ _ => rfl)))
      (pss_cons (ps_set (i := 4) scRule.nd rfl (.inl rfl) (pe_call Pa.ok hr (by rfl) Pa.gl Pa.kp Pa.bd .nil pass0 (pa_cons (pv 0) (pa_cons (pv 1) pa_nil))))
      (pss_cons (ps_set (i := 5) scRule.nd rfl (.inl rfl) (pe_call T.ok hr1 (by rfl) T.gl T.kp T.bd .nil pass0 (pa_cons (pv 0) (pa_cons (pe_op op_add (pe_callB call_len_seq (by rfl) L.len PySem.boot_len (pa_cons (pv 4) pa_nil)) pe_int) pa_nil))))
      (pss_cons (ps_if (pt_cmpR op_eq (pv 2) pe_str (nomark _)) (pss_one (ps_set (i := 5) scRule.nd rfl (.inl rfl) (pe_callB call_len_seq (by rfl) L.len PySem.boot_len (pa_cons (pv 4) pa_nil)))) pss_nil)
      (pss_one (ps_ret (pe_tup (pa_cons (pv 2) (pa_cons (pv 3) (pa_cons (pv 4) (pa_cons (pv 5) pa_nil)))))))))))), ?_⟩
    have lz : (S z).length ≤ sizeLine := by rw [len_S, hz.len]; exact small_line (by decide)
    refine ⟨by show 3 ≤ sizeLine; decide, fun q nq => ?_⟩
    have b0 := bag_upd (o := .lst [.str "all", .str "count", .str "same"]) hb nq
    have qb : q ≠ b := fun e => by
      obtain ⟨xs, e2⟩ := bag_b hb
      rw [e, e2] at nq
      cases nq
    refine ⟨_, rfl, b, l, 3, rfl, b0, by decide, by decide, fun n H1 n0 n1 u1 b1 => ?_⟩
    obtain ⟨κ, k3, rfl, ek⟩ := kinds_at n n0 n1
    refine ⟨q, _, _, _, rfl, rfl, SqL.of ((u1 q qb).trans upd_same), ek, ?_⟩
    refine ⟨_, rfl, _, rfl, b, l, 3, rfl, b1, by decide, by decide, fun n2 H2 p0 p1 u2 b2 => ?_⟩
    obtain ⟨d, ed, hd⟩ := pal_at hz p0 p1
    refine ⟨_, n2, d, rfl, rfl, lz, ed, ?_⟩
    refine ⟨_, rfl, _, rfl, b, l, z, rfl, b2, hz, fun pl ks H3 s3 b3 np hc few nd gd => ?_⟩
    have lk : (refC ks).length = ks.length := List.length_map _
    have plb : pl ≠ b := fun e => by
      obtain ⟨xs, e2⟩ := bag_b b2
      rw [e, e2] at np
      cases np
    refine ⟨_, rfl, _, rfl, pl, _, rfl, .inl (SqL.of hc.lst), _, _, rfl, rfl, b, l, _, rfl, b3, by rw [lk]; omega, by rw [lk]; omega, fun m H4 m0 m1 u4 b4 => ?_⟩
    rw [lk] at m1
    have hc4 := hc.sb plb b3 (but_same u4)
    have s02 : SameBut b H H2 := fun a o na e => but_same (u1.trans u2) a o na (same_upd nq _ _ e)
    have s04 : SameBut b H H4 := fun a o na e => but_same u4 a o na (s3 a o na (s02 a o na e))
    have fin : ∀ (m : Int), 0 ≤ m → m ≤ (ks.length : Int) → (κ = 0 → m = (ks.length : Int)) → 4 ≤ sizeLine ∧ ∀ p, H4 p = none → Q (.ref p) (upd H4 p (.tup [.str (kindT κ), .str (S [d]), .ref pl, .int m])) := fun m m0 m1 m2 => by
      refine ⟨by decide, fun t nt => ?_⟩
      have st := same_upd (o := .tup [.str (kindT κ), .str (S [d]), .ref pl, .int m]) nt
      refine k t pl κ d ks m _ (fun a o na e => st _ _ (s04 a o na e)) (bag_sb b4 st) ⟨upd_same, hc4.same st, ⟨k3, hd, by rw [List.length_map]; exact few, ?_, fun c hcm => ?_, m0, by rw [List.length_map]; exact m1, fun e => by rw [List.length_map]; exact m2 e⟩⟩ (fun e => ?_) plb
      · rw [List.map_map]
        exact nd
      · obtain ⟨q', mq, rfl⟩ := List.mem_map.mp hcm
        exact gd q' mq
      · obtain ⟨xs, e2⟩ := bag_b b4
        rw [e, e2] at nt
        cases nt
    refine ⟨_, rfl, rfl, _, rfl, ?_⟩
    rw [kind_all k3]
    by_cases e0 : κ = 0
    · refine iteTe (decide_eq_true e0) ⟨_, rfl, pl, _, rfl, .inl (SqL.of hc4.lst), ?_⟩
      rw [lk]
      exact ⟨_, rfl, _, rfl, _, rfl, _, rfl, fin _ (by omega) (Int.le_refl _) fun _ => rfl⟩
    · refine iteFe (decide_eq_false e0) ?_
      exact ⟨_, rfl, _, rfl, _, rfl, _, rfl, fin m m0 (by omega) fun e => absurd e e0⟩
/-! ### what the law says of its rule -/
def spLaysL : Sp := fun vs H Q _ => ∃ t pl κ hue ks need z, vs = [.ref t, .str (S z)] ∧ RuleT H t pl κ hue ks need ∧ Q (.bl (decide (κ = 2) || decide (z = [hue]))) H
theorem scLaysL : FnScope ["_law_rule_here", "_law_hue"] ["_law_rule_here", "_law_hue"] (defScope lLays) := ⟨rfl, rfl, rfl, by decide +kernel, rfl, by decide +kernel, by decide +kernel⟩
theorem ok_laysL {f : Addr} {fd : FuncData} (F : Fun K "_law_lays" "_law_lays" lLays f fd) : FnOk P w K mg base CX0 1 f fd ["_law_rule_here", "_law_hue"] spLaysL := by
  refine F.ok scLaysL (fun vs H Q E h => ?_) (fun cdv A outer s H vs Q E hr h => ?_)
  · obtain ⟨t, pl, κ, hue, ks, need, z, rfl, _⟩ := h
    rfl
  · obtain ⟨t, pl, κ, hue, ks, need, z, rfl, hR, k⟩ := h
    refine ⟨_, (pss_one (ps_ret (pe_or (pe_cmpR op_eq (pe_ix ix_tup (pv 0) pe_int (fun _ _ => rfl)) pe_str (nomark _)) (pe_one (pe_cmpR op_eq (pe_ix ix_tup (pv 0) pe_int (fun _ _ => rfl)) (pv 1) (nomark _)))))), ?_⟩
    refine ⟨_, rfl, t, _, 0, _, rfl, rfl, SqT.of hR.at_, rfl, rfl, _, rfl, ?_⟩
    rw [kind_same hR.good.k3]
    by_cases e : κ = 2
    · rw [decide_eq_true e] at k ⊢
      exact iteT k
    · rw [decide_eq_false e] at k ⊢
      refine iteF ⟨_, rfl, t, _, 1, _, rfl, rfl, SqT.of hR.at_, rfl, _, rfl, rfl, ?_⟩
      have e2 : decide (V.str (S [hue]) = V.str (S z)) = (false || decide (z = [hue])) := by
        rw [Bool.false_or]
        exact decide_eq_decide.mpr ⟨fun y => (S_inj (V.str.inj y)).symm, fun y => by rw [y]⟩
      rw [e2]
      exact k
def spSlackL : Sp := fun vs H Q _ => ∃ t pl κ hue ks need, vs = [.ref t] ∧ RuleT H t pl κ hue ks need ∧ Q (.int (slackOf κ need (ks.map (·.2)))) H
theorem scSlackL : FnScope ["_law_rule_here"] ["_law_rule_here"] (defScope lSlack) := ⟨rfl, rfl, rfl, by decide +kernel, rfl, by decide +kernel, by decide +kernel⟩
theorem ok_slackL {f : Addr} {fd : FuncData} (F : Fun K "_law_slack" "_law_slack" lSlack f fd) (L : LTxt K mg) : FnOk P w K mg base CX0 1 f fd ["_law_rule_here"] spSlackL := by
  refine F.ok scSlackL (fun vs H Q E h => ?_) (fun cdv A outer s H vs Q E hr h => ?_)
  · obtain ⟨t, pl, κ, hue, ks, need, rfl, _⟩ := h
    rfl
  · obtain ⟨t, pl, κ, hue, ks, need, rfl, hR, k⟩ := h
    refine ⟨_, (pss_cons (ps_if (pt_cmpR op_eq (pe_ix ix_tup (pv 0) pe_int (fun _ _ => rfl)) pe_str (nomark _)) (pss_one (ps_ret pe_int)) pss_nil)
      (pss_one (ps_ret (pe_op op_sub (pe_callB call_len_seq (by rfl) L.len PySem.boot_len (pa_cons (pe_ix ix_tup (pv 0) pe_int (fun _ _ => rfl)) pa_nil)) (pe_ix ix_tup (pv 0) pe_int (fun _ _ => rfl)))))), ?_⟩
    refine ⟨_, rfl, t, _, 0, _, rfl, rfl, SqT.of hR.at_, rfl, rfl, _, rfl, ?_⟩
    rw [kind_all hR.good.k3]
    unfold slackOf at k
    by_cases e : κ = 0
    · rw [if_pos e] at k
      exact iteTe (decide_eq_true e) k
    · rw [if_neg e, List.length_map] at k
      refine iteFe (decide_eq_false e) ⟨_, rfl, t, _, 2, _, rfl, rfl, SqT.of hR.at_, rfl, pl, _, rfl, .inl (SqL.of hR.cs.lst), _, rfl, t, _, 3, _, rfl, rfl, SqT.of hR.at_, rfl, _, _, rfl, rfl, ?_⟩
      rw [show (refC ks).length = ks.length from List.length_map _]
      exact k
theorem scLetter : FnScope ["_law_text"] ["_law_text"] (defScope lIsLetter) := ⟨rfl, rfl, rfl, by decide +kernel, rfl, by decide +kernel, by decide +kernel⟩
theorem ok_letter {f : Addr} {fd : FuncData} (F : Fun K "_law_is_letter" "_law_is_letter" lIsLetter f fd) (L : LTxt K mg) : FnOk P w K mg base CX0 1 f fd ["_law_text"] spStone := by
  refine F.ok scLetter (fun vs H Q E h => ?_) (fun cdv A outer s H vs Q E hr h => ?_)
  · obtain ⟨z, rfl, _⟩ := h
    rfl
  · obtain ⟨z, rfl, few, k⟩ := h
    refine ⟨_, (pss_one (ps_ret (pe_and (pe_cmpR op_eq (pe_callB call_len_str (by rfl) L.len PySem.boot_len (pa_cons (pv 0) pa_nil)) pe_int (nomark _)) (pe_one (pe_cmpR op_in_sign (pv 0) pe_str (by rfl)))))), ?_⟩
    refine ⟨_, rfl, _, rfl, by rw [len_S]; exact small_line few, rfl, _, rfl, ite2 (fun e => ?_) (fun e => ?_)⟩
    · have e1 : z.length = 1 := by
        have := of_decide_eq_true e
        simp only [V.int.injEq] at this
        rw [len_S] at this
        omega
      obtain ⟨c, rfl⟩ := len_one e1
      refine ⟨_, rfl, c, _, rfl, rfl, ?_⟩
      have y : decide (c ∈ alphaS.cps.toList) = stoneB [c] := decide_eq_decide.mpr (alpha_mem c)
      rw [y]
      exact k
    · have e1 : z.length ≠ 1 := fun y => e (decide_eq_true (by rw [len_S, y]; rfl))
      rw [stoneB_ne e1] at k
      exact k
end
end Pm
namespace Pm
open PySem PySem.Spec PyProof.Rows L2 SX NdefX
theorem lex_eq {p q : Int × Int} (h1 : SrtO.lexB p q = false) (h2 : SrtO.lexB q p = false) : p = q := by
  have a := SrtO.lexB_no.mp h1
  have b := SrtO.lexB_no.mp h2
  exact Prod.ext (by omega) (by omega)
theorem ord_uniq : ∀ {M N : List Cnd}, M.Perm N → (N.map (·.1)).Nodup → Ord M → Ord N → M = N
  | [], N, p, _, _, _ => List.Perm.nil_eq p
  | a :: M, [], p, _, _, _ => absurd p.length_eq (by simp)
  | a :: M, b :: N, p, nd, h1, h2 => by
    have ha := List.pairwise_cons.mp h1
    have hb := List.pairwise_cons.mp h2
    have ab : a = b := by
      have m1 : a ∈ b :: N := p.mem_iff.mp List.mem_cons_self
      have m2 : b ∈ a :: M := p.mem_iff.mpr List.mem_cons_self
      rcases List.mem_cons.mp m1 with e | e
      · exact e
      · rcases List.mem_cons.mp m2 with e2 | e2
        · exact e2.symm
        · have k := lex_eq (hb.1 a e) (ha.1 b e2)
          have k2 : a.1 = b.1 := Prod.ext (congrArg Prod.snd k) (congrArg Prod.fst k)
          exact absurd (by show b.1 ∈ _; rw [← k2]; exact List.mem_map.mpr ⟨a, e, rfl⟩) (List.nodup_cons.mp nd).1
    subst ab
    rw [ord_uniq p.cons_inv (List.nodup_cons.mp nd).2 ha.2 hb.2]
theorem ord_map {M : List Cnd} (f : Cnd → Cnd) (hf : ∀ c, (f c).1 = c.1) (h : Ord M) : Ord (M.map f) := List.pairwise_map.mpr (h.imp fun e => by rw [hf, hf]; exact e)
section
variable {P : Program} {w : World} {K : PySem.W.Frag} {mg : Str → Option Value} {base : Heap} {C CI CW D : Addr} {κ : Nat}
def spSortedP : Sp := fun vs H Q _ => ∃ t pl κ hue ks need, vs = [.ref t] ∧ RuleT H t pl κ hue ks need ∧ ∀ p ms H', Same H H' → H p = none → CndsAt H' p ms → (ms.map (·.2)).Perm (ks.map (·.2)) → Ord (ms.map (·.2)) → Q (.ref p) H'
abbrev nSortedP : List Str := ["_law_rule_here", "_law_part", "_law_one"]
theorem scSortedP : FnScope nSortedP ["_law_rule_here"] (defScope lSortedParts) := ⟨rfl, rfl, rfl, by decide +kernel, rfl, by decide +kernel, by decide +kernel⟩
theorem ok_sortedp {f : Addr} {fd : FuncData} (F : Fun K "_law_sorted_parts" "_law_sorted_parts" lSortedParts f fd) (R : STxt K mg) : FnOk P w K mg base CX0 1 f fd ["_law_rule_here"] spSortedP := by
  refine F.ok scSortedP (fun vs H Q E h => ?_) (fun cdv A outer s H vs Q E hr h => ?_)
  · obtain ⟨t, pl, κ, hue, ks, need, rfl, _⟩ := h
    rfl
  · obtain ⟨t, pl, κ, hue, ks, need, rfl, hR, k⟩ := h
    have hc := hR.cs
    have few := hR.good.few
    rw [List.length_map] at few
    refine ⟨_, (pss_one (ps_ret (pe_lc (own := [("_law_part", 1)]) (g := (gName 1)) (tt := tYes) (te := (tTup (tCons (tOp (rIxT K) (tVar 1) (tC (.int 1))) (tCons (tOp (rIxT K) (tVar 1) (tC (.int 0))) (tCons (tOp (rIxT K) (tVar 1) (tC (.int 2))) tNil))))) rfl scSortedP.nd (pi_list (pe_callB cr_sortedTr (by rfl) R.srt (by decide +kernel) (pa_cons (pe_lc (own := [("_law_one", 2)]) (g := (gName 2)) (tt := tYes) (te := (tTup (tCons (tOp (rIxT K) (tVar 2) (tC (.int 1))) (tCons (tOp (rIxT K) (tVar 2) (tC (.int 0))) (tCons (tOp (rIxT K) (tVar 2) (tC (.int 2))) tNil))))) rfl scSortedP.nd (pi_list (pe_ix ix_tup (pv 0) pe_int (fun _ _ => rfl))) (blkOk_by (own := [("_law_one", 2)]) (N := nSortedP) (sc := defScope lSortedParts) (by decide +kernel)) (fun _ _ _ _ _ => (pg_name (i := 2) scSortedP.nd rfl (.inl rfl))) (fun _ _ _ _ _ => pts_nil) (fun _ _ _ _ _ => (pe_tup (pa_cons (by exact pe_ix ix_tup (pv 2) pe_int (fun _ _ => rfl)) (pa_cons (by exact pe_ix ix_tup (pv 2) pe_int (fun _ _ => rfl)) (pa_cons (by exact pe_ix ix_tup (pv 2) pe_int (fun _ _ => rfl)) pa_nil)))))) pa_nil))) (blkOk_by (own := [("_law_part", 1)]) (N := nSortedP) (sc := defScope lSortedParts) (by decide +kernel)) (fun _ _ _ _ _ => (pg_name (i := 1) scSortedP.nd rfl (.inl rfl))) (fun _ _ _ _ _ => pts_nil) (fun _ _ _ _ _ => (pe_tup (pa_cons (by exact pe_ix ix_tup (pv 1) pe_int (fun _ _ => rfl)) (pa_cons (by exact pe_ix ix_tup (pv 1) pe_int (fun _ _ => rfl)) (pa_cons (by exact pe_ix ix_tup (pv 1) pe_int (fun _ _ => rfl)) pa_nil)))))))), ?_⟩
    refine ⟨_, rfl, t, _, 2, _, rfl, rfl, SqT.of hR.at_, rfl, pl, rfl, ⟨_, SqL.of hc.lst⟩, fun D nD => lc_list (K := K) (a := pl) (xs := refC ks) (fun i G => ∃ ts : List Trip, Same H G ∧ G D = some (.lst (ts.map fun p => V.ref p.1)) ∧ (∀ p ∈ ts, G p.1 = some (TripO p)) ∧ ts.map (·.2) = (ks.take i).map fun q => (fl q.2.1, S q.2.2)) ⟨[], same_upd nD, upd_same, (fun p hp => nomatch hp), rfl⟩ (fun i G _ ⟨ts, sm, _⟩ => SqL.of (sm _ _ hc.lst)) ?_ ?_⟩
    · rintro i x G hx ⟨ts, sm, hD, ht, et⟩
      obtain ⟨t1, c, hi, rfl⟩ := refC_at hx
      have htc := sm _ _ (hc.each _ (List.mem_of_getElem? hi))
      have li : i < ks.length := (List.getElem?_eq_some_iff.mp hi).1
      refine ⟨rfl, tyes (iteT ⟨_, rfl, t1, _, 1, _, rfl, rfl, SqT.of htc, rfl, _, rfl, t1, _, 0, _, rfl, rfl, SqT.of htc, rfl, _, rfl, t1, _, 2, _, rfl, rfl, SqT.of htc, rfl, by show 3 ≤ sizeLine; decide, fun T nT => ?_⟩)⟩
      have s3 := same_upd (o := .tup [.int c.1.2, .int c.1.1, .str (S c.2)]) nT
      have nDT : D ≠ T := ne_of_none hD nT
      refine ⟨ts.map fun p => V.ref p.1, s3 _ _ hD, ?_, ts ++ [(T, fl c.1, S c.2)], fun b o e => ?_, ?_, fun p hp => ?_, ?_⟩
      · have := congrArg List.length et
        rw [List.length_map, List.length_map, List.length_take] at this
        rw [List.length_map]
        exact small1000 (by omega)
      · rw [upd_ne (ne_of_none e nD)]
        exact s3 _ _ (sm _ _ e)
      · rw [upd_same, List.map_append]
        rfl
      · rcases List.mem_append.mp hp with z | z
        · have y := s3 _ _ (ht p z)
          rw [upd_ne (fun e => ?_)]
          · exact y
          · rw [e, s3 _ _ hD] at y
            cases y
        · rw [List.mem_singleton.mp z]
          rw [upd_ne nDT.symm, upd_same]
          rfl
      · rw [List.map_append, et, List.take_add_one, hi, List.map_append]
        rfl
    · rintro G ⟨ts, sm, hD, ht, et⟩
      rw [show (refC ks).length = ks.length from List.length_map _, List.take_of_length_le (Nat.le_refl _)] at et
      have ndt : (ts.map fun p => p.2.1).Nodup := by
        have e : ts.map (fun p => p.2.1) = ((ks.map (·.2)).map (·.1)).map fl := by
          have y := congrArg (List.map Prod.fst) et
          rw [List.map_map, List.map_map] at y
          rw [List.map_map, List.map_map]
          exact y
        rw [e]
        exact List.pairwise_map.mpr (hR.good.nd.imp fun ne e => ne (Prod.ext (congrArg Prod.snd e) (congrArg Prod.fst e)))
      refine ⟨D, ts, rfl, SqL.of hD, ht, ndt, fun M d pm pw nd2 => ?_⟩
      have sM := same_upd (o := .lst (M.map fun p => V.ref p.1)) nd2
      have hM : ∀ p ∈ M, upd G d (.lst (M.map fun p => V.ref p.1)) p.1 = some (TripO p) := fun p hp => sM _ _ (ht p (pm.mem_iff.mp hp))
      have hd : upd G d (.lst (M.map fun p => V.ref p.1)) d = some (.lst (M.map fun p => V.ref p.1)) := upd_same
      generalize upd G d (.lst (M.map fun p => V.ref p.1)) = G1 at sM hM hd
      have s01 := sm.trans sM
      refine ⟨d, rfl, ⟨_, SqL.of hd⟩, fun D2 nD2 => lc_list (K := K) (a := d) (xs := M.map fun p => V.ref p.1) (fun i G => ∃ ms : List (Addr × Cnd), Same G1 G ∧ G D2 = some (.lst (refC ms)) ∧ (∀ q ∈ ms, G q.1 = some (CondO q.2)) ∧ ms.map (·.2) = (M.take i).map fun p => (fl p.2.1, unS p.2.2)) ⟨[], same_upd nD2, upd_same, (fun p hp => nomatch hp), rfl⟩ (fun i G _ ⟨ms, sm, _⟩ => SqL.of (sm _ _ hd)) ?_ ?_⟩
      · rintro i x G2 hx ⟨ms, sm2, hD2, hms, em⟩
        rw [List.getElem?_map] at hx
        obtain ⟨p, hi, rfl⟩ : ∃ p, M[i]? = some p ∧ x = V.ref p.1 := by
          cases e : M[i]? with
          | none =>
            rw [e] at hx
            cases hx
          | some p =>
            rw [e] at hx
            cases hx
            exact ⟨p, rfl, rfl⟩
        have htc := sm2 _ _ (hM p (List.mem_of_getElem? hi))
        have li : i < M.length := (List.getElem?_eq_some_iff.mp hi).1
        have lM : M.length = ks.length := by
          rw [pm.length_eq]
          have := congrArg List.length et
          rwa [List.length_map, List.length_map] at this
        refine ⟨rfl, tyes (iteT ⟨_, rfl, p.1, _, 1, _, rfl, rfl, SqT.of htc, rfl, _, rfl, p.1, _, 0, _, rfl, rfl, SqT.of htc, rfl, _, rfl, p.1, _, 2, _, rfl, rfl, SqT.of htc, rfl, by show 3 ≤ sizeLine; decide, fun T nT => ?_⟩)⟩
        have s3 := same_upd (o := .tup [.int p.2.1.2, .int p.2.1.1, .str p.2.2]) nT
        have nDT : D2 ≠ T := ne_of_none hD2 nT
        refine ⟨refC ms, s3 _ _ hD2, ?_, ms ++ [(T, fl p.2.1, unS p.2.2)], fun b o e => ?_, ?_, fun q hq => ?_, ?_⟩
        · have e1 := congrArg List.length em
          rw [List.length_map, List.length_map, List.length_take] at e1
          rw [show (refC ms).length = ms.length from List.length_map _]
          exact small1000 (by omega)
        · rw [upd_ne (ne_of_none e nD2)]
          exact s3 _ _ (sm2 _ _ e)
        · rw [upd_same]
          unfold refC
          rw [List.map_append]
          rfl
        · rcases List.mem_append.mp hq with z | z
          · have y := s3 _ _ (hms q z)
            rw [upd_ne (fun e => ?_)]
            · exact y
            · rw [e, s3 _ _ hD2] at y
              cases y
          · rw [List.mem_singleton.mp z]
            rw [upd_ne nDT.symm, upd_same]
            show _ = some (HO.tup [.int (fl p.2.1).1, .int (fl p.2.1).2, .str (S (unS p.2.2))])
            rw [S_unS]
            rfl
        · rw [List.map_append, em, List.take_add_one, hi, List.map_append]
          rfl
      · rintro G2 ⟨ms, sm2, hD2, hms, em⟩
        rw [List.length_map, List.take_of_length_le (Nat.le_refl _)] at em
        have sAll := s01.trans sm2
        refine k D2 ms G2 sAll (back s01 nD2) ⟨hD2, hms⟩ ?_ ?_
        · rw [em]
          have y := pm.map fun p : Trip => ((fl p.2.1, unS p.2.2) : Cnd)
          have e : (ts.map fun p : Trip => ((fl p.2.1, unS p.2.2) : Cnd)) = ks.map (·.2) := by
            have z := congrArg (List.map fun x : (Int × Int) × Str => ((fl x.1, unS x.2) : Cnd)) et
            rw [List.map_map, List.map_map] at z
            refine z.trans (List.map_congr_left fun q _ => ?_)
            show ((fl (fl q.2.1), unS (S q.2.2)) : Cnd) = q.2
            rw [unS_S]
            rfl
          rw [e] at y
          exact y
        · unfold Ord
          rw [em]
          exact List.pairwise_map.mpr (pw.imp fun {p q} e => e)
/-- what sep.join(texts) asks -/
def rJoinC (K : PySem.W.Frag) : V → List V → Hp → VK → Prop := fun x xs H Q => ∃ a p, ∃ ys : List Str, x = .str a ∧ xs = [.ref p] ∧ (SqL K H p (ys.map V.str) ∨ SqT K H p (ys.map V.str)) ∧ (ys.map (·.length)).sum + ys.length * a.length ≤ 16777216 ∧ Q (.str (Txt.join a ys)) H
/-- what is due for a stone -/
def dueOf (κ : Nat) (z : List Nat) (ms : List Cnd) : List Cnd := ms.map fun c => (c.1, if κ = 2 then z else asc c.2)
def spDue : Sp := fun vs H Q _ => ∃ t pl κ hue ks need z, vs = [.ref t, .str (S z)] ∧ RuleT H t pl κ hue ks need ∧ ∀ p ms ns H', Same H H' → H p = none → CndsAt H' p ns → ns.map (·.2) = dueOf κ z ms → ms.Perm (ks.map (·.2)) → Ord ms → Q (.ref p) H'
abbrev nDue : List Str := ["_law_rule_here", "_law_hue", "_law_part"]
theorem scDue : FnScope nDue ["_law_rule_here", "_law_hue"] (defScope lDueParts) := ⟨rfl, rfl, rfl, by decide +kernel, rfl, by decide +kernel, by decide +kernel⟩
theorem ok_due {f g : Addr} {fd gd : FuncData} (F : Fun K "_law_due_parts" "_law_due_parts" lDueParts f fd) (G : Cl P w K mg base CX0 1 "_law_sorted_parts" ["_law_rule_here"] spSortedP g gd) (R : STxt K mg) : FnOk P w K mg base CX0 2 f fd ["_law_rule_here", "_law_hue"] spDue := by
  refine F.ok scDue (fun vs H Q E h => ?_) (fun cdv A outer s H vs Q E hr h => ?_)
  · obtain ⟨t, pl, κ, hue, ks, need, z, rfl, _⟩ := h
    rfl
  · obtain ⟨t, pl, κ, hue, ks, need, z, rfl, hR, k⟩ := h
    refine ⟨_, (pss_cons (ps_if (pt_cmpR op_eq (pe_ix ix_tup (pv 0) pe_int (fun _ _ => rfl)) pe_str (nomark _)) (pss_one (ps_ret (pe_lc (own := [("_law_part", 2)]) (g := (gName 2)) (tt := tYes) (te := (tTup (tCons (tOp (rIxT K) (tVar 2) (tC (.int 0))) (tCons (tOp (rIxT K) (tVar 2) (tC (.int 1))) (tCons (tVar 1) tNil))))) rfl scDue.nd (pi_list (pe_call G.ok hr (by rfl) G.gl G.kp G.bd .nil pass0 (pa_cons (pv 0) pa_nil))) (blkOk_by (own := [("_law_part", 2)]) (N := nDue) (sc := defScope lDueParts) (by decide +kernel)) (fun _ _ _ _ _ => (pg_name (i := 2) scDue.nd rfl (.inl rfl))) (fun _ _ _ _ _ => pts_nil) (fun _ _ _ _ _ => (pe_tup (pa_cons (by exact pe_ix ix_tup (pv 2) pe_int (fun _ _ => rfl)) (pa_cons (by exact pe_ix ix_tup (pv 2) pe_int (fun _ _ => rfl)) (pa_cons (pv 1) pa_nil)))))))) pss_nil)
      (pss_one (ps_ret (pe_lc (own := [("_law_part", 2)]) (g := (gName 2)) (tt := tYes) (te := (tTup (tCons (tOp (rIxT K) (tVar 2) (tC (.int 0))) (tCons (tOp (rIxT K) (tVar 2) (tC (.int 1))) (tCons (tM1 (rJoinC K) (tC (.str "")) (tCB rSortedTx (tCons (tOp (rIxT K) (tVar 2) (tC (.int 2))) tNil))) tNil))))) rfl scDue.nd (pi_list (pe_call G.ok hr (by rfl) G.gl G.kp G.bd .nil pass0 (pa_cons (pv 0) pa_nil))) (blkOk_by (own := [("_law_part", 2)]) (N := nDue) (sc := defScope lDueParts) (by decide +kernel)) (fun _ _ _ _ _ => (pg_name (i := 2) scDue.nd rfl (.inl rfl))) (fun _ _ _ _ _ => pts_nil) (fun _ _ _ _ _ => (pe_tup (pa_cons (by exact pe_ix ix_tup (pv 2) pe_int (fun _ _ => rfl)) (pa_cons (by exact pe_ix ix_tup (pv 2) pe_int (fun _ _ => rfl)) (pa_cons (by exact pe_join pe_str (by exact pe_callB (cr_sortedTx rfl) (by rfl) R.srt (by decide +kernel) (by exact pa_cons (by exact pe_ix ix_tup (pv 2) pe_int (fun _ _ => rfl)) pa_nil))) pa_nil))))))))), ?_⟩
    refine ⟨_, rfl, t, _, 0, _, rfl, rfl, SqT.of hR.at_, rfl, rfl, _, rfl, ?_⟩
    rw [kind_same hR.good.k3]
    have few := hR.good.few
    -- one more in the new list
    have more : ∀ {ms : List (Addr × Cnd)} {G G2 G3 : Hp} {D T : Addr} {c d : Cnd} {i : Nat} {ns : List (Addr × Cnd)} {g : Cnd → Cnd} {H0 : Hp} {tt : Addr}, ms.length ≤ 1000 → H0 D = none → Same H0 G → G D = some (.lst (refC ns)) → (∀ q ∈ ns, G q.1 = some (CondO q.2)) → ns.map (·.2) = (ms.take i).map (fun q => g q.2) → ms[i]? = some (tt, c) → g c = d → Same G G3 → G3 T = none →
        (refC ns).length < sizeLine ∧ ∃ ns' : List (Addr × Cnd), Same H0 (upd (upd G3 T (CondO d)) D (.lst (refC ns ++ [.ref T]))) ∧ upd (upd G3 T (CondO d)) D (.lst (refC ns ++ [.ref T])) D = some (.lst (refC ns')) ∧ (∀ q ∈ ns', upd (upd G3 T (CondO d)) D (.lst (refC ns ++ [.ref T])) q.1 = some (CondO q.2)) ∧ ns'.map (·.2) = (ms.take (i + 1)).map fun q => g q.2 := by
      intro ms G G2 G3 D T c d i ns g H0 tt lm nD sm hD hns en hi gd s3 nT
      have s4 := s3.trans (same_upd (o := CondO d) nT)
      have nDT : D ≠ T := ne_of_none (s3 _ _ hD) nT
      have li : i < ms.length := (List.getElem?_eq_some_iff.mp hi).1
      refine ⟨?_, ns ++ [(T, d)], fun b o e => ?_, ?_, fun q hq => ?_, ?_⟩
      · have e1 := congrArg List.length en
        rw [List.length_map, List.length_map, List.length_take] at e1
        rw [show (refC ns).length = ns.length from List.length_map _]
        exact small1000 (by omega)
      · rw [upd_ne (ne_of_none e nD)]
        exact s4 _ _ (sm _ _ e)
      · rw [upd_same]
        unfold refC
        rw [List.map_append]
        rfl
      · rcases List.mem_append.mp hq with z | z
        · have y := s4 _ _ (hns q z)
          rw [upd_ne (fun e => ?_)]
          · exact y
          · rw [e, s4 _ _ hD] at y
            cases y
        · rw [List.mem_singleton.mp z]
          rw [upd_ne nDT.symm, upd_same]
      · rw [List.map_append, en, List.take_add_one, hi, List.map_append]
        show _ ++ [d] = _ ++ [g c]
        rw [gd]
    by_cases e : κ = 2
    · refine iteTe (decide_eq_true e) ?_
      refine ⟨_, rfl, t, pl, κ, hue, ks, need, rfl, hR, fun p ms H1 s1 np hm pm od => ?_⟩
      have lm : ms.length ≤ 1000 := by
        have := pm.length_eq
        rw [List.length_map] at this
        omega
      refine ⟨p, rfl, ⟨_, SqL.of hm.lst⟩, fun D nD => lc_list (K := K) (a := p) (xs := refC ms) (fun i G => ∃ ns : List (Addr × Cnd), Same H1 G ∧ G D = some (.lst (refC ns)) ∧ (∀ q ∈ ns, G q.1 = some (CondO q.2)) ∧ ns.map (·.2) = (ms.take i).map fun q => ((q.2.1, z) : Cnd)) ⟨[], same_upd nD, upd_same, (fun p hp => nomatch hp), rfl⟩ (fun i G _ ⟨ms, sm, _⟩ => SqL.of (sm _ _ hm.lst)) ?_ ?_⟩
      · rintro i x G hx ⟨ns, sm, hD, hns, en⟩
        obtain ⟨t1, c, hi, rfl⟩ := refC_at hx
        have htc := sm _ _ (hm.each _ (List.mem_of_getElem? hi))
        refine ⟨rfl, tyes (iteT ⟨_, rfl, t1, _, 0, _, rfl, rfl, SqT.of htc, rfl, _, rfl, t1, _, 1, _, rfl, rfl, SqT.of htc, rfl, _, rfl, by show 3 ≤ sizeLine; decide, fun T nT => ?_⟩)⟩
        obtain ⟨a1, ns', a2, a3, a4, a5⟩ := more (G2 := G) (g := fun c => (c.1, z)) lm nD sm hD hns en hi rfl (Same.refl G) nT
        exact ⟨refC ns, same_upd nT _ _ hD, a1, ns', a2, a3, a4, a5⟩
      · rintro G ⟨ns, sm, hD, hns, en⟩
        rw [show (refC ms).length = ms.length from List.length_map _, List.take_of_length_le (Nat.le_refl _)] at en
        refine k D (ms.map (·.2)) ns G (s1.trans sm) (back s1 nD) ⟨hD, hns⟩ ?_ pm od
        rw [en]
        unfold dueOf
        rw [List.map_map]
        exact List.map_congr_left fun q _ => by
          show ((q.2.1, z) : Cnd) = (q.2.1, if κ = 2 then z else asc q.2.2)
          rw [if_pos e]
    · refine iteFe (decide_eq_false e) ?_
      refine ⟨_, rfl, t, pl, κ, hue, ks, need, rfl, hR, fun p ms H1 s1 np hm pm od => ?_⟩
      have lm : ms.length ≤ 1000 := by
        have := pm.length_eq
        rw [List.length_map] at this
        omega
      refine ⟨p, rfl, ⟨_, SqL.of hm.lst⟩, fun D nD => lc_list (K := K) (a := p) (xs := refC ms) (fun i G => ∃ ns : List (Addr × Cnd), Same H1 G ∧ G D = some (.lst (refC ns)) ∧ (∀ q ∈ ns, G q.1 = some (CondO q.2)) ∧ ns.map (·.2) = (ms.take i).map fun q => ascC q.2) ⟨[], same_upd nD, upd_same, (fun p hp => nomatch hp), rfl⟩ (fun i G _ ⟨ms, sm, _⟩ => SqL.of (sm _ _ hm.lst)) ?_ ?_⟩
      · rintro i x G hx ⟨ns, sm, hD, hns, en⟩
        obtain ⟨t1, c, hi, rfl⟩ := refC_at hx
        have mq := List.mem_of_getElem? hi
        have htc := sm _ _ (hm.each _ mq)
        have fc : c.2.length ≤ 1000 := by
          have m2 : c ∈ ks.map (·.2) := pm.mem_iff.mp (List.mem_map.mpr ⟨_, mq, rfl⟩)
          have := ((hR.good.each c m2).2).few
          omega
        refine ⟨rfl, tyes (iteT ⟨_, rfl, t1, _, 0, _, rfl, rfl, SqT.of htc, rfl, _, rfl, t1, _, 1, _, rfl, rfl, SqT.of htc, rfl, ⟨_, rfl⟩, _, rfl, t1, _, 2, _, rfl, rfl, SqT.of htc, rfl, c.2, rfl, fc, fun ys q pm2 pw2 nq => ⟨_, q, ones ys, rfl, rfl, .inl (SqL.of upd_same), ?_, ?_⟩⟩)⟩
        · have e : ((ones ys).map (·.length)).sum = ys.length := by
            unfold ones
            rw [List.map_map]
            have : ((fun x : Str => x.length) ∘ fun c => S [c]) = fun _ => 1 := by
              funext c
              exact S_len [c]
            rw [this]
            exact sum_one ys
          rw [e]
          have := pm2.length_eq
          show ys.length + (ones ys).length * 0 ≤ 16777216
          omega
        · rw [join_ones, asc_of pm2 pw2]
          refine ⟨by show 3 ≤ sizeLine; decide, fun T nT => ?_⟩
          have s2 := same_upd (o := .lst ((ones (asc c.2)).map V.str)) nq
          obtain ⟨a1, ns', a2, a3, a4, a5⟩ := more (G2 := G) (g := ascC) lm nD sm hD hns en hi rfl s2 nT
          exact ⟨refC ns, same_upd nT _ _ (s2 _ _ hD), a1, ns', a2, a3, a4, a5⟩
      · rintro G ⟨ns, sm, hD, hns, en⟩
        rw [show (refC ms).length = ms.length from List.length_map _, List.take_of_length_le (Nat.le_refl _)] at en
        refine k D (ms.map (·.2)) ns G (s1.trans sm) (back s1 nD) ⟨hD, hns⟩ ?_ pm od
        rw [en]
        unfold dueOf
        rw [List.map_map]
        exact List.map_congr_left fun q _ => by
          show ascC q.2 = (q.2.1, if κ = 2 then z else asc q.2.2)
          rw [if_neg e]
          rfl
end
end Pm
namespace Pm
open PySem PySem.Spec PyProof.Rows L2 SX
/-! ### a def that is called where an error is handled, whatever error it is -/
structure FnW (P : Program) (w : World) (K : PySem.W.Frag) (mg : Str → Option Value) (base : Heap) (CXf : CXT) (k : Nat) (f : Addr) (fd : FuncData) (ps : List Str) (sp : Sp) : Prop where
  len : ∀ vs H Q E, sp vs H Q E → vs.length = ps.length
  run : ∀ (A : Around) (outer : List Env) (s : Shared) (H : Hp) (args : Args) (us : List Value) (vs : List V) (Q : VK) (E : XK) (p : Addr × Obj), L2H.RoomH k A → L2H.PinOk outer H s p → Env0 P w K mg base A outer s H →
    BindsTo s fd args (ps.zip us) → Vals vs us → sp vs H Q E → codeAny (model P w) A (.call (.ref f) args) (CR CXf outer P w H s Q E) s
theorem fnW_of {CXf : CXT} {P : Program} {w : World} {K : PySem.W.Frag} {mg : Str → Option Value} {base : Heap} {k : Nat} {x qual : Str} {st : Stmt} {f : Addr} {fd : FuncData} {N ps : List Str} {sp : Sp} (F : Fun K x qual st f fd) (S : FnScope N ps (defScope st))
    (len : ∀ vs H Q E, sp vs H Q E → vs.length = ps.length)
    (body : ∀ (cdv : Value) (A : Around) (outer : List Env) (s : Shared) (H : Hp) (vs : List V) (Q : VK) (E : XK) (p : Addr × Obj), L2H.RoomH k (A.deeper (envOfC qual (defScope st) s.heap.objs.size f cdv)) → sp vs H Q E →
      ∃ t, PSs (L2H.cxH CXf P w K mg base N qual (defScope st) f cdv A outer s H E p) (defBody st) t ∧ t { nx := fun _ G => Q .non G, rt := Q } (L2.start N vs) H) : FnW P w K mg base CXf (k + 1) f fd ps sp := by
  obtain ⟨oc, od, kV, doc, pm, an, cdv, ct, osl, rfl, lk, hcd⟩ := F.ex
  constructor
  case len => exact len
  case run =>
    intro A outer s H args us vs Q E p room pin env0 bind rv asked
    have few := len _ _ _ _ asked
    have kin : K.In s.heap := env0.mod.kin.keeps fun b o e => (env0.bs b o e).1
    have unlimited : s.heap.NoLimit := env0.mod.nolimit.keeps fun b o e => (env0.bs b o e).1
    have kinds : ∀ y ∈ ps.zip us, (defScope st).names.lookup y.1 = some .local ∨ ((defScope st).names.lookup y.1 = some .cell ∧ ((cellsFrom (s.heap.objs.size + 1) (defScope st).names []).lookup y.1).isSome = true) := by
      rintro ⟨n, v⟩ hy
      rcases S.par n (List.of_mem_zip hy).1 with q | q
      · exact Or.inl q
      · exact Or.inr ⟨q, PySem.W.cellsFrom_some _ _ _ (.inl q)⟩
    refine codeAny_call_function room.depth (kin _ _ lk) rfl S.co S.gen rfl (PySem.W.codeRec_of kin hcd) (bind _ _ _ _ (wpAny_newFunctionEnv_cells S.kind kinds fun env he s1 call => ?_))
    subst he
    refine ⟨unlimited.keeps call.toInCall.keep, codeAny_func ?_⟩
    obtain ⟨t, ht, read⟩ := body cdv A outer s H vs Q E p (room.deeper _) asked
    have I := L2H.inv_startH (CX := CXf) (E := E) S pin env0 few rv call
    refine wpAny_mono (ht.run [] s1 (L2.start N vs) H _ I read) (fun fl s2 z => ?_) fun _ _ z => z
    cases fl with
    | ret u =>
      obtain ⟨v, _, G, J, ru, q⟩ := z
      exact ⟨v, G, J.os, J.bare, J.base, J.hok, ru, q⟩
    | next =>
      obtain ⟨_, G, J, q⟩ := z
      exact ⟨V.non, G, J.os, J.bare, J.base, J.hok, rfl, q⟩
    | brk =>
      obtain ⟨_, _, _, q⟩ := z
      exact q.elim
    | cont =>
      obtain ⟨_, _, _, q⟩ := z
      exact q.elim
section
variable {X : Cx} {CXf : CXT} {k : Nat} {f : Addr} {fd : FuncData} {ps : List Str} {sp : Sp} {x : Str} {q pos : Pos} {e : Expr} {es : List Expr} {t : TA}
/-- f(e, ..) where something is pinned; nothing that is raised leaves f -/
theorem pe_callW {p : Addr × Obj} (F : FnW X.prog X.w X.K X.mg X.base CX0 k f fd ps sp) (hr : L2H.RoomH k X.A) (hp : p ∈ X.pn) (hg : Gl X x) (hm : X.mg x = some (.ref f)) (hk : PySem.W.keepIn X.K (.ref f) = true) (hb : Binds X.K fd ps []) (ha : PA X (e :: es) t)
    (dbg : (x == ("__debug__" : Str)) = false := by decide) (st : starEach (e :: es) X.env = (false, eval e X.env) :: starEach es X.env := by rfl) (pl : (backTo pos (starEach es X.env)).any (·.1) = false := by rfl) :
    PE X (.Call (.Name x q) (e :: es) [] pos) (tCall sp [] E0 t) := by
  refine ⟨fun pins s σ H Q I h => wpAny_Call_Name_kw (ld_glob I hg hm ?_ dbg)⟩
  refine PySem.W.callWith_K (h₀ := X.base) I.ok.mod.kin hk (thn (ha.run pos pins s σ H _ I h) fun us s1 ⟨vs, H1, I1, rv, asked⟩ => ⟨I1.kIn, ?_⟩) st pl
  have asked : sp (vs ++ []) H1 Q E0 := asked
  rw [List.append_nil] at asked
  show wpAny _ _ (call (.ref f) us) _ _ _
  have len : us.length = ps.length := rv.length.symm.trans (F.len _ _ _ _ asked)
  have bind := hb s1 us I1.kIn (by rw [List.append_nil]; exact len)
  rw [List.append_nil] at bind
  obtain ⟨p1, p2, p3, p4, p5⟩ := I1.pin p (List.mem_append_left _ hp)
  have pin : L2H.PinOk X.stack H1 s1 p := ⟨p1, p2, fun hm => (List.mem_cons.mp (I1.stkSub p.1 hm)).elim p3 p4, p5⟩
  refine wpAny_call (codeAny_mono (F.run X.A X.stack s1 H1 ⟨us, []⟩ us vs Q E0 p hr pin I1.env0 bind rv asked) fun r s2 z => ?_)
  cases r with
  | error er => exact z.elim
  | ok fl =>
    cases fl with
    | ret u => exact I1.after z
    | next => exact z.elim
    | brk => exact z.elim
    | cont => exact z.elim
end
end Pm
namespace Pm
open PySem PySem.Spec PyProof.Rows L2 SX
/-! ### try with several clauses «except C as e», all with the same name -/
abbrev Suites := List (Value × (Addr → Value → Option Addr → TS))
/-- what the clauses wish, one after the other; the error goes into slot i, which is empty behind the suite -/
def wClauses (K : PySem.W.Frag) (i : Nat) (Wout : WX) (D : Ends) : Suites → WX
  | [] => Wout
  | (c, ts) :: r => fun cls d σ H => ∃ b, PySem.W.exmOne K cls c = some b ∧
      (b = true → ∀ a, H a = none → ts a cls d ⟨fun σ2 H2 => D.nx (σ2.set i none) H2, D.rt, fun σ2 H2 => D.bk (σ2.set i none) H2, fun σ2 H2 => D.ct (σ2.set i none) H2⟩ (σ.set i (some (.ref a))) H) ∧ (b = false → wClauses K i Wout D r cls d σ H)
inductive Clauses (X : Cx) (n : Str) : List ExceptHandler → Suites → Prop
  | nil : Clauses X n [] []
  | cons {x : Str} {c : Value} {ts : Addr → Value → Option Addr → TS} {s0 : Stmt} {ss : List Stmt} {p1 p2 : Pos} {hds : List ExceptHandler} {l : Suites} (named : Names X x c)
      (suite : ∀ (a : Addr) (oe : Obj) (cls : Value) (d : Option Addr) (pn : List (Addr × Obj)), Zc cls d oe → (∃ vs, oe.data = .fields vs) → PSs (X.suite a ((a, oe) :: pn)) (s0 :: ss) (ts a cls d)) (rest : Clauses X n hds l) :
      Clauses X n (.ExceptHandler (some (.Name x p1)) (some n) (s0 :: ss) p2 :: hds) ((c, ts) :: l)
section
variable {X : Cx} {n : Str} {i : Nat} {body : List Stmt} {h0 : ExceptHandler} {hds : List ExceptHandler} {l : Suites} {pos : Pos} {tb : WX → TS} {Wout : WX}
theorem ps_try_clauses (stk : X.stack = X.env :: X.outer) (fr : X.env.frame = some X.env.locals) (nd : X.N.Nodup) (slot : X.N[i]? = some n) (loc : X.env.kindOf n = some .local) (out : Takes X Wout)
    (hbody : ∀ (W : WX) (pn : List (Addr × Obj)) (xe : Value → Shared → Prop), Takes (X.tr pn xe) W → PassesOwn (model X.prog X.w) X.A X.env xe → PSs (X.tr pn xe) body (tb W)) (hcl : Clauses X n (h0 :: hds) l) :
    PS X (.Try body (h0 :: hds) [] [] pos) (fun D σ H => tb (wClauses X.K i Wout D l) D σ H) := by
  constructor
  intro pins s σ H D I asked
  have good := I.ok
  have frames : X.A.frames = some (X.env :: X.outer) := by rw [good.frames, stk]
  have lc : Loc X.env.scope n := Or.inl loc
  refine wpAny_Try_except ?_
  refine wpAny_mono ((hbody (wClauses X.K i Wout D l) (X.pn ++ pins) (fun e s1 => wpAny (model X.prog X.w) X.A (noteFrame e X.env) (fun _ s2 => wpAny (model X.prog X.w) X.A (setFlight e none)
    (fun _ s3 => wpAny (model X.prog X.w) X.A (handleBy e X.env (h0 :: hds)) (SP X pins D) X.xe s3) X.xe s2) X.xe s1) (fun u s1 raised => ?_) PassesOwn.looking).run [] s σ H D (I.toTry _) asked) (fun fl s1 z => ?_) (fun _ _ z => z)
  case _ =>
    obtain ⟨a, B, sI, pins1, σ1, H1, cls, d, rfl, J0, nb, up, sky, na, os, bare, wish⟩ := raised
    have J : L2.Inv X pins σ1 H1 sI := J0.ofTry good
    show wpAny (model X.prog X.w) X.A (noteFrame (.ref a) X.env) _ _ _
    refine Sky.land Zc.steady frames fr (by rw [← stk]; exact sky) fun g fly up2 => ?_
    have J1 : L2.Inv X pins σ1 H1 { s1 with heap := g } := J.landed nb fly.1 (up.trans up2) os bare
    obtain ⟨o1, v1, at1, z1, d1⟩ := fly.there
    have outside : a ∉ frs (X.env :: X.outer) := fun m => by
      obtain ⟨_, o, eo, nf⟩ := fly.2.2.1.mem m
      rw [at1] at eo
      cases eo
      exact nf _ d1
    have notL : a ≠ X.env.locals := fun z => outside (List.mem_filterMap.mpr ⟨X.env, List.mem_cons_self, by rw [fr, z]⟩)
    have notF : a ∉ X.fs := fun m => by
      obtain ⟨e, me, y⟩ := List.mem_filterMap.mp m
      exact outside (List.mem_filterMap.mpr ⟨e, List.mem_cons_of_mem _ me, y⟩)
    have inSuite := J1.suite at1 d1 na notL notF
    have types : PySem.W.Looks (model X.prog X.w) g (typeOf (.ref a)) cls := fun A Q E s k q => wpAny_typeOf_ref (k _ _ at1) (by rw [z1.1]; exact q)
    clear asked hbody
    -- the clauses in turn
    have turn : ∀ (hd2 : List ExceptHandler) (l2 : Suites), Clauses X n hd2 l2 → wClauses X.K i Wout D l2 cls d σ1 H1 → wpAny (model X.prog X.w) X.A (handleBy (.ref a) X.env hd2) (SP X pins D) X.xe { s1 with heap := g } := by
      intro hd2 l2 cl
      induction cl with
      | nil =>
        intro wish
        refine wpAny_handleBy_nil ?_
        obtain ⟨_, _, _, oe, vs, T, oT, ts2, e1, e2, e3, e4, e5⟩ := id fly
        unfold PySem.passOn
        refine wpAny_bind (wpAny_field e1 e3 e4 ?_)
        rw [if_neg (show ¬ ((Value.ref T == Value.none) = true) from by simp)]
        have leave : wpAny (model X.prog X.w) X.A (setFlight (.ref a) X.env.frame) (fun _ s2 => wpAny (model X.prog X.w) X.A (throw (.ref a) : Sem Flow) (SP X pins D) X.xe s2) X.xe { s1 with heap := g } := by
          rw [fr]
          refine HandSPX.setFlight_upZ fly fun g2 held up3 => wpAny_throw (out _ _ ⟨a, B, sI, pins, σ1, H1, cls, d, rfl, J, nb, (up.trans up2).trans up3, .inr (.inr (by rw [stk]; exact held)), na, os, bare, wish⟩)
        first
          | exact wpAny_bind (wpAny_pure (wpAny_bind leave))
          | exact wpAny_bind leave
      | @cons x c ts s0 ss p1 p2 hd3 l3 named suite rest ih =>
        rintro ⟨b, eb, yes, no⟩
        have meets := PySem.W.exm_one (M := model X.prog X.w) J1.kIn types eb
        refine wpAny_handleBy_cons (codeAny_handlers_test ?_) (fun z => nomatch z)
        have name : ∀ {Q : Value → Shared → Prop} {E : Value → Shared → Prop}, Q c { s1 with heap := g } → wpAny (model X.prog X.w) (X.A.mark (some (.ref a))) (eval (.Name x p1) X.env) Q E { s1 with heap := g } := by
          intro Q E q
          obtain ⟨hg, dbg, hm⟩ := named
          rcases hm with hm | ⟨hm, hv, hn⟩
          · exact ld_glob (X := X.suite a ((a, o1) :: (X.pn ++ pins))) inSuite hg hm q dbg
          · exact ld_blt (X := X.suite a ((a, o1) :: (X.pn ++ pins))) inSuite hg hm hv q hn dbg
        refine name (meets.here ?_)
        cases b with
        | false => exact ih (no rfl)
        | true =>
          refine codeAny_handlers_suite_as (HandSPX.lands_againZ fly fun g2 fly2 up3 => ?_)
          have J2 : L2.Inv X pins σ1 H1 { s1 with heap := g2 } := J.landed nb fly2.1 ((up.trans up2).trans up3) os bare
          obtain ⟨o2, v2, at2, z2, d2⟩ := fly2.there
          refine store_ok (X := X.suite a ((a, o2) :: (X.pn ++ pins))) (v := .ref a) (J2.suite at2 d2 na notL notF) nd slot lc rfl (fun s2 S2 => ?_) (.inr loc)
          refine wpAny_mono ((suite a o2 cls d (X.pn ++ pins) z2 ⟨_, d2⟩).run [] s2 _ H1 _ S2 (yes rfl a na)) (fun fl s3 z => ?_) (fun _ _ z => False.elim z)
          have gone : ∀ {σ3 : L2.St} {H3 : Hp} {Q : Shared → Prop}, L2.Inv (X.suite a ((a, o2) :: (X.pn ++ pins))) [] σ3 H3 s3 → (∀ s4, L2.Inv X pins (σ3.set i none) H3 s4 → Q s4) →
              wpAny (model X.prog X.w) X.A (do bindName X.env n .none; unbindBehindTheSuite X.env n p2) (fun _ s4 => Q s4) X.xe s3 := fun S3 q => gone_ok (S3.unsuite good) nd slot loc q
          cases fl with
          | ret u =>
            obtain ⟨v, _, _, S3, rv, q⟩ := z
            exact gone S3 fun _ J4 => ⟨_, _, _, J4, rv, q⟩
          | next =>
            obtain ⟨_, _, S3, q⟩ := z
            exact gone S3 fun _ J4 => ⟨_, _, J4, q⟩
          | brk =>
            obtain ⟨_, _, S3, q⟩ := z
            exact gone S3 fun _ J4 => ⟨_, _, J4, q⟩
          | cont =>
            obtain ⟨_, _, S3, q⟩ := z
            exact gone S3 fun _ J4 => ⟨_, _, J4, q⟩
    exact turn _ _ hcl wish
  cases fl with
  | ret u =>
    obtain ⟨v, σ2, H2, J2, rv, q⟩ := z
    exact ⟨v, σ2, H2, J2.ofTry good, rv, q⟩
  | next =>
    obtain ⟨σ2, H2, J2, q⟩ := z
    exact wpAny_execs_nil ⟨σ2, H2, J2.ofTry good, q⟩
  | brk =>
    obtain ⟨σ2, H2, J2, q⟩ := z
    exact ⟨σ2, H2, J2.ofTry good, q⟩
  | cont =>
    obtain ⟨σ2, H2, J2, q⟩ := z
    exact ⟨σ2, H2, J2.ofTry good, q⟩
end
end Pm
namespace Pm
open PySem PySem.Spec PyProof.Rows L2 SX NdefX
/-- what the law asks of the errors -/
structure WTx (K : PySem.W.Frag) (mg : Str → Option Value) (CW CE : Addr) : Prop where
  gW : mg "WrongStone" = some (.ref CW)
  gE : mg "SmaltiError" = some (.ref CE)
  erW : ErrC K CW
  nSt : PySem.W.findIn K (.ref CW) "stone" = some none
  teW : PySem.W.exmOne K (.ref CW) (.ref CW) = some true
  kW : PySem.W.kitOne K (.ref CW) (.ref CE) = some true
section
variable {P : Program} {w : World} {K : PySem.W.Frag} {mg : Str → Option Value} {base : Heap} {C CI CW CE D : Addr} {κ : Nat}
def isXw (K : PySem.W.Frag) (a : Addr) (cls : Value) (d : Option Addr) (i : Nat) (c : V) : TE := tCB (rIsX K a cls d) (tCons (tVar i) (tCons (tC c) tNil))
def tbAsk (C CW : Addr) (κ : Nat) (W : WX) : TS := tRet (tMethE C "conditions" (spCond C CW κ) (WE W) (tVar 0) (tCons (tVar 1) tNil))
def tsAsk (K : PySem.W.Frag) (CE : Addr) (i : Nat) : Addr → Value → Option Addr → TS := fun a cls d => tRet (tTup (tCons (tC (.str "wrong")) (tCons (tErrX K a cls d "stone" (tVar i)) (tCons (isXw K a cls d i (.ref CE)) tNil))))
def spAsk (C : Addr) (κ : Nat) : Sp := fun vs H Q _ => ∃ r st need ms z, vs = [.ref r, .str (S z)] ∧ RuleAt C H r κ st need ms ∧ z.length ≤ 1000 ∧ ms.length ≤ 1000 ∧
  (laysB κ st z = false → ∀ t H', Same H H' → H t = none → H' t = some (.tup [.str "wrong", .str (S z), .bl true]) → Q (.ref t) H') ∧
  (laysB κ st z = true → ∀ p ks H', Same H H' → H p = none → CndsAt H' p ks → ks.map (·.2) = condsOf κ z ms → Q (.ref p) H')
abbrev nAsk : List Str := ["_law_made_here", "_law_hue", "e"]
theorem scAsk : FnScope nAsk ["_law_made_here", "_law_hue"] (defScope lAsked) := ⟨rfl, rfl, rfl, by decide +kernel, rfl, by decide +kernel, by decide +kernel⟩
theorem ok_ask {f g : Addr} {fd gd : FuncData} (F : Fun K "_law_asked" "_law_asked" lAsked f fd) (L : LTxt K mg) (Y : WTx K mg CW CE) (T : RCls K C) (mC : Meth K C "conditions" g) (OC : FnOk P w K mg base (L2.CX P w) 3 g gd ["self", "stone"] (spCond C CW κ)) (bC : Binds K gd ["self", "stone"] []) :
    FnOk P w K mg base CX0 4 f fd ["_law_made_here", "_law_hue"] (spAsk C κ) := by
  refine F.ok scAsk (fun vs H Q E h => ?_) (fun cdv A outer s H vs Q E hr h => ?_)
  · obtain ⟨r, st, need, ms, z, rfl, _⟩ := h
    rfl
  · obtain ⟨r, st, need, ms, z, rfl, hR, few, fm, no, yes⟩ := h
    refine ⟨_, pss_one (ps_try_clauses (i := 2) (n := "e") (l := [(.ref CW, tsAsk K CE 2)]) (tb := tbAsk C CW κ) (Wout := fun _ _ _ _ => False) rfl rfl scAsk.nd rfl rfl takes0
        (fun W pn xe tk _ => pss_one (ps_ret (by exact pe_methE (pv 0) T.cl mC OC hr bC (fun σ => passAt tk σ) (by exact (pa_cons (pv 1) pa_nil)))))
        (.cons ⟨rfl, by decide, .inl Y.gW⟩ (fun a oe cls d pn hz hf => pss_one (ps_ret (by exact pe_tup (pa_cons pe_str (pa_cons (pe_errX hz hf (pv 2)) (pa_cons (pe_callB (call_isX hz hf) (by rfl) L.isi (by decide +kernel) (pa_cons (pv 2) (pa_cons (pe_glob (v := .ref CE) (by rfl) Y.gE rfl) pa_nil))) pa_nil)))))) .nil)), ?_⟩
    have hR0 := hR
    obtain ⟨dx, fs, l, ks, hr0, h1, h2, h3, h4, hc, ek⟩ := hR
    refine ⟨_, rfl, r, dx, fs, rfl, hr0, h4 _ (by decide), _, rfl, r, st, need, ms, z, rfl, hR0, few, fm, fun e d G nd hd sG => ?_, fun e p ks' G sG np hc' ek' => yes e p ks' G sG np hc' ek'⟩
    refine ⟨true, Y.teW, fun _ a na => ?_, fun q => nomatch q⟩
    refine ⟨_, rfl, CW, d, _, .str (S z), rfl, rfl, rfl, Y.erW, Y.nSt, hd, rfl, _, rfl, CW, d, _, .ref CE, .ref CE, true, rfl, rfl, rfl, Y.erW, hd, fun u z => z, Y.kW, ?_⟩
    refine ⟨small_line (by show 3 ≤ 1000; decide), fun p np => no e p _ (sG.trans (same_upd np)) (back sG np) upd_same⟩
/-! ### the kinds of values -/
def spIsParts : Sp := fun vs H Q _ => ∃ p ks, vs = [.ref p] ∧ CndsAt H p ks ∧ ks.length ≤ 1000 ∧ Q (.bl true) H
theorem scIsParts : FnScope ["_law_value", "_law_part"] ["_law_value"] (defScope lIsParts) := ⟨rfl, rfl, rfl, by decide +kernel, rfl, by decide +kernel, by decide +kernel⟩
theorem ok_isparts {f g : Addr} {fd gd : FuncData} (F : Fun K "_law_is_parts" "_law_is_parts" lIsParts f fd) (G : Cl P w K mg base CX0 1 "_law_is_int" ["_law_value"] spIsI g gd) (L : LTxt K mg) (B : BTx mg) : FnOk P w K mg base CX0 2 f fd ["_law_value"] spIsParts := by
  refine F.ok scIsParts (fun vs H Q E h => ?_) (fun cdv A outer s H vs Q E hr h => ?_)
  · obtain ⟨p, ks, rfl, _⟩ := h
    rfl
  · obtain ⟨p, ks, rfl, hc, few, k⟩ := h
    refine ⟨_, (pss_cons (ps_if (pt_not (pt_val (pe_callB call_isi (by rfl) L.isi (by decide +kernel) (pa_cons (pv 0) (pa_cons (pe_bltn (v := .ty "list") (by rfl) L.lst (by decide +kernel) rfl) pa_nil))))) (pss_one (ps_ret pe_bl)) pss_nil)
      (pss_cons (ps_for PassesOwn.never rfl (pi_list (pv 0)) (pg_name (i := 1) scIsParts.nd rfl (.inl rfl)) (pss_cons (ps_if (PW.pt (pw_or (pt_not (pt_val (pe_callB call_isi (by rfl) L.isi (by decide +kernel) (pa_cons (pv 1) (pa_cons (pe_bltn (v := .ty "tuple") (by rfl) B.tup (by decide +kernel) rfl) pa_nil))))) (pw_or (pt_cmpR op_ne (pe_callB call_len_seq (by rfl) L.len PySem.boot_len (pa_cons (pv 1) pa_nil)) pe_int (nomark _)) (pw_or1 (pt_not (pt_val (pe_callB call_isi (by rfl) L.isi (by decide +kernel) (pa_cons (pe_ix ix_tup (pv 1) pe_int (fun _ _ => rfl)) (pa_cons (pe_bltn (v := .ty "str") (by rfl) B.str (by decide +kernel) rfl) pa_nil))))))))) (pss_one (ps_ret pe_bl)) pss_nil)
        (pss_one (ps_if (PW.pt (pw_or (pt_not (pt_val (pe_call G.ok hr (by rfl) G.gl G.kp G.bd .nil pass0 (pa_cons (pe_ix ix_tup (pv 1) pe_int (fun _ _ => rfl)) pa_nil)))) (pw_or1 (pt_not (pt_val (pe_call G.ok hr (by rfl) G.gl G.kp G.bd .nil pass0 (pa_cons (pe_ix ix_tup (pv 1) pe_int (fun _ _ => rfl)) pa_nil))))))) (pss_one (ps_ret pe_bl)) pss_nil))))
      (pss_one (ps_ret pe_bl)))), ?_⟩
    refine ⟨_, rfl, .ref p, .ty "list", .type "list", .type "list", true, rfl, .ty _, .base (.lst hc.lst), kit_ty (by decide +kernel), true, rfl, iteF ?_⟩
    refine ⟨_, rfl, p, rfl, ⟨_, SqL.of hc.lst⟩, for_list (K := K) (a := p) (xs := refC ks) (fun i σ G => (∃ y, σ = [some (.ref p), y]) ∧ G = H) ⟨⟨_, rfl⟩, rfl⟩ (fun i σ G _ h => by rw [h.2]; exact SqL.of hc.lst) ?_ ?_⟩
    · rintro i x σ G hx ⟨⟨y, rfl⟩, rfl⟩
      obtain ⟨t, c, hi, rfl⟩ := refC_at hx
      have htc := hc.each _ (List.mem_of_getElem? hi)
      refine ⟨_, rfl, .ref t, .ty "tuple", .type "tuple", .type "tuple", true, rfl, .ty _, .base (.tup htc), kit_ty (by decide +kernel), true, rfl, iteF ?_⟩
      refine ⟨_, rfl, t, _, rfl, .inr (SqT.of htc), rfl, _, rfl, iteF ?_⟩
      refine ⟨_, rfl, t, _, 2, _, rfl, rfl, SqT.of htc, rfl, .str (S c.2), .ty "str", .type "str", .type "str", true, rfl, .ty _, .base (.str _), kit_ty (by decide +kernel), true, rfl, iteF ?_⟩
      refine ⟨_, rfl, t, _, 0, _, rfl, rfl, SqT.of htc, rfl, _, rfl, true, rfl, iteF ?_⟩
      refine ⟨_, rfl, t, _, 1, _, rfl, rfl, SqT.of htc, rfl, _, rfl, true, rfl, iteF ?_⟩
      exact ⟨⟨_, rfl⟩, rfl⟩
    · rintro σ G ⟨⟨y, rfl⟩, rfl⟩
      exact k
end
end Pm
namespace Pm
open PySem PySem.Spec PyProof.Rows L2 SX NdefX
/-! ### len of an own object -/
structure OwnF (K : PySem.W.Frag) (C : Addr) (m : Str) (f : Addr) : Prop where
  at_ : PySem.W.findIn K (.ref C) m = some (some (.ref f))
  fn : PySem.W.isFn K (.ref f) = true
section
variable {X : Cx} {CX : CXT} {k : Nat} {f C : Addr} {fd : FuncData} {ps : List Str} {sp : Sp} {E : XK} {pins : List (Addr × Obj)} {σ : L2.St} {H : Hp} {s : Shared} {κ : Nat}
/-- a def called from any place around with the same frames -/
theorem run_inR {A : Around} {Q : VK} {us : List Value} {vs : List V} (F : FnOk X.prog X.w X.K X.mg X.base CX k f fd ps sp) (hr : Room k A) (fr : A.frames = X.A.frames) (hb : Binds X.K fd ps []) (hx : Passes CX X E) (I : L2.Inv X pins σ H s)
    (r : Vals vs us) (h : sp vs H Q E) : wpAny (model X.prog X.w) A (call (.ref f) us) (EP X pins σ Q) X.xe s := by
  have e0 : Env0 X.prog X.w X.K X.mg X.base A X.stack s H := by
    have e := I.env0
    exact ⟨by rw [fr]; exact e.frames, e.mod, e.bs, e.bsz, e.funs, e.frf, e.hok, e.bare⟩
  have hl := F.len _ _ _ _ h
  refine wpAny_call (codeAny_mono (F.run A X.stack s H ⟨us, []⟩ us vs _ E hr e0 (by
    have := hb s us I.kIn (by rw [List.append_nil, ← r.length]; exact hl)
    simpa using this) r h) fun q s' hq => ?_)
  cases q with
  | error e => exact hx pins σ H s e s' I hq
  | ok fl =>
    cases fl with
    | ret u => exact I.after hq
    | next => exact False.elim hq
    | brk => exact False.elim hq
    | cont => exact False.elim hq
def rLenRu (C : Addr) (κ : Nat) : List V → Hp → VK → Prop := fun xs H Q => ∃ r st need ms, xs = [.ref r] ∧ RuleAt C H r κ st need ms ∧ ms.length ≤ 1000 ∧ Q (.int (ms.length : Int)) H
theorem call_lenRu (O : FnOk X.prog X.w X.K X.mg X.base CX0 k f fd ["self"] (spLenR C κ)) (hr : Room (k + 1) X.A) (b : Binds X.K fd ["self"] []) (m : OwnF X.K C "__len__" f) : CallR X (.builtin "len") (rLenRu C κ) := by
  intro pins s σ H xs us Q I r h
  obtain ⟨r0, st, need, ms, rfl, hR, few, q⟩ := h
  rw [Vals.ref1 r]
  have hR0 := hR
  obtain ⟨dx, fs, l, ks, hr0, _⟩ := hR
  obtain ⟨mA, O1, _⟩ := ins_get I.hok hr0
  obtain ⟨od, J, _⟩ := O1.look
  obtain ⟨mm, hF⟩ := I.fr
  refine PySem.W.len_K hF I.ok.mod.kin J m.at_ m.fn ?_
  refine wpAny_mono (run_inR (Q := fun v H' => v = .int (ms.length : Int) ∧ H' = H) (E := E0) (vs := [.ref r0]) O hr.in1 rfl b pass0 I (.cons rfl .nil) ⟨r0, st, need, ms, rfl, hR0, rfl, rfl⟩) (fun v s' z => ?_) fun _ _ z => z
  obtain ⟨v', H', I', rv, rfl, rfl⟩ := z
  obtain ⟨t, rfl⟩ := rv
  exact ⟨⟨by omega, by omega⟩, .int (ms.length : Int), H', I'.tok _, ⟨_, rfl⟩, q⟩
end
/-! ### conditions as data -/
def dN (c : Cnd) : PyData := .tuple [.int c.1.1, .int c.1.2, .str (S c.2)]
theorem strOk_S {z : List Nat} (h : ∀ c ∈ z, c < 256) : PyData.strOk (S z) = true := by
  show (S z).cps.all (· < 0x110000) = true
  rw [Array.all_eq_true]
  intro i hi
  have m := h _ (List.getElem_mem (l := z) (n := i) (by simpa using hi))
  exact decide_eq_true (Nat.lt_of_lt_of_le (by simpa using m) (by decide))
def Low3 (M : List Cnd) : Prop := ∀ c ∈ M, ∀ x ∈ c.2, x < 256
theorem dNs_lay : ∀ {M : List Cnd}, Low3 M → PyData.canLayAll0 (M.map dN) = true
  | [], _ => rfl
  | c :: M, h => by
    have e1 := dNs_lay (M := M) fun q m => h q (List.mem_cons_of_mem _ m)
    have e2 : PyData.strOk (S c.2) = true := strOk_S (h c List.mem_cons_self)
    simp [PyData.canLayAll0, dN, PyData.canLay0, e1, e2]
theorem dNs_depth : ∀ M : List Cnd, PyData.depthAll (M.map dN) ≤ 1
  | [] => by simp [PyData.depthAll]
  | c :: M => by
    have := dNs_depth M
    simp [PyData.depthAll, dN, PyData.depth]
    omega
theorem dNs_shaped {M : List Cnd} (h : Low3 M) : SeqAt.shaped (.list (M.map dN)) = true := by
  have := dNs_depth M
  simp [SeqAt.shaped, PyData.canLay0, dNs_lay h, PyData.depth]
  omega
theorem dp_cnds {K : PySem.W.Frag} {H : Hp} {p : Addr} {ks : List (Addr × Cnd)} (h : CndsAt H p ks) : Dp K H (.ref p) (.list ((ks.map (·.2)).map dN)) := by
  refine .lst (SqL.of h.lst) ?_
  have e := h.each
  clear h
  unfold refC
  induction ks with
  | nil => exact .nil
  | cons q ks ih => exact .cons (.tup (SqT.of (e q List.mem_cons_self)) (.cons (.int _) (.cons (.int _) (.cons (.str _) .nil)))) (ih fun q' m => e q' (List.mem_cons_of_mem _ m))
/-! ### what a constructor has made of the law's rule -/
def Made (κ hue : Nat) (st : List Nat) (cs ms : List Cnd) : Prop := Ord ms ∧ ((κ ≠ 2 ∧ st = [hue] ∧ ms.Perm (cs.map ascC)) ∨ (κ = 2 ∧ st = [] ∧ ms.Perm (cs.map fun c => ascC (wideC c.1))))
theorem Made.len {κ hue : Nat} {st : List Nat} {cs ms : List Cnd} (h : Made κ hue st cs ms) : ms.length = cs.length := by
  rcases h.2 with ⟨_, _, p⟩ | ⟨_, _, p⟩ <;> rw [p.length_eq, List.length_map]
theorem Made.due {κ hue : Nat} {st : List Nat} {cs ms ms' : List Cnd} {z : List Nat} (h : Made κ hue st cs ms) (nd : (cs.map (·.1)).Nodup) (p : ms'.Perm cs) (o : Ord ms') : condsOf κ z ms = dueOf κ z ms' := by
  have nd' : (ms'.map (·.1)).Nodup := (p.map (·.1)).nodup_iff.mpr nd
  obtain ⟨om, h⟩ := h
  rcases h with ⟨k2, _, pm⟩ | ⟨k2, _, pm⟩
  · have e : dueOf κ z ms' = ms'.map ascC := List.map_congr_left fun c _ => by
      rw [if_neg k2]
      rfl
    unfold condsOf
    rw [e, if_neg k2]
    refine ord_uniq (pm.trans (p.map ascC).symm) ?_ om (ord_map _ (fun _ => rfl) o)
    rw [List.map_map]
    exact nd'
  · have e : dueOf κ z ms' = ms'.map fun c => (c.1, z) := List.map_congr_left fun c _ => by rw [if_pos k2]
    unfold condsOf
    rw [e, if_pos k2]
    have pm2 := pm.map fun c : Cnd => ((c.1, z) : Cnd)
    rw [List.map_map] at pm2
    refine ord_uniq (pm2.trans ((p.map fun c : Cnd => ((c.1, z) : Cnd)).symm)) ?_ (ord_map _ (fun _ => rfl) om) (ord_map _ (fun _ => rfl) o)
    rw [List.map_map]
    exact nd'
theorem Made.low {κ hue : Nat} {st : List Nat} {cs ms : List Cnd} {z : List Nat} (h : Made κ hue st cs ms) (g : ∀ c ∈ cs, ∀ x ∈ c.2, x < 256) (hz : ∀ c ∈ z, c < 256) : Low3 (condsOf κ z ms) := by
  intro c m x hx
  unfold condsOf at m
  rcases h.2 with ⟨k2, _, pm⟩ | ⟨k2, _, pm⟩
  · rw [if_neg k2] at m
    obtain ⟨d, hd, rfl⟩ := List.mem_map.mp (pm.mem_iff.mp m)
    exact g d hd x ((asc_perm d.2).mem_iff.mp hx)
  · rw [if_pos k2] at m
    obtain ⟨d, hd, rfl⟩ := List.mem_map.mp m
    exact hz x hx
theorem Made.lays {κ hue : Nat} {st : List Nat} {cs ms : List Cnd} (h : Made κ hue st cs ms) (hl : Let hue) (z : List Nat) : (stoneB z && (decide (κ = 2) || decide (z = [hue]))) = laysB κ st z := by
  unfold laysB
  rcases h.2 with ⟨k2, e, _⟩ | ⟨k2, e, _⟩
  · rw [if_neg k2, decide_eq_false k2, Bool.false_or, e]
    by_cases y : z = [hue]
    · rw [y]
      show (decide (Let hue) && _) = _
      rw [decide_eq_true hl]
      simp
    · rw [decide_eq_false y, Bool.and_false]
  · rw [if_pos k2, decide_eq_true k2, Bool.true_or, Bool.and_true]
theorem GoodR.low {κ hue : Nat} {cs : List Cnd} {need : Int} (h : GoodR κ hue cs need) : ∀ c ∈ cs, ∀ x ∈ c.2, x < 256 := fun c m x hx => by
  rcases (h.each c m).2.all x hx with e | e
  · omega
  · unfold Let at e
    omega
section
variable {P : Program} {w : World} {K : PySem.W.Frag} {mg : Str → Option Value} {base : Heap} {C CI CW CE CR CC CS D : Addr} {κ : Nat}
structure Ops (P : Program) (w : World) (K : PySem.W.Frag) (mg : Str → Option Value) (base : Heap) (C CW CR CC CS : Addr) (κ : Nat) (fL fC fS fN pS : Addr) (dL dC dS dN : FuncData) (uK : Value) : Prop where
  T : RCls K C
  mL : Meth K C "lays" fL
  OL : FnOk P w K mg base CX0 2 fL dL ["self", "stone"] (spLays C κ)
  bL : Binds K dL ["self", "stone"] []
  mC : Meth K C "conditions" fC
  OC : FnOk P w K mg base (L2.CX P w) 3 fC dC ["self", "stone"] (spCond C CW κ)
  bC : Binds K dC ["self", "stone"] []
  pS : PropOf K C "slack" pS fS
  OS : FnOk P w K mg base CX0 1 fS dS ["self"] (spSlack C κ)
  bS : Binds K dS ["self"] []
  mN : OwnF K C "__len__" fN
  ON : FnOk P w K mg base CX0 1 fN dN ["self"] (spLenR C κ)
  bN : Binds K dN ["self"] []
  kind : Con K C "KIND" (.str (kindT κ)) uK
  isR : PySem.W.kitOne K (.ref C) (.ref CR) = some true
  isC : PySem.W.kitOne K (.ref C) (.ref CC) = some (decide (κ ≠ 0))
  isS : PySem.W.kitOne K (.ref C) (.ref CS) = some (decide (κ = 2))
  ca : PySem.W.findIn K (.ref C) "__class__" = some (some (.builtin "object.__class__"))
  cn : PySem.W.specialIn K (.builtin "object.__class__") "__get__" = some (some (.builtin "getset_descriptor.__get__"))
  ct : PySem.W.takesIn K (.builtin "object.__class__") = some true
  cm : PySem.W.mroIn K C (.type "object") = some true
structure GTx (mg : Str → Option Value) (CR CC CS : Addr) : Prop where
  gR : mg "Rule" = some (.ref CR)
  gC : mg "CountRule" = some (.ref CC)
  gS : mg "SameRule" = some (.ref CS)
theorem same_updO {H H2 : Hp} {p : Addr} {o : HO} (s : Same H H2) (np : H p = none) : Same H (upd H2 p o) := fun a x e => by
  have ne : a ≠ p := by
    rintro rfl
    rw [np] at e
    cases e
  rw [upd_ne ne]
  exact s a x e
def dW (z : List Nat) : PyData := .tuple [.str "wrong", .str (S z), .bool true]
theorem eqD {d : PyData} (h : SeqAt.shaped d = true) : (!PyData.eqv d d) = false := by
  rw [SeqAt.eqv_refl d (SeqAt.canLay_of_shaped h)]
  rfl
theorem dW_shaped {z : List Nat} (h : ∀ c ∈ z, c < 256) : SeqAt.shaped (dW z) = true := by
  have e : PyData.strOk (S z) = true := strOk_S h
  have e2 : PyData.strOk ("wrong" : Str) = true := by decide +kernel
  simp [SeqAt.shaped, dW, PyData.canLayAll0, PyData.canLay0, PyData.depth, PyData.depthAll, e, e2]
theorem dpW {K : PySem.W.Frag} {H : Hp} {z : List Nat} : DpAll K H [.str "wrong", .str (S z), .bl true] [.str "wrong", .str (S z), .bool true] := .cons (.str _) (.cons (.str _) (.cons (.bl _) .nil))
theorem few_conds {κ : Nat} {z : List Nat} {ms : List Cnd} (h : ms.length ≤ 1000) : (condsOf κ z ms).length ≤ 1000 := by
  unfold condsOf
  by_cases k : κ = 2
  · rw [if_pos k, List.length_map]
    exact h
  · rw [if_neg k]
    exact h
theorem andW {ta tb : TE} {σ : List (Option V)} {G : Hp} {Q : VK} (b c : Bool) (ha : ∀ Q' : VK, Q' (.bl b) G → ta σ G Q') (hb : ∀ Q' : VK, Q' (.bl c) G → tb σ G Q') (h : Q (.bl (b && c)) G) : tAndV ta tb σ G Q := by
  refine ha _ ⟨_, rfl, ?_⟩
  cases b
  · exact iteF h
  · exact iteT (hb _ h)
def spAgree (C : Addr) (κ : Nat) : Sp := fun vs H Q _ => ∃ r t hl pl hue ks need hs st ms, vs = [.ref r, .ref t, .ref hl] ∧ RuleAt C H r κ st need ms ∧ RuleT H t pl κ hue ks need ∧ Made κ hue st (ks.map (·.2)) ms ∧ H hl = some (.lst (rowsV hs)) ∧ (∀ z ∈ hs, z.length ≤ 1000 ∧ ∀ c ∈ z, c < 256) ∧ ∀ H', Same H H' → Q (.bl true) H'
abbrev nAgree : List Str := ["_law_made_here", "_law_rule_here", "_law_hues", "_law_hue", "_law_lays_here", "_law_told"]
theorem scAgree : FnScope nAgree ["_law_made_here", "_law_rule_here", "_law_hues"] (defScope lAgree) := ⟨rfl, rfl, rfl, by decide +kernel, rfl, by decide +kernel, by decide +kernel⟩
theorem ok_agree {f fL fC fS fN pS a1 a2 a3 a4 a5 a6 a7 : Addr} {fd dL dC dS dN b1 b2 b3 b4 b5 b6 b7 : FuncData} {uK : Value} (F : Fun K "_law_agree" "_law_agree" lAgree f fd) (O : Ops P w K mg base C CW CR CC CS κ fL fC fS fN pS dL dC dS dN uK) (L : LTxt K mg) (B : BTx mg) (Gt : GTx mg CR CC CS)
    (cLet : Cl P w K mg base CX0 1 "_law_is_letter" ["_law_text"] spStone a1 b1) (cLays : Cl P w K mg base CX0 1 "_law_lays" ["_law_rule_here", "_law_hue"] spLaysL a2 b2) (cAsk : Cl P w K mg base CX0 4 "_law_asked" ["_law_made_here", "_law_hue"] (spAsk C κ) a3 b3)
    (cParts : Cl P w K mg base CX0 2 "_law_is_parts" ["_law_value"] spIsParts a4 b4) (cDue : Cl P w K mg base CX0 2 "_law_due_parts" ["_law_rule_here", "_law_hue"] spDue a5 b5) (cInt : Cl P w K mg base CX0 1 "_law_is_int" ["_law_value"] spIsI a6 b6) (cSlack : Cl P w K mg base CX0 1 "_law_slack" ["_law_rule_here"] spSlackL a7 b7) :
    FnOk P w K mg base CX0 5 f fd ["_law_made_here", "_law_rule_here", "_law_hues"] (spAgree C κ) := by
  refine F.ok scAgree (fun vs H Q E h => ?_) (fun cdv A outer s H vs Q E hr h => ?_)
  · obtain ⟨r, t, hl, pl, hue, ks, need, hs, st, ms, rfl, _⟩ := h
    rfl
  · obtain ⟨r, t, hl, pl, hue, ks, need, hs, st, ms, rfl, hR, hT, hM, hhs, lows_, k⟩ := h
    have hr1 : Room 1 _ := hr.mono (by decide)
    have hr2 : Room 2 _ := hr.mono (by decide)
    have hr4 : Room 4 _ := hr
    have T := O.T
    refine ⟨_, (pss_cons (ps_for PassesOwn.never rfl (pi_list (pv 2)) (pg_name (i := 3) scAgree.nd rfl (.inl rfl)) (pss_cons (ps_set (i := 4) scAgree.nd rfl (.inl rfl) (pe_and (pe_call cLet.ok hr1 (by rfl) cLet.gl cLet.kp cLet.bd .nil pass0 (pa_cons (pv 3) pa_nil)) (pe_one (pe_call cLays.ok hr1 (by rfl) cLays.gl cLays.kp cLays.bd .nil pass0 (pa_cons (pv 1) (pa_cons (pv 3) pa_nil))))))
        (pss_cons (ps_set (i := 5) scAgree.nd rfl (.inl rfl) (pe_meth (pv 0) T.cl O.mL O.OL hr2 O.bL .nil pass0 (pa_cons (pv 3) pa_nil)))
        (pss_cons (ps_if (PW.pt (pw_or (pt_not (pt_val (pe_callB call_isi (by rfl) L.isi (by decide +kernel) (pa_cons (pv 5) (pa_cons (pe_bltn (v := .ty "bool") (by rfl) B.bool (by decide +kernel) rfl) pa_nil))))) (pw_or1 (pt_cmpR op_ne (pv 5) (pv 4) (nomark _))))) (pss_one (ps_ret pe_bl)) pss_nil)
        (pss_cons (ps_set (i := 5) scAgree.nd rfl (.inl rfl) (pe_call cAsk.ok hr4 (by rfl) cAsk.gl cAsk.kp cAsk.bd .nil pass0 (pa_cons (pv 0) (pa_cons (pv 3) pa_nil))))
        (pss_cons (ps_if (PW.pt (pw_and (pt_not (pt_val (pv 4))) (pw_and1 (pt_cmpR (op_neD hr.units) (pv 5) (pe_tup (pa_cons pe_str (pa_cons (pv 3) (pa_cons pe_bl pa_nil)))) (nomark _))))) (pss_one (ps_ret pe_bl)) pss_nil)
        (pss_cons (ps_if (PW.pt (pw_and (pt_val (pv 4)) (pw_and1 (PW.pt (pw_or (pt_not (pt_val (pe_call cParts.ok hr2 (by rfl) cParts.gl cParts.kp cParts.bd .nil pass0 (pa_cons (pv 5) pa_nil)))) (pw_or1 (pt_cmpR (op_neD hr.units) (pv 5) (pe_call cDue.ok hr2 (by rfl) cDue.gl cDue.kp cDue.bd .nil pass0 (pa_cons (pv 1) (pa_cons (pv 3) pa_nil))) (nomark _)))))))) (pss_one (ps_ret pe_bl)) pss_nil)
        (pss_one (ps_if (pt_val (pv 4)) (pss_one (ps_expr (pe_bm PySem.F.plainAttrs_list PySem.F.slot_list_append PySem.F.type_list_append mt_append (pv 5) (pa_cons (pe_tup (pa_cons pe_int (pa_cons pe_int (pa_cons pe_str pa_nil)))) pa_nil)))) pss_nil)))))))))
      (pss_cons (ps_if (PW.pt (pw_or (pt_cmpR op_ne (pe_callB (call_lenRu O.ON hr2 O.bN O.mN) (by rfl) L.len PySem.boot_len (pa_cons (pv 0) pa_nil)) (pe_callB call_len_seq (by rfl) L.len PySem.boot_len (pa_cons (pe_ix ix_tup (pv 1) pe_int (fun _ _ => rfl)) pa_nil)) (nomark _)) (pw_or (pt_not (pt_val (pe_call cInt.ok hr1 (by rfl) cInt.gl cInt.kp cInt.bd .nil pass0 (pa_cons (pe_prop (pv 0) T.cl O.pS O.OS hr2 O.bS .nil pass0 rfl) pa_nil)))) (pw_or1 (pt_cmpR op_ne (pe_prop (pv 0) T.cl O.pS O.OS hr2 O.bS .nil pass0 rfl) (pe_call cSlack.ok hr1 (by rfl) cSlack.gl cSlack.kp cSlack.bd .nil pass0 (pa_cons (pv 1) pa_nil)) (nomark _)))))) (pss_one (ps_ret pe_bl)) pss_nil)
      (pss_cons (ps_if (PW.pt (pw_or (pt_cmpR op_ne (pe_con (pv 0) rfl) (pe_ix ix_tup (pv 1) pe_int (fun _ _ => rfl)) (nomark _)) (pw_or1 (pt_not (pt_val (pe_callB call_isi (by rfl) L.isi (by decide +kernel) (pa_cons (pv 0) (pa_cons (pe_glob (v := .ref CR) (by rfl) Gt.gR rfl) pa_nil)))))))) (pss_one (ps_ret pe_bl)) pss_nil)
      (pss_cons (ps_if (PW.pt (pw_or (pt_cmpR op_ne (pe_callB call_isi (by rfl) L.isi (by decide +kernel) (pa_cons (pv 0) (pa_cons (pe_glob (v := .ref CC) (by rfl) Gt.gC rfl) pa_nil))) (pe_cmpR op_ne (pe_ix ix_tup (pv 1) pe_int (fun _ _ => rfl)) pe_str (nomark _)) (nomark _)) (pw_or1 (pt_cmpR op_ne (pe_callB call_isi (by rfl) L.isi (by decide +kernel) (pa_cons (pv 0) (pa_cons (pe_glob (v := .ref CS) (by rfl) Gt.gS rfl) pa_nil))) (pe_cmpR op_eq (pe_ix ix_tup (pv 1) pe_int (fun _ _ => rfl)) pe_str (nomark _)) (nomark _))))) (pss_one (ps_ret pe_bl)) pss_nil)
      (pss_cons (ps_if (pt_cmpR op_eq (pe_ix ix_tup (pv 1) pe_int (fun _ _ => rfl)) pe_str (nomark _)) (pss_one (ps_ret (pe_and (pe_cmpR op_eq (pe_fld (pv 0) rfl) pe_str (nomark _)) (pe_one (pe_cmpR op_eq (pe_fld (pv 0) rfl) (pe_ix ix_tup (pv 1) pe_int (fun _ _ => rfl)) (nomark _)))))) pss_nil)
      (pss_one (ps_ret (pe_and (pe_cmpR op_eq (pe_fld (pv 0) rfl) (pe_ix ix_tup (pv 1) pe_int (fun _ _ => rfl)) (nomark _)) (pe_one (pe_or (pe_cmpR op_eq (pe_ix ix_tup (pv 1) pe_int (fun _ _ => rfl)) pe_str (nomark _)) (pe_one (pe_cmpR op_eq (pe_fld (pv 0) rfl) (pe_ix ix_tup (pv 1) pe_int (fun _ _ => rfl)) (nomark _))))))))))))), ?_⟩
    have fewK : ks.length ≤ 8 := by
      have := hT.good.few
      rwa [List.length_map] at this
    have fewM : ms.length ≤ 1000 := by
      have := hM.len
      rw [List.length_map] at this
      omega
    refine ⟨_, rfl, hl, rfl, ⟨_, SqL.of hhs⟩, for_list (K := K) (a := hl) (xs := rowsV hs) (fun i σ G => (∃ y3 y4 y5, σ = [some (.ref r), some (.ref t), some (.ref hl), y3, y4, y5]) ∧ Same H G) ⟨⟨_, _, _, rfl⟩, Same.refl H⟩ (fun i σ G _ h => SqL.of (h.2 _ _ hhs)) ?_ ?_⟩
    · rintro i x σ G hx ⟨⟨y3, y4, y5, rfl⟩, sG⟩
      obtain ⟨z, hz, rfl⟩ := rowsV_at hx
      obtain ⟨fz, lz⟩ := lows_ z (List.mem_of_getElem? hz)
      have hRG := hR.same sG
      have hTG := hT.same sG
      have hRG0 := hRG
      obtain ⟨dx, fs, l, ks2, hr0, h1, h2, h3, h4, hc, ek⟩ := hRG
      -- lays_here
      have lays := hM.lays hT.good.hue z
      refine andW (stoneB z) (decide (κ = 2) || decide (z = [hue])) ?ha ?hb ?_
      case ha => exact fun Q' k => ⟨_, rfl, z, rfl, fz, k⟩
      case hb => exact fun Q' k => ⟨_, rfl, _, rfl, t, pl, κ, hue, ks, need, z, rfl, hTG, k⟩
      rw [lays]
      refine ⟨_, rfl, r, dx, fs, rfl, hr0, h4 _ (by decide), _, rfl, r, st, need, ms, z, rfl, hRG0, fz, ?_⟩
      refine ⟨_, rfl, .bl _, .ty "bool", .type "bool", .type "bool", true, rfl, .ty _, .base (.bl _), kit_ty (by decide +kernel), true, rfl, iteF ?_⟩
      refine ⟨_, rfl, _, rfl, rfl, _, rfl, iteFe (by simp) ?_⟩
      refine ⟨_, rfl, _, rfl, r, st, need, ms, z, rfl, hRG0, fz, fewM, fun hno v H1 s1 nv hv => ?_, fun hyes p ks' H1 s1 np hc1 e1 => ?_⟩
      · rw [hno]
        refine ⟨_, rfl, _, rfl, iteT ?_⟩
        refine ⟨_, rfl, _, rfl, small_line (by show 3 ≤ 1000; decide), fun v2 nv2 => ?_⟩
        refine ⟨dW z, dW z, .tup (SqT.of (same_upd nv2 _ _ hv)) dpW, .tup (SqT.of upd_same) dpW, dW_shaped lz, dW_shaped lz, _, rfl, iteFe (eqD (dW_shaped lz)) ?_⟩
        refine ⟨_, rfl, _, rfl, iteF (iteF ?_)⟩
        exact ⟨_, rfl, _, rfl, iteF ⟨⟨_, _, _, rfl⟩, sG.trans (s1.trans (same_upd nv2))⟩⟩
      · rw [hyes]
        have sh1 := dNs_shaped (hM.low hTG.good.low lz : Low3 (condsOf κ z ms))
        refine ⟨_, rfl, _, rfl, iteF (iteF ?_)⟩
        refine ⟨_, rfl, _, rfl, iteT ?_⟩
        refine ⟨_, rfl, p, ks', rfl, hc1, by rw [← List.length_map (f := Prod.snd), e1]; exact few_conds fewM, _, rfl, iteF ?_⟩
        refine ⟨_, rfl, _, rfl, _, rfl, t, pl, κ, hue, ks, need, z, rfl, hTG.same s1, fun p2 ms2 ns H2 s2 np2 hc2 e2 pm om => ?_⟩
        have e : ns.map (·.2) = condsOf κ z ms := e2.trans (hM.due hTG.good.nd pm om).symm
        refine ⟨_, _, dp_cnds (hc1.same s2), dp_cnds hc2, by rw [e1]; exact sh1, by rw [e]; exact sh1, _, rfl, iteFe (by rw [e1, e]; exact eqD sh1) ?_⟩
        refine ⟨_, rfl, _, rfl, iteT ?_⟩
        refine ⟨_, rfl, .inl ⟨rfl, _, SqL.of (hc1.same s2).lst⟩, by show 3 ≤ sizeLine; decide, fun T' nT => ?_⟩
        have s5 := same_upd (o := .tup [.int 1, .int 1, .str "z"]) nT
        have fk : ks'.length ≤ 1000 := by
          rw [← List.length_map (f := Prod.snd), e1]
          exact few_conds fewM
        refine ⟨p, _, _, rfl, rfl, s5 _ _ (hc1.same s2).lst, by rw [show (refC ks').length = ks'.length from List.length_map _]; exact small1000 fk, ⟨⟨_, _, _, rfl⟩, sG.trans (same_updO ((s1.trans s2).trans s5) np)⟩⟩
    · rintro σ G ⟨⟨y3, y4, y5, rfl⟩, sG⟩
      have hRG := hR.same sG
      have hTG := hT.same sG
      have hRG0 := hRG
      obtain ⟨dx, fs, l, ks2, hr0, h1, h2, h3, h4, hc, ek⟩ := hRG
      have k3 := hT.good.k3
      have ml : ms.length = (refC ks).length := by
        rw [hM.len, List.length_map]
        exact (List.length_map _).symm
      have sl : slackOf κ need ms = slackOf κ need (ks.map (·.2)) := by
        unfold slackOf
        rw [hM.len]
      refine ⟨_, rfl, r, st, need, ms, rfl, hRG0, fewM, _, rfl, t, _, 2, _, rfl, rfl, SqT.of hTG.at_, rfl, pl, _, rfl, .inl (SqL.of hTG.cs.lst), rfl, _, rfl, iteFe (by rw [ml]; simp) ?_⟩
      refine ⟨_, rfl, r, dx, fs, rfl, hr0, r, st, need, ms, rfl, hRG0, fewM, _, rfl, true, rfl, iteF ?_⟩
      refine ⟨_, rfl, r, dx, fs, rfl, hr0, r, st, need, ms, rfl, hRG0, fewM, _, rfl, t, pl, κ, hue, ks, need, rfl, hTG, rfl, _, rfl, iteFe (by rw [sl]; simp) ?_⟩
      refine ⟨_, rfl, r, C, dx, fs, _, _, rfl, hr0, T.cl, O.kind, h4 _ (by decide), _, rfl, t, _, 0, _, rfl, rfl, SqT.of hTG.at_, rfl, rfl, _, rfl, iteFe (by simp) ?_⟩
      have ty : TyX K G (.ref r) (.ref C) := .base (.ins hr0 T.cl O.ca O.cn O.ct O.cm)
      refine ⟨_, rfl, .ref r, .ref CR, .ref C, .ref CR, true, rfl, .own _, ty, O.isR, true, rfl, iteF ?_⟩
      refine ⟨_, rfl, .ref r, .ref CC, .ref C, .ref CC, _, rfl, .own _, ty, O.isC, _, rfl, t, _, 0, _, rfl, rfl, SqT.of hTG.at_, rfl, rfl, rfl, _, rfl, iteFe (by rw [kind_all k3]; by_cases e : κ = 0 <;> simp [e]) ?_⟩
      refine ⟨_, rfl, .ref r, .ref CS, .ref C, .ref CS, _, rfl, .own _, ty, O.isS, _, rfl, t, _, 0, _, rfl, rfl, SqT.of hTG.at_, rfl, rfl, rfl, _, rfl, iteFe (by rw [kind_same k3]; by_cases e : κ = 2 <;> simp [e]) ?_⟩
      refine ⟨_, rfl, t, _, 0, _, rfl, rfl, SqT.of hTG.at_, rfl, rfl, _, rfl, ?_⟩
      rw [kind_same k3]
      by_cases k2 : κ = 2
      · have e0 : st = [] := by
          rcases hM.2 with ⟨n, _⟩ | ⟨_, e, _⟩
          · exact absurd k2 n
          · exact e
        refine iteTe (decide_eq_true k2) ⟨_, rfl, r, C, dx, fs, _, rfl, hr0, T.cl, T.nS, h1, rfl, _, rfl, iteTe (by rw [e0]; decide +kernel) ?_⟩
        refine ⟨_, rfl, r, C, dx, fs, _, rfl, hr0, T.cl, T.nN, h3 (by omega), _, rfl, t, _, 3, _, rfl, rfl, SqT.of hTG.at_, rfl, rfl, ?_⟩
        rw [decide_eq_true (rfl : V.int need = V.int need)]
        exact k G sG
      · have e0 : st = [hue] := by
          rcases hM.2 with ⟨_, e, _⟩ | ⟨n, _⟩
          · exact e
          · exact absurd n k2
        refine iteFe (decide_eq_false k2) ⟨_, rfl, r, C, dx, fs, _, rfl, hr0, T.cl, T.nS, h1, _, rfl, t, _, 1, _, rfl, rfl, SqT.of hTG.at_, rfl, rfl, _, rfl, iteTe (by rw [e0]; simp) ?_⟩
        refine ⟨_, rfl, t, _, 0, _, rfl, rfl, SqT.of hTG.at_, rfl, rfl, _, rfl, ?_⟩
        rw [kind_all k3]
        by_cases k0 : κ = 0
        · exact iteTe (decide_eq_true k0) (k G sG)
        · refine iteFe (decide_eq_false k0) ⟨_, rfl, r, C, dx, fs, _, rfl, hr0, T.cl, T.nN, h3 k0, _, rfl, t, _, 3, _, rfl, rfl, SqT.of hTG.at_, rfl, rfl, ?_⟩
          rw [decide_eq_true (rfl : V.int need = V.int need)]
          exact k G sG
end
end Pm
namespace Pm
open PySem PySem.Spec PyProof.Rows L2 SX NdefX
/-! ### a good rule has no fault -/
theorem fst_good : ∀ {cs : List Cnd} {i : Nat} {seen : List (Int × Int)}, (cs.map (·.1)).Nodup → (∀ c ∈ cs, c.1 ∉ seen) → (∀ c ∈ cs, placeB c.1 = true ∧ diffB 35 c.2 = true) → i + cs.length ≤ 9 → fstBad i seen cs = none
  | [], _, _, _, _, _, _ => rfl
  | c :: r, i, seen, nd, ns, ok, few => by
    rw [fst_step]
    have h1 : badAt i seen c = false := by
      unfold badAt
      obtain ⟨a, b⟩ := ok c List.mem_cons_self
      rw [a, b, decide_eq_false (ns c List.mem_cons_self), decide_eq_false (by rw [List.length_cons] at few; omega)]
      rfl
    rw [h1]
    rw [List.map_cons, List.nodup_cons] at nd
    refine fst_good nd.2 (fun d m => ?_) (fun d m => ok d (List.mem_cons_of_mem _ m)) (by rw [List.length_cons] at few; omega)
    intro m2
    rcases List.mem_cons.mp m2 with e | e
    · exact nd.1 (e ▸ List.mem_map.mpr ⟨d, m, rfl⟩)
    · exact ns d (List.mem_cons_of_mem _ m) e
theorem stone_good {hue : Nat} (h : Let hue) : stoneB [hue] = true := by
  show decide (Let hue) = true
  exact decide_eq_true h
theorem GoodR.fst {κ hue : Nat} {cs : List Cnd} {need : Int} (h : GoodR κ hue cs need) : fstBad 1 [] cs = none := fst_good h.nd (fun _ _ m => nomatch m) (fun c m => ⟨(h.each c m).1, ((h.each c m).2).diff⟩) (by have := h.few; omega)
theorem GoodR.faultR {κ hue : Nat} {cs : List Cnd} {need : Int} (h : GoodR κ hue cs need) : faultR [hue] cs = none := by
  unfold Pm.faultR
  rw [stone_good h.hue, h.fst]
  rfl
theorem GoodR.faultC {κ hue : Nat} {cs : List Cnd} {need : Int} (h : GoodR κ hue cs need) : faultC [hue] cs need = none := by
  unfold Pm.faultC
  rw [h.faultR]
  exact if_pos ⟨h.n0, h.n1⟩
theorem GoodR.faultS {κ hue : Nat} {cs : List Cnd} {need : Int} (h : GoodR κ hue cs need) : faultS (cs.map fun c => wideC c.1) need = none := by
  unfold Pm.faultS
  have e : fstBad 1 [] (cs.map fun c => wideC c.1) = none := by
    refine fst_good ?_ (fun _ _ m => nomatch m) (fun c m => ?_) (by have := h.few; rw [List.length_map]; omega)
    · rw [List.map_map]
      exact h.nd
    · obtain ⟨d, hd, rfl⟩ := List.mem_map.mp m
      exact ⟨(h.each d hd).1, by show diffB 35 alphaL = true; decide +kernel⟩
  rw [e, List.length_map]
  exact if_pos ⟨h.n0, h.n1⟩
/-! ### pairs of a rule's parts -/
theorem pairMore {ks : List (Addr × Cnd)} {G G3 H0 : Hp} {D T tt : Addr} {c : Cnd} {i : Nat} {ns : List (Addr × (Int × Int))} (lm : ks.length ≤ 1000) (nD : H0 D = none) (sm : Same H0 G) (hD : G D = some (.lst (ns.map fun q => V.ref q.1))) (hns : ∀ q ∈ ns, G q.1 = some (PairO q.2))
    (en : ns.map (·.2) = (ks.take i).map fun q => q.2.1) (hi : ks[i]? = some (tt, c)) (s3 : Same G G3) (nT : G3 T = none) :
    (ns.map fun q => V.ref q.1).length < sizeLine ∧ ∃ ns' : List (Addr × (Int × Int)), Same H0 (upd (upd G3 T (PairO c.1)) D (.lst ((ns.map fun q => V.ref q.1) ++ [.ref T]))) ∧
      upd (upd G3 T (PairO c.1)) D (.lst ((ns.map fun q => V.ref q.1) ++ [.ref T])) D = some (.lst (ns'.map fun q => V.ref q.1)) ∧ (∀ q ∈ ns', upd (upd G3 T (PairO c.1)) D (.lst ((ns.map fun q => V.ref q.1) ++ [.ref T])) q.1 = some (PairO q.2)) ∧ ns'.map (·.2) = (ks.take (i + 1)).map fun q => q.2.1 := by
  have s4 := s3.trans (same_upd (o := PairO c.1) nT)
  have nDT : D ≠ T := ne_of_none (s3 _ _ hD) nT
  have li : i < ks.length := (List.getElem?_eq_some_iff.mp hi).1
  refine ⟨?_, ns ++ [(T, c.1)], fun b o e => ?_, ?_, fun q hq => ?_, ?_⟩
  · have e1 := congrArg List.length en
    rw [List.length_map, List.length_map, List.length_take] at e1
    rw [show (ns.map fun q => V.ref q.1).length = ns.length from List.length_map _]
    exact small1000 (by omega)
  · rw [upd_ne (ne_of_none e nD)]
    exact s4 _ _ (sm _ _ e)
  · rw [upd_same, List.map_append]
    rfl
  · rcases List.mem_append.mp hq with z | z
    · have y := s4 _ _ (hns q z)
      rw [upd_ne (fun e => ?_)]
      · exact y
      · rw [e, s4 _ _ hD] at y
        cases y
    · rw [List.mem_singleton.mp z]
      rw [upd_ne nDT.symm, upd_same]
  · rw [List.map_append, en, List.take_add_one, hi, List.map_append]
    rfl
theorem made_same {C : Addr} {H : Hp} {x dx : Addr} (nx : H x = none) (nd : H dx = none) : Same H (upd (upd H dx (.own x)) x (.ins C dx [])) := fun b o e => by
  rw [upd_ne (ne_of_none e nx), upd_ne (ne_of_none e nd)]
  exact e
theorem made_but {C : Addr} {H H' : Hp} {x dx : Addr} (nx : H x = none) (nd : H dx = none) (s : SameBut x (upd (upd H dx (.own x)) x (.ins C dx [])) H') : Same H H' := fun b o e => by
  have ne : b ≠ x := ne_of_none e nx
  exact s b o ne (made_same nx nd _ _ e)
/-! ### the classes of the three kinds -/
def clsOf (CR CC CS : Addr) (κ : Nat) : Addr := if κ = 0 then CR else if κ = 1 then CC else CS
structure Ctor (P : Program) (w : World) (K : PySem.W.Frag) (mg : Str → Option Value) (base : Heap) (C : Addr) (n : Nat) (ps : List Str) (sp : Sp) (f : Addr) (fd : FuncData) : Prop where
  M : Mk K C f
  ok : FnOk P w K mg base (L2.CX P w) n f fd ps sp
  bd : Binds K fd ps []
  T : RCls K C
section
variable {P : Program} {w : World} {K : PySem.W.Frag} {mg : Str → Option Value} {base : Heap} {C CI CW CE CR CC CS D : Addr} {κ : Nat}
theorem low2 {a b : V} : ∀ m ∈ lows, List.lookup m [(("stone" : Str), a), ("_conditions", b)] = none := by
  intro m hm
  simp only [lows, List.mem_cons, List.not_mem_nil, or_false] at hm
  rcases hm with rfl | rfl | rfl | rfl | rfl | rfl | rfl | rfl <;> rfl
theorem low3 {a b c : V} : ∀ m ∈ lows, List.lookup m [(("stone" : Str), a), ("_conditions", b), ("need", c)] = none := by
  intro m hm
  simp only [lows, List.mem_cons, List.not_mem_nil, or_false] at hm
  rcases hm with rfl | rfl | rfl | rfl | rfl | rfl | rfl | rfl <;> rfl
theorem low3s {a b c : V} : ∀ m ∈ lows, List.lookup m [(("stone" : Str), a), ("need", b), ("_conditions", c)] = none := by
  intro m hm
  simp only [lows, List.mem_cons, List.not_mem_nil, or_false] at hm
  rcases hm with rfl | rfl | rfl | rfl | rfl | rfl | rfl | rfl <;> rfl
def spMade (CR CC CS : Addr) : Sp := fun vs H Q _ => ∃ t pl κ hue ks need, vs = [.ref t] ∧ RuleT H t pl κ hue ks need ∧ ∀ r st ms H', Same H H' → RuleAt (clsOf CR CC CS κ) H' r κ st need ms → Made κ hue st (ks.map (·.2)) ms → Q (.ref r) H'
abbrev nMade : List Str := ["_law_rule_here", "_law_part"]
theorem scMade : FnScope nMade ["_law_rule_here"] (defScope lMade) := ⟨rfl, rfl, rfl, by decide +kernel, rfl, by decide +kernel, by decide +kernel⟩
theorem ok_made {f fR fC fS : Addr} {fd dR dC dS : FuncData} (F : Fun K "_law_made" "_law_made" lMade f fd) (L : LTxt K mg) (Gt : GTx mg CR CC CS) (kR : Ctor P w K mg base CR 4 ["self", "stone", "conditions"] (spRuleInit CI K) fR dR)
    (kC : Ctor P w K mg base CC 5 ["self", "stone", "conditions", "need"] (spCountInit CI CC K) fC dC) (kS : Ctor P w K mg base CS 5 ["self", "places", "need"] (spSameInit CI CS K) fS dS) :
    FnOk P w K mg base CX0 7 f fd ["_law_rule_here"] (spMade CR CC CS) := by
  refine F.ok scMade (fun vs H Q E h => ?_) (fun cdv A outer s H vs Q E hr h => ?_)
  · obtain ⟨t, pl, κ, hue, ks, need, rfl, _⟩ := h
    rfl
  · obtain ⟨t, pl, κ, hue, ks, need, rfl, hT, k⟩ := h
    have hr5 : Room 5 _ := hr.mono (by decide)
    refine ⟨_, (pss_cons (ps_if (pt_cmpR op_eq (pe_ix ix_tup (pv 0) pe_int (fun _ _ => rfl)) pe_str (nomark _)) (pss_one (ps_ret (pe_makeS (E := fun _ => E0) kR.M kR.ok hr5 (by rfl) Gt.gR kR.bd (fun σ pins H s e s' I c => passF pins σ H s e s' I c) (pa_cons (pe_ix ix_tup (pv 0) pe_int (fun _ _ => rfl)) (pa_cons (pe_callTy call_list_of (by rfl) L.lst (by decide +kernel) (pa_cons (pe_ix ix_tup (pv 0) pe_int (fun _ _ => rfl)) pa_nil)) pa_nil))))) pss_nil)
      (pss_cons (ps_if (pt_cmpR op_eq (pe_ix ix_tup (pv 0) pe_int (fun _ _ => rfl)) pe_str (nomark _)) (pss_one (ps_ret (pe_makeS (E := fun _ => E0) kC.M kC.ok hr (by rfl) Gt.gC kC.bd (fun σ pins H s e s' I c => passF pins σ H s e s' I c) (pa_cons (pe_ix ix_tup (pv 0) pe_int (fun _ _ => rfl)) (pa_cons (pe_callTy call_list_of (by rfl) L.lst (by decide +kernel) (pa_cons (pe_ix ix_tup (pv 0) pe_int (fun _ _ => rfl)) pa_nil)) (pa_cons (pe_ix ix_tup (pv 0) pe_int (fun _ _ => rfl)) pa_nil)))))) pss_nil)
      (pss_one (ps_ret (pe_makeS (E := fun _ => E0) kS.M kS.ok hr (by rfl) Gt.gS kS.bd (fun σ pins H s e s' I c => passF pins σ H s e s' I c) (pa_cons (pe_lc (own := [("_law_part", 1)]) (g := (gName 1)) (tt := tYes) (te := (tTup (tCons (tOp (rIxT K) (tVar 1) (tC (.int 0))) (tCons (tOp (rIxT K) (tVar 1) (tC (.int 1))) tNil)))) rfl scMade.nd (pi_list (pe_ix ix_tup (pv 0) pe_int (fun _ _ => rfl))) (blkOk_by (own := [("_law_part", 1)]) (N := nMade) (sc := defScope lMade) (by decide +kernel)) (fun _ _ _ _ _ => (pg_name (i := 1) scMade.nd rfl (.inl rfl))) (fun _ _ _ _ _ => pts_nil) (fun _ _ _ _ _ => (pe_tup (pa_cons (by exact pe_ix ix_tup (pv 1) pe_int (fun _ _ => rfl)) (pa_cons (by exact pe_ix ix_tup (pv 1) pe_int (fun _ _ => rfl)) pa_nil))))) (pa_cons (pe_ix ix_tup (pv 0) pe_int (fun _ _ => rfl)) pa_nil))))))), ?_⟩
    refine ⟨_, rfl, t, _, 0, _, rfl, rfl, SqT.of hT.at_, rfl, rfl, _, rfl, ?_⟩
    have k3 := hT.good.k3
    rw [kind_all k3]
    have fewK : ks.length ≤ 8 := by
      have := hT.good.few
      rwa [List.length_map] at this
    have each : ∀ q ∈ ks, q.2.2.length ≤ 1000 := fun q m => by
      have := ((hT.good.each q.2 (List.mem_map.mpr ⟨q, m, rfl⟩)).2).few
      omega
    by_cases k0 : κ = 0
    · refine iteTe (decide_eq_true k0) ?_
      subst k0
      refine ⟨_, rfl, t, _, 1, _, rfl, rfl, SqT.of hT.at_, rfl, _, rfl, t, _, 2, _, rfl, rfl, SqT.of hT.at_, rfl, pl, _, rfl, .inl (SqL.of hT.cs.lst), fun q nq r dx nx nd ne => ?_⟩
      refine ⟨r, dx, CR, [hue], q, ks, rfl, kR.T, upd_same, ⟨made_same nx nd _ _ upd_same, fun p m => made_same nx nd _ _ (same_upd nq _ _ (hT.cs.each p m))⟩, by show 1 ≤ 1000; decide, by omega, each, fun p e => (by rw [hT.good.faultR] at e; cases e), fun _ H' l ms sb nl hr' hc' pm od => ⟨rfl, ?_⟩⟩
      exact k r [hue] _ H' ((same_upd nq).trans (made_but nx nd sb)) ⟨dx, _, l, ms, hr', rfl, rfl, fun n => absurd rfl n, low2, hc', rfl⟩ ⟨od, .inl ⟨by decide, rfl, pm⟩⟩
    · refine iteFe (decide_eq_false k0) ?_
      refine ⟨_, rfl, t, _, 0, _, rfl, rfl, SqT.of hT.at_, rfl, rfl, _, rfl, ?_⟩
      rw [kind_count k3]
      by_cases k1 : κ = 1
      · refine iteTe (decide_eq_true k1) ?_
        subst k1
        refine ⟨_, rfl, t, _, 1, _, rfl, rfl, SqT.of hT.at_, rfl, _, rfl, t, _, 2, _, rfl, rfl, SqT.of hT.at_, rfl, pl, _, rfl, .inl (SqL.of hT.cs.lst), fun q nq => ?_⟩
        refine ⟨_, rfl, t, _, 3, _, rfl, rfl, SqT.of (same_upd nq _ _ hT.at_), rfl, fun r dx nx nd ne => ?_⟩
        refine ⟨r, dx, [hue], q, ks, need, rfl, upd_same, ⟨made_same nx nd _ _ upd_same, fun p m => made_same nx nd _ _ (same_upd nq _ _ (hT.cs.each p m))⟩, by show 1 ≤ 1000; decide, by omega, each, fun p e => (by rw [hT.good.faultC] at e; cases e), fun _ H' l ms sb nl hr' hc' pm od => ⟨rfl, ?_⟩⟩
        exact k r [hue] _ H' ((same_upd nq).trans (made_but nx nd sb)) ⟨dx, _, l, ms, hr', rfl, rfl, fun _ => rfl, low3, hc', rfl⟩ ⟨od, .inl ⟨by decide, rfl, pm⟩⟩
      · have k2 : κ = 2 := by omega
        subst k2
        refine iteFe (decide_eq_false k1) ?_
        refine ⟨_, rfl, t, _, 2, _, rfl, rfl, SqT.of hT.at_, rfl, pl, rfl, ⟨_, SqL.of hT.cs.lst⟩, fun D nD => lc_list (K := K) (a := pl) (xs := refC ks) (fun i G => ∃ ns : List (Addr × (Int × Int)), Same H G ∧ G D = some (.lst (ns.map fun q => V.ref q.1)) ∧ (∀ q ∈ ns, G q.1 = some (PairO q.2)) ∧ ns.map (·.2) = (ks.take i).map fun q => q.2.1) ⟨[], same_upd nD, upd_same, (fun p hp => nomatch hp), rfl⟩ (fun i G _ ⟨ms, sm, _⟩ => SqL.of (sm _ _ hT.cs.lst)) ?_ ?_⟩
        · rintro i x G hx ⟨ns, sm, hD, hns, en⟩
          obtain ⟨t1, c, hi, rfl⟩ := refC_at hx
          have htc := sm _ _ (hT.cs.each _ (List.mem_of_getElem? hi))
          refine ⟨rfl, tyes (iteT ⟨_, rfl, t1, _, 0, _, rfl, rfl, SqT.of htc, rfl, _, rfl, t1, _, 1, _, rfl, rfl, SqT.of htc, rfl, by show 2 ≤ sizeLine; decide, fun T nT => ?_⟩)⟩
          obtain ⟨a1, ns', a2, a3, a4, a5⟩ := pairMore (by omega) nD sm hD hns en hi (Same.refl G) nT
          exact ⟨_, same_upd nT _ _ hD, a1, ns', a2, a3, a4, a5⟩
        · rintro G ⟨ns, sm, hD, hns, en⟩
          rw [show (refC ks).length = ks.length from List.length_map _, List.take_of_length_le (Nat.le_refl _)] at en
          have ln : ns.length = ks.length := by
            have := congrArg List.length en
            rwa [List.length_map, List.length_map] at this
          have ew : (ns.map fun q => wideC q.2) = (ks.map (·.2)).map fun c => wideC c.1 := by
            rw [List.map_map]
            have := congrArg (List.map wideC) en
            rw [List.map_map, List.map_map] at this
            exact this
          have hTG := hT.same sm
          refine ⟨_, rfl, t, _, 3, _, rfl, rfl, SqT.of hTG.at_, rfl, fun r dx nx nd ne => ?_⟩
          refine ⟨r, dx, D, ns, need, rfl, upd_same, ⟨made_same nx nd _ _ hD, fun q m => made_same nx nd _ _ (hns q m)⟩, by omega, fun p e => (by rw [ew, hT.good.faultS] at e; cases e), fun _ H' l ms sb nl hr' hc' pm od => ⟨rfl, ?_⟩⟩
          rw [ew, List.map_map] at pm
          exact k r [] _ H' (sm.trans (made_but nx nd sb)) ⟨dx, _, l, ms, hr', rfl, rfl, fun _ => rfl, low3s, hc', rfl⟩ ⟨od, .inr ⟨rfl, rfl, pm⟩⟩
end
end Pm
namespace Pm
open PySem PySem.Spec PyProof.Rows L2 SX NdefX
/-- two statements, what holds between them in words -/
theorem joinW {tA tR : TS} {D : Ends} {σ : L2.St} {H : Hp} (I : L2.St → Hp → Prop) (hA : ∀ nx : L2.St → Hp → Prop, (∀ σ' H', I σ' H' → nx σ' H') → tA { D with nx := nx } σ H) (hR : ∀ σ' H', I σ' H' → tR D σ' H') : tSeq tA tR D σ H := hA _ hR
theorem setG {i : Nat} {x : V} {σ : L2.St} {H : Hp} {Q : L2.St → Hp → Prop} (h : Q (σ.set i (some x)) H) : gName i x σ H Q := h
theorem fn_or {P : Program} {w : World} {K : PySem.W.Frag} {mg : Str → Option Value} {base : Heap} {CX : CXT} {k : Nat} {f : Addr} {fd : FuncData} {ps : List Str} {sp : Nat → Sp} {n : Nat} (F : ∀ i, i < n → FnOk P w K mg base CX k f fd ps (sp i)) : FnOk P w K mg base CX k f fd ps (fun vs H Q E => ∃ i, i < n ∧ sp i vs H Q E) :=
  ⟨fun vs H Q E ⟨i, hi, h⟩ => (F i hi).len _ _ _ _ h, fun A outer s H args us vs Q E hr he hb hv ⟨i, hi, h⟩ => (F i hi).run A outer s H args us vs Q E hr he hb hv h⟩
def spAg3 (CR CC CS : Addr) : Sp := fun vs H Q E => ∃ κ, κ < 3 ∧ spAgree (clsOf CR CC CS κ) κ vs H Q E
/-! ### what stays when one list changes -/
theorem SameBut.tup {p a : Addr} {H H' : Hp} {xs ys : List V} (s : SameBut p H H') (hp : H p = some (.lst xs)) (h : H a = some (.tup ys)) : H' a = some (.tup ys) := s a _ (fun e => by rw [e, hp] at h; cases h) h
theorem CndsAt.but {p a : Addr} {H H' : Hp} {xs : List V} {ks : List (Addr × Cnd)} (h : CndsAt H a ks) (s : SameBut p H H') (hp : H p = some (.lst xs)) (ne : a ≠ p) : CndsAt H' a ks := ⟨s a _ ne h.lst, fun q m => s.tup hp (h.each q m)⟩
theorem RuleT.but {p : Addr} {H H' : Hp} {xs : List V} {t pl : Addr} {κ hue : Nat} {ks : List (Addr × Cnd)} {need : Int} (h : RuleT H t pl κ hue ks need) (s : SameBut p H H') (hp : H p = some (.lst xs)) (ne : pl ≠ p) : RuleT H' t pl κ hue ks need := ⟨s.tup hp h.at_, h.cs.but s hp ne, h.good⟩
/-- a rule whose list of conditions stands at l -/
def RuleL (C : Addr) (H : Hp) (r : Addr) (κ : Nat) (st : List Nat) (need : Int) (ms : List Cnd) (l : Addr) : Prop := ∃ dx fs ks, H r = some (.ins C dx fs) ∧ fs.lookup ("stone" : Str) = some (.str (S st)) ∧ fs.lookup ("_conditions" : Str) = some (.ref l) ∧ (κ ≠ 0 → fs.lookup ("need" : Str) = some (.int need)) ∧
  (∀ m ∈ lows, fs.lookup m = none) ∧ CndsAt H l ks ∧ ks.map (·.2) = ms
theorem RuleL.at {C : Addr} {H : Hp} {r l : Addr} {κ : Nat} {st : List Nat} {need : Int} {ms : List Cnd} (h : RuleL C H r κ st need ms l) : RuleAt C H r κ st need ms := by
  obtain ⟨dx, fs, ks, a, b, c, d, e, f, g⟩ := h
  exact ⟨dx, fs, l, ks, a, b, c, d, e, f, g⟩
theorem RuleL.same {C : Addr} {H H' : Hp} {r l : Addr} {κ : Nat} {st : List Nat} {need : Int} {ms : List Cnd} (h : RuleL C H r κ st need ms l) (s : Same H H') : RuleL C H' r κ st need ms l := by
  obtain ⟨dx, fs, ks, a, b, c, d, e, f, g⟩ := h
  exact ⟨dx, fs, ks, s _ _ a, b, c, d, e, f.same s, g⟩
theorem RuleL.but {p : Addr} {xs : List V} {C : Addr} {H H' : Hp} {r l : Addr} {κ : Nat} {st : List Nat} {need : Int} {ms : List Cnd} (h : RuleL C H r κ st need ms l) (s : SameBut p H H') (hp : H p = some (.lst xs)) (ne : l ≠ p) : RuleL C H' r κ st need ms l := by
  obtain ⟨dx, fs, ks, a, b, c, d, e, f, g⟩ := h
  exact ⟨dx, fs, ks, s _ _ (fun q => by rw [q, hp] at a; cases a) a, b, c, d, e, f.but s hp ne, g⟩
theorem dpa_cnds {K : PySem.W.Frag} {H : Hp} : ∀ {ks : List (Addr × Cnd)}, (∀ q ∈ ks, H q.1 = some (CondO q.2)) → DpAll K H (refC ks) ((ks.map (·.2)).map dN)
  | [], _ => .nil
  | q :: ks, e => .cons (.tup (SqT.of (e q List.mem_cons_self)) (.cons (.int _) (.cons (.int _) (.cons (.str _) .nil)))) (dpa_cnds fun q' m => e q' (List.mem_cons_of_mem _ m))
theorem dpa_pairs {K : PySem.W.Frag} {H : Hp} : ∀ {ps : List (Addr × (Int × Int))}, (∀ q ∈ ps, H q.1 = some (PairO q.2)) → DpAll K H (ps.map fun q => V.ref q.1) ((ps.map (·.2)).map dP)
  | [], _ => .nil
  | q :: ps, e => .cons (.tup (SqT.of (e q List.mem_cons_self)) (.cons (.int _) (.cons (.int _) .nil))) (dpa_pairs fun q' m => e q' (List.mem_cons_of_mem _ m))
def huesL (c d e : Nat) : Rows := [[c], [], [65], [d], [97, 98], [35], [46], [e], [48]]
theorem hues_low {c d e : Nat} (hc : Let c) (hd : Let d) (he : Let e) : ∀ z ∈ huesL c d e, z.length ≤ 1000 ∧ ∀ x ∈ z, x < 256 := by
  unfold Let at hc hd he
  intro z m
  simp only [huesL, List.mem_cons, List.not_mem_nil, or_false] at m
  rcases m with rfl | rfl | rfl | rfl | rfl | rfl | rfl | rfl | rfl <;> refine ⟨by simp, fun x hx => ?_⟩ <;> simp at hx <;> omega
theorem hues_V {c d e : Nat} : [V.str ⟨#[c]⟩, .str "", .str "A", .str ⟨#[d]⟩, .str "ab", .str "#", .str ".", .str ⟨#[e]⟩, .str "0"] = rowsV (huesL c d e) := by rfl
section
variable {P : Program} {w : World} {K : PySem.W.Frag} {mg : Str → Option Value} {base : Heap} {C CI CW CE CR CC CS D : Addr} {κ : Nat}
def spLaw (K : PySem.W.Frag) : Sp := fun vs H Q _ => ∃ (a : Addr) (ns : List Int), vs = [.ref a] ∧ SqL K H a (ns.map V.int) ∧ ns.length ≤ 63 ∧ ∀ H', Q (.bl true) H'
abbrev nLaw : List Str := ["_law_script", "_law_bag_here", "_law_palette_here", "_law_rule_here", "_law_hues", "_law_parts_here", "_law_made_here", "_law_part", "_law_kept", "_law_other"]
theorem scLaw : FnScope nLaw ["_law_script"] (defScope lLaw) := ⟨rfl, rfl, rfl, by decide +kernel, rfl, by decide +kernel, by decide +kernel⟩
theorem ok_law {f fR fC fS a1 a2 a3 a4 a5 : Addr} {fd dR dC dS b1 b2 b3 b4 b5 : FuncData} (F : Fun K "law" "law" lLaw f fd) (L : LTxt K mg) (Gt : GTx mg CR CC CS) (kR : Ctor P w K mg base CR 4 ["self", "stone", "conditions"] (spRuleInit CI K) fR dR)
    (kC : Ctor P w K mg base CC 5 ["self", "stone", "conditions", "need"] (spCountInit CI CC K) fC dC) (kS : Ctor P w K mg base CS 5 ["self", "places", "need"] (spSameInit CI CS K) fS dS)
    (cBag : Cl P w K mg base CX0 1 "_law_bag" ["_law_script"] (spBag K) a1 b1) (cPal : Cl P w K mg base CX0 2 "_law_palette" ["_law_bag_here"] spPal a2 b2) (cRule : Cl P w K mg base CX0 4 "_law_rule" ["_law_bag_here", "_law_palette_here"] spRule a3 b3)
    (cMade : Cl P w K mg base CX0 7 "_law_made" ["_law_rule_here"] (spMade CR CC CS) a4 b4) (cAg : Cl P w K mg base CX0 5 "_law_agree" ["_law_made_here", "_law_rule_here", "_law_hues"] (spAg3 CR CC CS) a5 b5) :
    FnOk P w K mg base CX0 8 f fd ["_law_script"] (spLaw K) := by
  refine F.ok scLaw (fun vs H Q E h => ?_) (fun cdv A outer s H vs Q E hr h => ?_)
  · obtain ⟨a, ns, rfl, _⟩ := h
    rfl
  · obtain ⟨a, ns, rfl, ha, few, k⟩ := h
    have hr1 : Room 1 _ := hr.mono (by decide)
    have hr2 : Room 2 _ := hr.mono (by decide)
    have hr4 : Room 4 _ := hr.mono (by decide)
    have hr5 : Room 5 _ := hr.mono (by decide)
    have hr6 : Room 6 _ := hr.mono (by decide)
    refine ⟨_, (pss_cons (ps_set (i := 1) scLaw.nd rfl (.inl rfl) (pe_call cBag.ok hr1 (by rfl) cBag.gl cBag.kp cBag.bd .nil pass0 (pa_cons (pv 0) pa_nil)))
      (pss_cons (ps_set (i := 2) scLaw.nd rfl (.inl rfl) (pe_call cPal.ok hr2 (by rfl) cPal.gl cPal.kp cPal.bd .nil pass0 (pa_cons (pv 1) pa_nil)))
      (pss_cons (ps_set (i := 3) scLaw.nd rfl (.inl rfl) (pe_call cRule.ok hr4 (by rfl) cRule.gl cRule.kp cRule.bd .nil pass0 (pa_cons (pv 1) (pa_cons (pv 2) pa_nil))))
      (pss_cons (ps_set (i := 4) scLaw.nd rfl (.inl rfl) (pe_lst (pa_cons (pe_ix ix_str (pv 2) pe_int (fun _ _ => rfl)) (pa_cons pe_str (pa_cons pe_str (pa_cons (pe_ix ix_str (pv 2) pe_int (fun _ _ => rfl)) (pa_cons pe_str (pa_cons pe_str (pa_cons pe_str (pa_cons (pe_ix ix_str (pv 2) pe_int (fun _ _ => rfl)) (pa_cons pe_str pa_nil)))))))))))
      (pss_cons (ps_set (i := 5) scLaw.nd rfl (.inl rfl) (pe_callTy call_list_of (by rfl) L.lst (by decide +kernel) (pa_cons (pe_ix ix_tup (pv 3) pe_int (fun _ _ => rfl)) pa_nil)))
      (pss_cons (ps_if (pt_cmpR op_eq (pe_ix ix_tup (pv 3) pe_int (fun _ _ => rfl)) pe_str (nomark _)) (pss_one (ps_set (i := 6) scLaw.nd rfl (.inl rfl) (pe_makeS (E := fun _ => E0) kR.M kR.ok hr5 (by rfl) Gt.gR kR.bd (fun σ pins H s e s' I c => passF pins σ H s e s' I c) (pa_cons (pe_ix ix_tup (pv 3) pe_int (fun _ _ => rfl)) (pa_cons (pv 5) pa_nil))))) (pss_one (ps_if (pt_cmpR op_eq (pe_ix ix_tup (pv 3) pe_int (fun _ _ => rfl)) pe_str (nomark _)) (pss_one (ps_set (i := 6) scLaw.nd rfl (.inl rfl) (pe_makeS (E := fun _ => E0) kC.M kC.ok hr6 (by rfl) Gt.gC kC.bd (fun σ pins H s e s' I c => passF pins σ H s e s' I c) (pa_cons (pe_ix ix_tup (pv 3) pe_int (fun _ _ => rfl)) (pa_cons (pv 5) (pa_cons (pe_ix ix_tup (pv 3) pe_int (fun _ _ => rfl)) pa_nil)))))) (pss_cons (ps_setLc (i := 5) (own := [("_law_part", 7)]) (g := (gName 7)) (tt := tYes) (te := (tTup (tCons (tOp (rIxT K) (tVar 7) (tC (.int 0))) (tCons (tOp (rIxT K) (tVar 7) (tC (.int 1))) tNil)))) rfl scLaw.nd rfl rfl (sw_true rfl rfl rfl (by decide +kernel)) (pi_list (pv 5)) (blkOk_by (own := [("_law_part", 7)]) (N := nLaw) (sc := defScope lLaw) (by decide +kernel)) (fun _ _ _ _ _ => (pg_name (i := 7) scLaw.nd rfl (.inl rfl))) (fun _ _ _ _ _ => pts_nil) (fun _ _ _ _ _ => (pe_tup (pa_cons (by exact pe_ix ix_tup (pv 7) pe_int (fun _ _ => rfl)) (pa_cons (by exact pe_ix ix_tup (pv 7) pe_int (fun _ _ => rfl)) pa_nil)))))
          (pss_one (ps_set (i := 6) scLaw.nd rfl (.inl rfl) (pe_makeS (E := fun _ => E0) kS.M kS.ok hr6 (by rfl) Gt.gS kS.bd (fun σ pins H s e s' I c => passF pins σ H s e s' I c) (pa_cons (pv 5) (pa_cons (pe_ix ix_tup (pv 3) pe_int (fun _ _ => rfl)) pa_nil)))))))))
      (pss_cons (ps_set (i := 8) scLaw.nd rfl (.inl rfl) (pe_callTy call_list_of (by rfl) L.lst (by decide +kernel) (pa_cons (pv 5) pa_nil)))
      (pss_cons (ps_if (PW.pt (pw_or (pt_not (pt_val (pe_call cAg.ok hr5 (by rfl) cAg.gl cAg.kp cAg.bd .nil pass0 (pa_cons (pv 6) (pa_cons (pv 3) (pa_cons (pv 4) pa_nil)))))) (pw_or1 (pt_cmpR (op_neD hr.units) (pv 5) (pv 8) (nomark _))))) (pss_one (ps_ret pe_bl)) pss_nil)
      (pss_cons (ps_expr (pe_bm PySem.F.plainAttrs_list PySem.F.slot_list_append PySem.F.type_list_append mt_append (pv 5) (pa_cons (pe_tup (pa_cons pe_int (pa_cons pe_int (pa_cons pe_str pa_nil)))) pa_nil)))
      (pss_cons (ps_expr (pe_bm0 PySem.F.plainAttrs_list PySem.F.slot_list_reverse PySem.F.type_list_reverse mt_reverse (pv 5)))
      (pss_cons (ps_set (i := 9) scLaw.nd rfl (.inl rfl) (pe_call cRule.ok hr4 (by rfl) cRule.gl cRule.kp cRule.bd .nil pass0 (pa_cons (pv 1) (pa_cons (pv 2) pa_nil))))
      (pss_one (ps_ret (pe_and (pe_call cAg.ok hr5 (by rfl) cAg.gl cAg.kp cAg.bd .nil pass0 (pa_cons (pe_call cMade.ok hr (by rfl) cMade.gl cMade.kp cMade.bd .nil pass0 (pa_cons (pv 9) pa_nil)) (pa_cons (pv 9) (pa_cons (pv 4) pa_nil)))) (pe_one (pe_call cAg.ok hr5 (by rfl) cAg.gl cAg.kp cAg.bd .nil pass0 (pa_cons (pv 6) (pa_cons (pv 3) (pa_cons (pe_revL (pv 4)) pa_nil))))))))))))))))))), ?_⟩
    refine ⟨_, rfl, a, ns, rfl, ha, few, fun b l H1 s1 nb hb => ?_⟩
    refine ⟨_, rfl, b, l, rfl, hb, fun z H2 hz u2 b2 => ?_⟩
    have hz0 := hz
    have lz : (S z).length ≤ sizeLine := by rw [len_S, hz.len]; exact small_line (by decide)
    obtain ⟨c, d, e, rfl, lc, ld, le⟩ := hz
    refine ⟨_, rfl, _, rfl, b, l, _, rfl, b2, hz0, fun t pl κ hue ks need H3 s3 b3 hT tb pb => ?_⟩
    refine ⟨_, rfl, _, 0, c, rfl, rfl, lz, rfl, _, rfl, _, 1, d, rfl, rfl, lz, rfl, _, rfl, _, 2, e, rfl, rfl, lz, rfl, by show 9 ≤ sizeLine; decide, fun hl nhl => ?_⟩
    rw [hues_V]
    have s34 := same_upd (o := .lst (rowsV (huesL c d e))) nhl
    have hT4 := hT.same s34
    have b4 := bag_sb b3 s34
    have hh4 : upd H3 hl (.lst (rowsV (huesL c d e))) hl = some (.lst (rowsV (huesL c d e))) := upd_same
    have hlb : hl ≠ b := fun e => by
      obtain ⟨xs, e2⟩ := bag_b b3
      rw [e, e2] at nhl
      cases nhl
    clear s1 nb hb u2 b2 s3
    generalize upd H3 hl (.lst (rowsV (huesL c d e))) = H4 at s34 hT4 b4 hh4 ⊢
    refine ⟨_, rfl, t, _, 2, _, rfl, rfl, SqT.of hT4.at_, rfl, pl, _, rfl, .inl (SqL.of hT4.cs.lst), fun q nq => ?_⟩
    have k3 := hT4.good.k3
    have fewK : ks.length ≤ 8 := by
      have := hT4.good.few
      rwa [List.length_map] at this
    have each : ∀ q ∈ ks, q.2.2.length ≤ 1000 := fun q m => by
      have := ((hT4.good.each q.2 (List.mem_map.mpr ⟨q, m, rfl⟩)).2).few
      omega
    have lk : (refC ks).length = ks.length := List.length_map _
    have s45 := same_upd (o := .lst (refC ks)) nq
    have hq5 : upd H4 q (.lst (refC ks)) q = some (.lst (refC ks)) := upd_same
    have hT5 := hT4.same s45
    have qb : q ≠ b := fun e => by
      obtain ⟨xs, e2⟩ := bag_b b4
      rw [e, e2] at nq
      cases nq
    have ql : q ≠ l := fun e => by
      obtain ⟨xs, e2⟩ := bag_l b4
      rw [e, e2] at nq
      cases nq
    have b5 := bag_sb b4 s45
    have qh : q ≠ hl := fun e => by
      rw [e, hh4] at nq
      cases nq
    have qp : pl ≠ q := ne_of_none hT4.cs.lst nq
    have hh5 := s45 _ _ hh4
    clear hT hT4
    generalize upd H4 q (.lst (refC ks)) = H5 at s45 hq5 hT5 b5 hh5 ⊢
    have hc5 : CndsAt H5 q ks := ⟨hq5, hT5.cs.each⟩
    refine setG ?_
    dsimp only
    refine joinW (fun σ' H' => ∃ p r y xs ds st ms lr, σ' = [some (.ref a), some (.ref b), some (.str (S [c, d, e])), some (.ref t), some (.ref hl), some (.ref p), some (.ref r), y, none, none] ∧ Same H5 H' ∧ RuleL (clsOf CR CC CS κ) H' r κ st need ms lr ∧ Made κ hue st (ks.map (·.2)) ms ∧ H' p = some (.lst xs) ∧ (∀ G, Same H' G → DpAll K G xs ds) ∧ SeqAt.shaped (.list ds) = true ∧ xs.length ≤ 8 ∧
      p ≠ b ∧ p ≠ l ∧ p ≠ hl ∧ pl ≠ p ∧ lr ≠ p ∧ lr ≠ b) (fun nx hnx => ?_) ?_
    · refine ⟨_, rfl, t, _, 0, _, rfl, rfl, SqT.of hT5.at_, rfl, rfl, _, rfl, ?_⟩
      rw [kind_all k3]
      by_cases k0 : κ = 0
      · refine iteTe (decide_eq_true k0) ?_
        subst k0
        refine ⟨_, rfl, t, _, 1, _, rfl, rfl, SqT.of hT5.at_, rfl, _, rfl, fun r dx nx_ nd ne => ?_⟩
        refine ⟨r, dx, CR, [hue], q, ks, rfl, kR.T, upd_same, hc5.same (made_same nx_ nd), by show 1 ≤ 1000; decide, by omega, each, fun p e => (by rw [hT5.good.faultR] at e; cases e), fun _ H' lr ms sb nl hr' hc' pm od => ⟨rfl, ?_⟩⟩
        have s6 := made_but nx_ nd sb
        have nl5 := back (made_same nx_ nd) nl
        exact hnx _ _ ⟨q, r, _, _, _, [hue], _, lr, rfl, s6, ⟨dx, _, ms, hr', rfl, rfl, fun n => absurd rfl n, low2, hc', rfl⟩, ⟨od, .inl ⟨by decide, rfl, pm⟩⟩, s6 _ _ hq5, fun G sG => dpa_cnds (hc5.same (s6.trans sG)).each, dNs_shaped hT5.good.low, by omega, qb, ql, qh, qp, (ne_of_none hq5 nl5).symm, fun e => by
          obtain ⟨xs, e2⟩ := bag_b b5
          rw [e, e2] at nl5
          cases nl5⟩
      · refine iteFe (decide_eq_false k0) ?_
        refine ⟨_, rfl, t, _, 0, _, rfl, rfl, SqT.of hT5.at_, rfl, rfl, _, rfl, ?_⟩
        rw [kind_count k3]
        by_cases k1 : κ = 1
        · refine iteTe (decide_eq_true k1) ?_
          subst k1
          refine ⟨_, rfl, t, _, 1, _, rfl, rfl, SqT.of hT5.at_, rfl, _, rfl, _, rfl, t, _, 3, _, rfl, rfl, SqT.of hT5.at_, rfl, fun r dx nx_ nd ne => ?_⟩
          refine ⟨r, dx, [hue], q, ks, need, rfl, upd_same, hc5.same (made_same nx_ nd), by show 1 ≤ 1000; decide, by omega, each, fun p e => (by rw [hT5.good.faultC] at e; cases e), fun _ H' lr ms sb nl hr' hc' pm od => ⟨rfl, ?_⟩⟩
          have s6 := made_but nx_ nd sb
          have nl5 := back (made_same nx_ nd) nl
          exact hnx _ _ ⟨q, r, _, _, _, [hue], _, lr, rfl, s6, ⟨dx, _, ms, hr', rfl, rfl, fun _ => rfl, low3, hc', rfl⟩, ⟨od, .inl ⟨by decide, rfl, pm⟩⟩, s6 _ _ hq5, fun G sG => dpa_cnds (hc5.same (s6.trans sG)).each, dNs_shaped hT5.good.low, by omega, qb, ql, qh, qp, (ne_of_none hq5 nl5).symm, fun e => by
            obtain ⟨xs, e2⟩ := bag_b b5
            rw [e, e2] at nl5
            cases nl5⟩
        · have k2 : κ = 2 := by omega
          subst k2
          refine iteFe (decide_eq_false k1) ?_
          refine ⟨_, rfl, q, rfl, ⟨_, SqL.of hq5⟩, fun D nD => lc_list (K := K) (a := q) (xs := refC ks) (fun i G => ∃ ns : List (Addr × (Int × Int)), Same H5 G ∧ G D = some (.lst (ns.map fun q => V.ref q.1)) ∧ (∀ q ∈ ns, G q.1 = some (PairO q.2)) ∧ ns.map (·.2) = (ks.take i).map fun q => q.2.1) ⟨[], same_upd nD, upd_same, (fun p hp => nomatch hp), rfl⟩ (fun i G _ ⟨ms, sm, _⟩ => SqL.of (sm _ _ hq5)) ?_ ?_⟩
          · rintro i x G hx ⟨ns, sm, hD, hns, en⟩
            obtain ⟨t1, c, hi, rfl⟩ := refC_at hx
            have htc := sm _ _ (hc5.each _ (List.mem_of_getElem? hi))
            refine ⟨rfl, tyes (iteT ⟨_, rfl, t1, _, 0, _, rfl, rfl, SqT.of htc, rfl, _, rfl, t1, _, 1, _, rfl, rfl, SqT.of htc, rfl, by show 2 ≤ sizeLine; decide, fun T nT => ?_⟩)⟩
            obtain ⟨a1, ns', a2, a3, a4, a5⟩ := pairMore (by omega) nD sm hD hns en hi (Same.refl G) nT
            exact ⟨_, same_upd nT _ _ hD, a1, ns', a2, a3, a4, a5⟩
          · rintro G ⟨ns, sm, hD, hns, en⟩
            rw [show (refC ks).length = ks.length from List.length_map _, List.take_of_length_le (Nat.le_refl _)] at en
            have ln : ns.length = ks.length := by
              have := congrArg List.length en
              rwa [List.length_map, List.length_map] at this
            have ew : (ns.map fun q => wideC q.2) = (ks.map (·.2)).map fun c => wideC c.1 := by
              rw [List.map_map]
              have := congrArg (List.map wideC) en
              rw [List.map_map, List.map_map] at this
              exact this
            have hTG := hT5.same sm
            refine ⟨_, rfl, _, rfl, t, _, 3, _, rfl, rfl, SqT.of hTG.at_, rfl, fun r dx nx_ nd ne => ?_⟩
            refine ⟨r, dx, D, ns, need, rfl, upd_same, ⟨made_same nx_ nd _ _ hD, fun q m => made_same nx_ nd _ _ (hns q m)⟩, by omega, fun p e => (by rw [ew, hT5.good.faultS] at e; cases e), fun _ H' lr ms sb nl hr' hc' pm od => ⟨rfl, ?_⟩⟩
            rw [ew, List.map_map] at pm
            have s6 := made_but nx_ nd sb
            have nl5 := back (made_same nx_ nd) nl
            have bG := bag_sb b5 sm
            have ne5 : ∀ {x : Addr} {o : HO}, H5 x = some o → D ≠ x := fun h e => by
              rw [← e, nD] at h
              cases h
            obtain ⟨xb, hxb⟩ := bag_b b5
            obtain ⟨xl, hxl⟩ := bag_l b5
            exact hnx _ _ ⟨D, r, _, _, _, [], _, lr, rfl, sm.trans s6, ⟨dx, _, ms, hr', rfl, rfl, fun _ => rfl, low3s, hc', rfl⟩, ⟨od, .inr ⟨rfl, rfl, pm⟩⟩, s6 _ _ hD, fun G' sG => dpa_pairs fun q m => sG _ _ (s6 _ _ (hns q m)), dPs_shaped _, by rw [List.length_map]; omega, ne5 hxb, ne5 hxl, ne5 hh5, (ne5 hT5.cs.lst).symm, (ne_of_none hD nl5).symm, fun e => by
              obtain ⟨xs, e2⟩ := bag_b bG
              rw [e, e2] at nl5
              cases nl5⟩
    · rintro σ' H6 ⟨p, r, y, xs, ds, st, ms, lr, rfl, s56, hR, hM, hp, dp, sh, fx, pb', pl', ph, pp, lp, lb⟩
      have hT6 := hT5.same s56
      have hh6 := s56 _ _ hh5
      have b6 := bag_sb b5 s56
      refine ⟨_, rfl, p, xs, rfl, .inl (SqL.of hp), fun kq nk => ?_⟩
      have s67 := same_upd (o := .lst xs) nk
      refine ⟨_, rfl, _, rfl, _, rfl, κ, k3, r, t, hl, pl, hue, ks, need, _, st, ms, rfl, (hR.same s67).at, hT6.same s67, hM, s67 _ _ hh6, hues_low lc ld le, fun H8 s8 => ⟨_, rfl, iteF ?_⟩⟩
      have s68 := s67.trans s8
      refine ⟨_, rfl, _, rfl, .list ds, .list ds, .lst (SqL.of (s68 _ _ hp)) (dp _ s68), .lst (SqL.of (s8 _ _ upd_same)) (dp _ s68), sh, sh, _, rfl, iteFe (eqD sh) ?_⟩
      have hR8 := hR.same s68
      have hT8 := hT6.same s68
      have hp8 := s68 _ _ hp
      have hh8 := s68 _ _ hh6
      have b8 := bag_sb b6 s68
      clear s67 s8 s68 s45 s56 hT5 hT6 hh5 hh6 b5 b6 hp nk dp b3 b4 hh4
      refine ⟨_, rfl, .inl ⟨rfl, _, SqL.of hp8⟩, by show 3 ≤ sizeLine; decide, fun T' nT => ⟨p, _, _, rfl, rfl, same_upd nT _ _ hp8, small1000 (by omega), ?_⟩⟩
      refine ⟨_, rfl, .inl ⟨rfl, _, SqL.of upd_same⟩, p, _, rfl, rfl, upd_same, ?_⟩
      have sb9 : SameBut p H8 (upd (upd (upd H8 T' (.tup [.int 1, .int 1, .str "z"])) p (.lst (xs ++ [V.ref T']))) p (.lst (xs ++ [V.ref T']).reverse)) := fun a o ne h => by
        rw [upd_ne ne, upd_ne ne]
        exact same_upd nT _ _ h
      have b9 : BagL (upd (upd (upd H8 T' (.tup [.int 1, .int 1, .str "z"])) p (.lst (xs ++ [V.ref T']))) p (.lst (xs ++ [V.ref T']).reverse)) b l := bag_ne (bag_ne (bag_upd b8 nT) pb' pl') pb' pl'
      generalize upd (upd (upd H8 T' (.tup [.int 1, .int 1, .str "z"])) p (.lst (xs ++ [V.ref T']))) p (.lst (xs ++ [V.ref T']).reverse) = H9 at sb9 b9 ⊢
      have hT9 := hT8.but sb9 hp8 pp
      have hR9 := hR8.but sb9 hp8 lp
      have hh9 := sb9 _ _ ph.symm hh8
      obtain ⟨xb, hxb⟩ := bag_b b9
      refine ⟨_, rfl, _, rfl, b, l, _, rfl, b9, hz0, fun t2 pl2 κ2 hue2 ks2 need2 H11 s11 b11 hT2 tb2 pb2 => ?_⟩
      have hT11 := hT9.but s11 hxb pb
      have hR11 := hR9.but s11 hxb lb
      have hh11 := s11 _ _ hlb hh9
      refine ⟨_, rfl, t2, pl2, κ2, hue2, ks2, need2, rfl, hT2, fun r2 st2 ms2 H12 s12 hR2 hM2 => ?_⟩
      refine ⟨_, rfl, _, rfl, κ2, hT2.good.k3, r2, t2, hl, pl2, hue2, ks2, need2, _, st2, ms2, rfl, hR2, hT2.same s12, hM2, s12 _ _ hh11, hues_low lc ld le, fun H13 s13 => ⟨_, rfl, iteT ?_⟩⟩
      have s14 := s12.trans s13
      refine ⟨_, rfl, _, rfl, _, rfl, hl, _, rfl, SqL.of (s14 _ _ hh11), fun q2 nq2 => ?_⟩
      have s15 := s14.trans (same_upd (o := .lst (rowsV (huesL c d e)).reverse) nq2)
      refine ⟨κ, k3, r, t, q2, pl, hue, ks, need, (huesL c d e).reverse, st, ms, rfl, (hR11.same s15).at, hT11.same s15, hM, ?_, fun z m => hues_low lc ld le z (List.mem_reverse.mp m), fun H16 _ => k H16⟩
      rw [upd_same]
      unfold rowsV
      rw [List.map_reverse]
end
end Pm
namespace Pm
open PySem PySem.Spec PyProof.Rows L2 SX
theorem kit_cls {K : PySem.W.Frag} {D S : Addr} {cd : ClassData} {b : Bool} (ne : (D == S) = false) (c : PySem.W.clsIn K S = some cd) (t : PySem.W.typeIn K (.ref S) = some (.type "type")) (sub : PySem.W.subIn K (.ref D) (.ref S) = some b) : PySem.W.kitOne K (.ref D) (.ref S) = some b := by
  unfold PySem.W.kitOne
  rw [if_neg (by simpa using ne)]
  show (if ((PySem.W.clsIn K S).isSome && PySem.W.typeIn K (.ref S) == some (.type "type")) = true then PySem.W.subIn K (.ref D) (.ref S) else none) = some b
  rw [if_pos (by rw [c, t]; rfl), sub]
theorem kit_val {K : PySem.W.Frag} {D : Addr} (sub : PySem.W.subIn K (.ref D) (.type "ValueError") = some true) : PySem.W.kitOne K (.ref D) (.type "ValueError") = some true := by
  unfold PySem.W.kitOne
  rw [if_neg (by simp)]
  show (if PySem.W.kitMeta "ValueError" = true then PySem.W.subIn K (.ref D) (.type "ValueError") else none) = some true
  rw [if_pos (by decide +kernel), sub]
theorem exm_self {K : PySem.W.Frag} {D : Addr} (a : PySem.W.subIn K (.ref D) (.type "BaseException") = some true) (b : PySem.W.isClsIn K D = true) (c : PySem.W.typeIn K (.ref D) = some (.type "type")) (d : PySem.W.subIn K (.ref D) (.ref D) = some true) : PySem.W.exmOne K (.ref D) (.ref D) = some true := by
  have b2 : (PySem.W.clsIn K D).isSome = true := b
  show (if (PySem.W.subIn K (.ref D) (.type "BaseException") == some true) = true then _ else none) = some true
  rw [if_pos (by rw [a]; rfl)]
  show (if ((PySem.W.clsIn K D).isSome && PySem.W.typeIn K (.ref D) == some (.type "type")) = true then PySem.W.subIn K (.ref D) (.ref D) else none) = some true
  rw [if_pos (by rw [b2, c]; rfl), d]
theorem exm_cls {K : PySem.W.Frag} {D S : Addr} {b : Bool} (a : PySem.W.subIn K (.ref S) (.type "BaseException") = some true) (s1 : PySem.W.isClsIn K S = true) (c : PySem.W.typeIn K (.ref S) = some (.type "type")) (d : PySem.W.subIn K (.ref D) (.ref S) = some b) : PySem.W.exmOne K (.ref D) (.ref S) = some b := by
  have b2 : (PySem.W.clsIn K S).isSome = true := s1
  show (if (PySem.W.subIn K (.ref S) (.type "BaseException") == some true) = true then _ else none) = some b
  rw [if_pos (by rw [a]; rfl)]
  show (if ((PySem.W.clsIn K S).isSome && PySem.W.typeIn K (.ref S) == some (.type "type")) = true then PySem.W.subIn K (.ref D) (.ref S) else none) = some b
  rw [if_pos (by rw [b2, c]; rfl), d]
theorem kit_self {K : PySem.W.Frag} {C : Addr} : PySem.W.kitOne K (.ref C) (.ref C) = some true := by
  unfold PySem.W.kitOne
  rw [if_pos (beq_self_eq_true _)]
/-! ### what the top has left -/
theorem all_mk {l : PySem.W.OpenLaw} {w : World} {K : PySem.W.Frag} {h : Heap} {mg : Str → Option Value} {fa C CR CC CS fIR fLa fCo fLn fIS fLS fCoS fSl pSl fSc pSc fIC ccIC cdaIC CI fEi CW fEw CE fIs fDf fAs fPc fCk fNd fIo fBag fTake fIi fPal fOf fSg fPa fRu fSp fLy fSk fLe fMa fDu fAk fIp fAg fLaw : Addr} {cdtCR : ClassData} {cdtCC : ClassData} {cdtCS : ClassData} {restSl : List Value} {restSc : List Value} {vsIC : Array Value} {fileIC : Str} {tfIC : Tok} {nmCI qnCI : Str} {nsCI : Addr} {bsCI bmCI sbCI : List Value} {snCI : List Str} {abCI : Bool} {coCI : Option Bool} {ddCI : Option Addr} {x0CI x1CI x2CI x3CI x5CI : Option Value} {cdtCI : ClassData} {nmCW qnCW : Str} {nsCW : Addr} {bsCW bmCW sbCW : List Value} {snCW : List Str} {abCW : Bool} {coCW : Option Bool} {ddCW : Option Addr} {x0CW x1CW x2CW x3CW x5CW : Option Value} {cdtCW : ClassData} {cdtCE : ClassData} (X : K.In h) (G : h.Ns mainGlobals mg) (hfa : mg "law" = some (.ref fa))
    {odIR anIR odLa anLa odCo anCo odLn anLn odIS anIS odLS anLS odCoS anCoS odSl anSl odSc anSc odIC anIC cldIC cddIC odEi anEi odEw anEw odIs anIs odDf anDf odAs anAs odPc anPc odCk anCk odNd anNd odIo anIo odBag anBag odTake anTake odIi anIi odPal anPal odOf anOf odSg anSg odPa anPa odRu anRu odSp anSp odLy anLy odSk anSk odLe anLe odMa anMa odDu anDu odAk anAk odIp anIp odAg anAg odLaw anLaw : Option Addr}
    {slIR slLa slCo slLn slIS slLS slCoS slSl slSc slIC cslIC ccsIC slEi slEw slIs slDf slAs slPc slCk slNd slIo slBag slTake slIi slPal slOf slSg slPa slRu slSp slLy slSk slLe slMa slDu slAk slIp slAg slLaw : Array (Option Value)}
    {uHo uEd uSn uMo uRe uMc uCRK uCCK uCSK ocIR kVIR dcIR pmIR cdIR ctIR ocLa kVLa dcLa pmLa cdLa ctLa ocCo kVCo dcCo pmCo cdCo ctCo ocLn kVLn dcLn pmLn cdLn ctLn ocIS kVIS dcIS pmIS cdIS ctIS ocLS kVLS dcLS pmLS cdLS ctLS ocCoS kVCoS dcCoS pmCoS cdCoS ctCoS ocSl kVSl dcSl pmSl cdSl ctSl ocSc kVSc dcSc pmSc cdSc ctSc ocIC kVIC dcIC pmIC ctIC clIC cclIC ocEi kVEi dcEi pmEi cdEi ctEi ocEw kVEw dcEw pmEw cdEw ctEw ocIs kVIs dcIs pmIs cdIs ctIs ocDf kVDf dcDf pmDf cdDf ctDf ocAs kVAs dcAs pmAs cdAs ctAs ocPc kVPc dcPc pmPc cdPc ctPc ocCk kVCk dcCk pmCk cdCk ctCk ocNd kVNd dcNd pmNd cdNd ctNd ocIo kVIo dcIo pmIo cdIo ctIo ocBag kVBag dcBag pmBag cdBag ctBag ocTake kVTake dcTake pmTake cdTake ctTake ocIi kVIi dcIi pmIi cdIi ctIi ocPal kVPal dcPal pmPal cdPal ctPal ocOf kVOf dcOf pmOf cdOf ctOf ocSg kVSg dcSg pmSg cdSg ctSg ocPa kVPa dcPa pmPa cdPa ctPa ocRu kVRu dcRu pmRu cdRu ctRu ocSp kVSp dcSp pmSp cdSp ctSp ocLy kVLy dcLy pmLy cdLy ctLy ocSk kVSk dcSk pmSk cdSk ctSk ocLe kVLe dcLe pmLe cdLe ctLe ocMa kVMa dcMa pmMa cdMa ctMa ocDu kVDu dcDu pmDu cdDu ctDu ocAk kVAk dcAk pmAk cdAk ctAk ocIp kVIp dcIp pmIp cdIp ctIp ocAg kVAg dcAg pmAg cdAg ctAg ocLaw kVLaw dcLaw pmLaw cdLaw ctLaw : Value}
    (cn : PySem.W.specialIn K (.builtin "object.__class__") "__get__" = some (some (.builtin "getset_descriptor.__get__")))
    (ct : PySem.W.takesIn K (.builtin "object.__class__") = some true)
    (gC : PySem.W.nsIn K mainGlobals "Picture" = some (some (.ref C)))
    (rdC : PySem.W.readsIn K C (.type "type") = true)
    (gaC : PySem.W.specialIn K (.ref C) "__getattribute__" = some (some (.builtin "type.__getattribute__")))
    (aHo : PySem.W.findCls K (.ref C) (.type "type") "HOLE" = some (.val uHo))
    (rlHo : L2.RelV (.str ".") uHo)
    (aEd : PySem.W.findCls K (.ref C) (.type "type") "EDGE" = some (.val uEd))
    (rlEd : L2.RelV (.str "#") uEd)
    (aSn : PySem.W.nsIn K mainGlobals "STONES" = some (some uSn))
    (rlSn : L2.RelV (.str alphaS) uSn)
    (aMo : PySem.W.nsIn K mainGlobals "MOST" = some (some uMo))
    (rlMo : L2.RelV (.int 8) uMo)
    (aRe : PySem.W.nsIn K mainGlobals "REACH" = some (some uRe))
    (rlRe : L2.RelV (.int 3) uRe)
    (aMc : PySem.W.nsIn K mainGlobals "MOST_CONDITIONS" = some (some uMc))
    (rlMc : L2.RelV (.int 8) uMc)
    (gCR : PySem.W.nsIn K mainGlobals "Rule" = some (some (.ref CR)))
    (cxCR : PySem.W.clsIn K CR = some cdtCR)
    (tyCR : PySem.W.typeIn K (.ref CR) = some (.type "type"))
    (pgCR : PySem.W.plainGet K CR Str.empty = true)
    (hdCR : PySem.W.hasDictIn K CR = true)
    (poCR : PySem.W.plainOver K CR = true)
    (saCR : PySem.W.findIn K (.ref CR) "__setattr__" = some (some (.builtin "object.__setattr__")))
    (mkCR : PySem.W.makesIn K CR = true)
    (kpCR : PySem.W.keepIn K (.ref CR) = true)
    (nCR_stone : PySem.W.findIn K (.ref CR) "stone" = some none)
    (nCR_conditions : PySem.W.findIn K (.ref CR) "_conditions" = some none)
    (nCR_need : PySem.W.findIn K (.ref CR) "need" = some none)
    (caCR : PySem.W.findIn K (.ref CR) "__class__" = some (some (.builtin "object.__class__")))
    (cmCR : PySem.W.mroIn K CR (.type "object") = some true)
    (aCRK : PySem.W.findIn K (.ref CR) "KIND" = some (some uCRK))
    (rlCRK : L2.RelV (.str "all") uCRK)
    (ggCRK : PySem.W.specialIn K uCRK "__get__" = some none)
    (gCC : PySem.W.nsIn K mainGlobals "CountRule" = some (some (.ref CC)))
    (cxCC : PySem.W.clsIn K CC = some cdtCC)
    (tyCC : PySem.W.typeIn K (.ref CC) = some (.type "type"))
    (pgCC : PySem.W.plainGet K CC Str.empty = true)
    (hdCC : PySem.W.hasDictIn K CC = true)
    (poCC : PySem.W.plainOver K CC = true)
    (saCC : PySem.W.findIn K (.ref CC) "__setattr__" = some (some (.builtin "object.__setattr__")))
    (mkCC : PySem.W.makesIn K CC = true)
    (kpCC : PySem.W.keepIn K (.ref CC) = true)
    (nCC_stone : PySem.W.findIn K (.ref CC) "stone" = some none)
    (nCC_conditions : PySem.W.findIn K (.ref CC) "_conditions" = some none)
    (nCC_need : PySem.W.findIn K (.ref CC) "need" = some none)
    (caCC : PySem.W.findIn K (.ref CC) "__class__" = some (some (.builtin "object.__class__")))
    (cmCC : PySem.W.mroIn K CC (.type "object") = some true)
    (aCCK : PySem.W.findIn K (.ref CC) "KIND" = some (some uCCK))
    (rlCCK : L2.RelV (.str "count") uCCK)
    (ggCCK : PySem.W.specialIn K uCCK "__get__" = some none)
    (gCS : PySem.W.nsIn K mainGlobals "SameRule" = some (some (.ref CS)))
    (cxCS : PySem.W.clsIn K CS = some cdtCS)
    (tyCS : PySem.W.typeIn K (.ref CS) = some (.type "type"))
    (pgCS : PySem.W.plainGet K CS Str.empty = true)
    (hdCS : PySem.W.hasDictIn K CS = true)
    (poCS : PySem.W.plainOver K CS = true)
    (saCS : PySem.W.findIn K (.ref CS) "__setattr__" = some (some (.builtin "object.__setattr__")))
    (mkCS : PySem.W.makesIn K CS = true)
    (kpCS : PySem.W.keepIn K (.ref CS) = true)
    (nCS_stone : PySem.W.findIn K (.ref CS) "stone" = some none)
    (nCS_conditions : PySem.W.findIn K (.ref CS) "_conditions" = some none)
    (nCS_need : PySem.W.findIn K (.ref CS) "need" = some none)
    (caCS : PySem.W.findIn K (.ref CS) "__class__" = some (some (.builtin "object.__class__")))
    (cmCS : PySem.W.mroIn K CS (.type "object") = some true)
    (aCSK : PySem.W.findIn K (.ref CS) "KIND" = some (some uCSK))
    (rlCSK : L2.RelV (.str "same") uCSK)
    (ggCSK : PySem.W.specialIn K uCSK "__get__" = some none)
    (sbCCCR : PySem.W.subIn K (.ref CC) (.ref CR) = some true)
    (neCCCR : (CC == CR) = false)
    (sbCSCR : PySem.W.subIn K (.ref CS) (.ref CR) = some true)
    (neCSCR : (CS == CR) = false)
    (sbCRCC : PySem.W.subIn K (.ref CR) (.ref CC) = some false)
    (neCRCC : (CR == CC) = false)
    (sbCSCC : PySem.W.subIn K (.ref CS) (.ref CC) = some true)
    (neCSCC : (CS == CC) = false)
    (sbCRCS : PySem.W.subIn K (.ref CR) (.ref CS) = some false)
    (neCRCS : (CR == CS) = false)
    (sbCCCS : PySem.W.subIn K (.ref CC) (.ref CS) = some false)
    (neCCCS : (CC == CS) = false)
    (aIR : PySem.W.findIn K (.ref CR) "__init__" = some (some (.ref fIR)))
    (iIR : PySem.W.isFn K (.ref fIR) = true)
    (lIR : K.lookup fIR = some ⟨ocIR, odIR, .func (PySem.W.fnOf "__init__" "Rule.__init__" (defArgs cRuleInit) (defBody cRuleInit) (defScope cRuleInit) .none kVIR dcIR pmIR anIR cdIR ctIR), slIR⟩)
    (cIR : PySem.W.codeIn K cdIR "Rule.__init__" = true)
    (kIR : PySem.W.keepIn K (.ref fIR) = true)
    (aLa : PySem.W.findIn K (.ref CR) "lays" = some (some (.ref fLa)))
    (iLa : PySem.W.isFn K (.ref fLa) = true)
    (lLa : K.lookup fLa = some ⟨ocLa, odLa, .func (PySem.W.fnOf "lays" "Rule.lays" (defArgs cRuleLays) (defBody cRuleLays) (defScope cRuleLays) .none kVLa dcLa pmLa anLa cdLa ctLa), slLa⟩)
    (cLa : PySem.W.codeIn K cdLa "Rule.lays" = true)
    (kLa : PySem.W.keepIn K (.ref fLa) = true)
    (aLaCC : PySem.W.findIn K (.ref CC) "lays" = some (some (.ref fLa)))
    (aCo : PySem.W.findIn K (.ref CR) "conditions" = some (some (.ref fCo)))
    (iCo : PySem.W.isFn K (.ref fCo) = true)
    (lCo : K.lookup fCo = some ⟨ocCo, odCo, .func (PySem.W.fnOf "conditions" "Rule.conditions" (defArgs cRuleConditions) (defBody cRuleConditions) (defScope cRuleConditions) .none kVCo dcCo pmCo anCo cdCo ctCo), slCo⟩)
    (cCo : PySem.W.codeIn K cdCo "Rule.conditions" = true)
    (kCo : PySem.W.keepIn K (.ref fCo) = true)
    (aCoCC : PySem.W.findIn K (.ref CC) "conditions" = some (some (.ref fCo)))
    (aLn : PySem.W.findIn K (.ref CR) "__len__" = some (some (.ref fLn)))
    (iLn : PySem.W.isFn K (.ref fLn) = true)
    (lLn : K.lookup fLn = some ⟨ocLn, odLn, .func (PySem.W.fnOf "__len__" "Rule.__len__" (defArgs cRuleLen) (defBody cRuleLen) (defScope cRuleLen) .none kVLn dcLn pmLn anLn cdLn ctLn), slLn⟩)
    (cLn : PySem.W.codeIn K cdLn "Rule.__len__" = true)
    (kLn : PySem.W.keepIn K (.ref fLn) = true)
    (aLnCC : PySem.W.findIn K (.ref CC) "__len__" = some (some (.ref fLn)))
    (aLnCS : PySem.W.findIn K (.ref CS) "__len__" = some (some (.ref fLn)))
    (aIS : PySem.W.findIn K (.ref CS) "__init__" = some (some (.ref fIS)))
    (iIS : PySem.W.isFn K (.ref fIS) = true)
    (lIS : K.lookup fIS = some ⟨ocIS, odIS, .func (PySem.W.fnOf "__init__" "SameRule.__init__" (defArgs cSameRuleInit) (defBody cSameRuleInit) (defScope cSameRuleInit) .none kVIS dcIS pmIS anIS cdIS ctIS), slIS⟩)
    (cIS : PySem.W.codeIn K cdIS "SameRule.__init__" = true)
    (kIS : PySem.W.keepIn K (.ref fIS) = true)
    (aLS : PySem.W.findIn K (.ref CS) "lays" = some (some (.ref fLS)))
    (iLS : PySem.W.isFn K (.ref fLS) = true)
    (lLS : K.lookup fLS = some ⟨ocLS, odLS, .func (PySem.W.fnOf "lays" "SameRule.lays" (defArgs cSameRuleLays) (defBody cSameRuleLays) (defScope cSameRuleLays) .none kVLS dcLS pmLS anLS cdLS ctLS), slLS⟩)
    (cLS : PySem.W.codeIn K cdLS "SameRule.lays" = true)
    (kLS : PySem.W.keepIn K (.ref fLS) = true)
    (aCoS : PySem.W.findIn K (.ref CS) "conditions" = some (some (.ref fCoS)))
    (iCoS : PySem.W.isFn K (.ref fCoS) = true)
    (lCoS : K.lookup fCoS = some ⟨ocCoS, odCoS, .func (PySem.W.fnOf "conditions" "SameRule.conditions" (defArgs cSameRuleConditions) (defBody cSameRuleConditions) (defScope cSameRuleConditions) .none kVCoS dcCoS pmCoS anCoS cdCoS ctCoS), slCoS⟩)
    (cCoS : PySem.W.codeIn K cdCoS "SameRule.conditions" = true)
    (kCoS : PySem.W.keepIn K (.ref fCoS) = true)
    (aSl : PySem.W.findIn K (.ref CR) "slack" = some (some (.ref pSl)))
    (pgSl : PySem.W.specialIn K (.ref pSl) "__get__" = some (some (.builtin "property.__get__")))
    (ptSl : PySem.W.takesIn K (.ref pSl) = some true)
    (rSl : PySem.W.recIn K pSl "property" = some (.ref fSl :: restSl))
    (lSl : K.lookup fSl = some ⟨ocSl, odSl, .func (PySem.W.fnOf "slack" "Rule.slack" (defArgs cRuleSlack) (defBody cRuleSlack) (defScope cRuleSlack) .none kVSl dcSl pmSl anSl cdSl ctSl), slSl⟩)
    (cSl : PySem.W.codeIn K cdSl "Rule.slack" = true)
    (kSl : PySem.W.keepIn K (.ref fSl) = true)
    (aSc : PySem.W.findIn K (.ref CC) "slack" = some (some (.ref pSc)))
    (aScCS : PySem.W.findIn K (.ref CS) "slack" = some (some (.ref pSc)))
    (pgSc : PySem.W.specialIn K (.ref pSc) "__get__" = some (some (.builtin "property.__get__")))
    (ptSc : PySem.W.takesIn K (.ref pSc) = some true)
    (rSc : PySem.W.recIn K pSc "property" = some (.ref fSc :: restSc))
    (lSc : K.lookup fSc = some ⟨ocSc, odSc, .func (PySem.W.fnOf "slack" "CountRule.slack" (defArgs cCountRuleSlack) (defBody cCountRuleSlack) (defScope cCountRuleSlack) .none kVSc dcSc pmSc anSc cdSc ctSc), slSc⟩)
    (cSc : PySem.W.codeIn K cdSc "CountRule.slack" = true)
    (kSc : PySem.W.keepIn K (.ref fSc) = true)
    (aIC : PySem.W.findIn K (.ref CC) "__init__" = some (some (.ref fIC)))
    (iIC : PySem.W.isFn K (.ref fIC) = true)
    (lIC : K.lookup fIC = some ⟨ocIC, odIC, .func (PySem.W.fnX "__init__" "CountRule.__init__" (defArgs cCountRuleInit) (defBody cCountRuleInit) (defScope cCountRuleInit) [("__class__", ccIC)] .none kVIC dcIC pmIC anIC (.ref cdaIC) ctIC), slIC⟩)
    (cIC : PySem.W.codeIn K (.ref cdaIC) "CountRule.__init__" = true)
    (xIC : K.lookup ccIC = some ⟨clIC, cldIC, .cell (some (.ref CC)), cslIC⟩)
    (yIC : K.lookup cdaIC = some ⟨cclIC, cddIC, .fields vsIC, ccsIC⟩)
    (vIC : vsIC[2]? = some (.str fileIC tfIC))
    (hIC : ((l.prog.main.file : Str) == fileIC) = true)
    (tIC : (l.prog.main.scope.names.lookup ("super" : Str)).isSome = false)
    (nIC : PySem.W.nsIn K cStatics "thirdparty.any" = some none)
    (mIC : PySem.W.mroIn K CC (.ref CC) = some true)
    (sIC : PySem.W.ks_superIn K CC CC "__init__" = some (some (.ref fIR)))
    (tyIR : PySem.W.typeIn K (.ref fIR) = some (.type "function"))
    (fiIR : PySem.W.fnIn K fIR = true)
    (gCI : PySem.W.nsIn K mainGlobals "InvalidRule" = some (some (.ref CI)))
    (lkCI : K.lookup CI = some (excClassObj nmCI qnCI CI nsCI bsCI bmCI true snCI sbCI abCI coCI ddCI x0CI x1CI x2CI x3CI x5CI "ValueError.__new__"))
    (vbCI : PySem.HandSPX.refsVE bmCI = true)
    (atCI : PySem.W.findIn K (.ref CI) "__init__" = some (some (.ref fEi)))
    (ftCI : PySem.W.typeIn K (.ref fEi) = some (.type "function"))
    (lEi : K.lookup fEi = some ⟨ocEi, odEi, .func (PySem.W.fnOf "__init__" "InvalidRule.__init__" (defArgs cInvalidRuleInit) (defBody cInvalidRuleInit) (defScope cInvalidRuleInit) .none kVEi dcEi pmEi anEi cdEi ctEi), slEi⟩)
    (cEi : PySem.W.codeIn K cdEi "InvalidRule.__init__" = true)
    (kEi : PySem.W.keepIn K (.ref fEi) = true)
    (cxCI : PySem.W.clsIn K CI = some cdtCI)
    (tyCI : PySem.W.typeIn K (.ref CI) = some (.type "type"))
    (hgCI : PySem.W.findIn K (.ref CI) "__getattribute__" = some (some (.builtin "BaseException.__getattribute__")))
    (hkCI : PySem.W.findIn K (.ref CI) "__getattr__" = some none)
    (svCI : PySem.W.subIn K (.ref CI) (.type "BaseException") = some true)
    (sxCI : PySem.W.subIn K (.ref CI) (.ref CI) = some true)
    (icCI : PySem.W.isClsIn K CI = true)
    (haCI : PySem.W.findIn K (.ref CI) "__class__" = some (some (.builtin "object.__class__")))
    (hmCI : PySem.W.mroIn K CI (.type "object") = some true)
    (hdCI : PySem.W.hasDictIn K CI = true)
    (kpCI : PySem.W.keepIn K (.ref CI) = true)
    (nCI_part : PySem.W.findIn K (.ref CI) "part" = some none)
    (saCI : PySem.W.findIn K (.ref CI) "__setattr__" = some (some (.builtin "object.__setattr__")))
    (gCW : PySem.W.nsIn K mainGlobals "WrongStone" = some (some (.ref CW)))
    (lkCW : K.lookup CW = some (excClassObj nmCW qnCW CW nsCW bsCW bmCW true snCW sbCW abCW coCW ddCW x0CW x1CW x2CW x3CW x5CW "ValueError.__new__"))
    (vbCW : PySem.HandSPX.refsVE bmCW = true)
    (atCW : PySem.W.findIn K (.ref CW) "__init__" = some (some (.ref fEw)))
    (ftCW : PySem.W.typeIn K (.ref fEw) = some (.type "function"))
    (lEw : K.lookup fEw = some ⟨ocEw, odEw, .func (PySem.W.fnOf "__init__" "WrongStone.__init__" (defArgs cWrongStoneInit) (defBody cWrongStoneInit) (defScope cWrongStoneInit) .none kVEw dcEw pmEw anEw cdEw ctEw), slEw⟩)
    (cEw : PySem.W.codeIn K cdEw "WrongStone.__init__" = true)
    (kEw : PySem.W.keepIn K (.ref fEw) = true)
    (cxCW : PySem.W.clsIn K CW = some cdtCW)
    (tyCW : PySem.W.typeIn K (.ref CW) = some (.type "type"))
    (hgCW : PySem.W.findIn K (.ref CW) "__getattribute__" = some (some (.builtin "BaseException.__getattribute__")))
    (hkCW : PySem.W.findIn K (.ref CW) "__getattr__" = some none)
    (svCW : PySem.W.subIn K (.ref CW) (.type "BaseException") = some true)
    (sxCW : PySem.W.subIn K (.ref CW) (.ref CW) = some true)
    (icCW : PySem.W.isClsIn K CW = true)
    (haCW : PySem.W.findIn K (.ref CW) "__class__" = some (some (.builtin "object.__class__")))
    (hmCW : PySem.W.mroIn K CW (.type "object") = some true)
    (hdCW : PySem.W.hasDictIn K CW = true)
    (kpCW : PySem.W.keepIn K (.ref CW) = true)
    (nCW_stone : PySem.W.findIn K (.ref CW) "stone" = some none)
    (saCW : PySem.W.findIn K (.ref CW) "__setattr__" = some (some (.builtin "object.__setattr__")))
    (gCE : PySem.W.nsIn K mainGlobals "SmaltiError" = some (some (.ref CE)))
    (cxCE : PySem.W.clsIn K CE = some cdtCE)
    (tyCE : PySem.W.typeIn K (.ref CE) = some (.type "type"))
    (sbCWCE : PySem.W.subIn K (.ref CW) (.ref CE) = some true)
    (neCWCE : (CW == CE) = false)
    (aIs : PySem.W.nsIn K mainGlobals "is_stone" = some (some (.ref fIs)))
    (lIs : K.lookup fIs = some ⟨ocIs, odIs, .func (PySem.W.fnOf "is_stone" "is_stone" (defArgs gIsStone) (defBody gIsStone) (defScope gIsStone) .none kVIs dcIs pmIs anIs cdIs ctIs), slIs⟩)
    (cIs : PySem.W.codeIn K cdIs "is_stone" = true)
    (kIs : PySem.W.keepIn K (.ref fIs) = true)
    (aDf : PySem.W.nsIn K mainGlobals "are_different_signs" = some (some (.ref fDf)))
    (lDf : K.lookup fDf = some ⟨ocDf, odDf, .func (PySem.W.fnOf "are_different_signs" "are_different_signs" (defArgs gAreDifferentSigns) (defBody gAreDifferentSigns) (defScope gAreDifferentSigns) .none kVDf dcDf pmDf anDf cdDf ctDf), slDf⟩)
    (cDf : PySem.W.codeIn K cdDf "are_different_signs" = true)
    (kDf : PySem.W.keepIn K (.ref fDf) = true)
    (aAs : PySem.W.nsIn K mainGlobals "in_ascii_order" = some (some (.ref fAs)))
    (lAs : K.lookup fAs = some ⟨ocAs, odAs, .func (PySem.W.fnOf "in_ascii_order" "in_ascii_order" (defArgs gInAsciiOrder) (defBody gInAsciiOrder) (defScope gInAsciiOrder) .none kVAs dcAs pmAs anAs cdAs ctAs), slAs⟩)
    (cAs : PySem.W.codeIn K cdAs "in_ascii_order" = true)
    (kAs : PySem.W.keepIn K (.ref fAs) = true)
    (aPc : PySem.W.nsIn K mainGlobals "_is_place" = some (some (.ref fPc)))
    (lPc : K.lookup fPc = some ⟨ocPc, odPc, .func (PySem.W.fnOf "_is_place" "_is_place" (defArgs gIsPlace) (defBody gIsPlace) (defScope gIsPlace) .none kVPc dcPc pmPc anPc cdPc ctPc), slPc⟩)
    (cPc : PySem.W.codeIn K cdPc "_is_place" = true)
    (kPc : PySem.W.keepIn K (.ref fPc) = true)
    (aCk : PySem.W.nsIn K mainGlobals "_check_conditions" = some (some (.ref fCk)))
    (lCk : K.lookup fCk = some ⟨ocCk, odCk, .func (PySem.W.fnOf "_check_conditions" "_check_conditions" (defArgs gCheckConditions) (defBody gCheckConditions) (defScope gCheckConditions) .none kVCk dcCk pmCk anCk cdCk ctCk), slCk⟩)
    (cCk : PySem.W.codeIn K cdCk "_check_conditions" = true)
    (kCk : PySem.W.keepIn K (.ref fCk) = true)
    (aNd : PySem.W.nsIn K mainGlobals "_check_need" = some (some (.ref fNd)))
    (lNd : K.lookup fNd = some ⟨ocNd, odNd, .func (PySem.W.fnOf "_check_need" "_check_need" (defArgs gCheckNeed) (defBody gCheckNeed) (defScope gCheckNeed) .none kVNd dcNd pmNd anNd cdNd ctNd), slNd⟩)
    (cNd : PySem.W.codeIn K cdNd "_check_need" = true)
    (kNd : PySem.W.keepIn K (.ref fNd) = true)
    (aIo : PySem.W.nsIn K mainGlobals "_in_order" = some (some (.ref fIo)))
    (lIo : K.lookup fIo = some ⟨ocIo, odIo, .func (PySem.W.fnOf "_in_order" "_in_order" (defArgs gInOrder) (defBody gInOrder) (defScope gInOrder) .none kVIo dcIo pmIo anIo cdIo ctIo), slIo⟩)
    (cIo : PySem.W.codeIn K cdIo "_in_order" = true)
    (kIo : PySem.W.keepIn K (.ref fIo) = true)
    (aBag : PySem.W.nsIn K mainGlobals "_law_bag" = some (some (.ref fBag)))
    (lBag : K.lookup fBag = some ⟨ocBag, odBag, .func (PySem.W.fnOf "_law_bag" "_law_bag" (defArgs lBag) (defBody lBag) (defScope lBag) .none kVBag dcBag pmBag anBag cdBag ctBag), slBag⟩)
    (cBag : PySem.W.codeIn K cdBag "_law_bag" = true)
    (kBag : PySem.W.keepIn K (.ref fBag) = true)
    (aTake : PySem.W.nsIn K mainGlobals "_law_take" = some (some (.ref fTake)))
    (lTake : K.lookup fTake = some ⟨ocTake, odTake, .func (PySem.W.fnOf "_law_take" "_law_take" (defArgs lTake) (defBody lTake) (defScope lTake) .none kVTake dcTake pmTake anTake cdTake ctTake), slTake⟩)
    (cTake : PySem.W.codeIn K cdTake "_law_take" = true)
    (kTake : PySem.W.keepIn K (.ref fTake) = true)
    (aIi : PySem.W.nsIn K mainGlobals "_law_is_int" = some (some (.ref fIi)))
    (lIi : K.lookup fIi = some ⟨ocIi, odIi, .func (PySem.W.fnOf "_law_is_int" "_law_is_int" (defArgs lIsInt) (defBody lIsInt) (defScope lIsInt) .none kVIi dcIi pmIi anIi cdIi ctIi), slIi⟩)
    (cIi : PySem.W.codeIn K cdIi "_law_is_int" = true)
    (kIi : PySem.W.keepIn K (.ref fIi) = true)
    (aPal : PySem.W.nsIn K mainGlobals "_law_palette" = some (some (.ref fPal)))
    (lPal : K.lookup fPal = some ⟨ocPal, odPal, .func (PySem.W.fnOf "_law_palette" "_law_palette" (defArgs lPalette) (defBody lPalette) (defScope lPalette) .none kVPal dcPal pmPal anPal cdPal ctPal), slPal⟩)
    (cPal : PySem.W.codeIn K cdPal "_law_palette" = true)
    (kPal : PySem.W.keepIn K (.ref fPal) = true)
    (aOf : PySem.W.nsIn K mainGlobals "_law_offset" = some (some (.ref fOf)))
    (lOf : K.lookup fOf = some ⟨ocOf, odOf, .func (PySem.W.fnOf "_law_offset" "_law_offset" (defArgs lOffset) (defBody lOffset) (defScope lOffset) .none kVOf dcOf pmOf anOf cdOf ctOf), slOf⟩)
    (cOf : PySem.W.codeIn K cdOf "_law_offset" = true)
    (kOf : PySem.W.keepIn K (.ref fOf) = true)
    (aSg : PySem.W.nsIn K mainGlobals "_law_signs" = some (some (.ref fSg)))
    (lSg : K.lookup fSg = some ⟨ocSg, odSg, .func (PySem.W.fnOf "_law_signs" "_law_signs" (defArgs lSigns) (defBody lSigns) (defScope lSigns) .none kVSg dcSg pmSg anSg cdSg ctSg), slSg⟩)
    (cSg : PySem.W.codeIn K cdSg "_law_signs" = true)
    (kSg : PySem.W.keepIn K (.ref fSg) = true)
    (aPa : PySem.W.nsIn K mainGlobals "_law_parts" = some (some (.ref fPa)))
    (lPa : K.lookup fPa = some ⟨ocPa, odPa, .func (PySem.W.fnOf "_law_parts" "_law_parts" (defArgs lParts) (defBody lParts) (defScope lParts) .none kVPa dcPa pmPa anPa cdPa ctPa), slPa⟩)
    (cPa : PySem.W.codeIn K cdPa "_law_parts" = true)
    (kPa : PySem.W.keepIn K (.ref fPa) = true)
    (aRu : PySem.W.nsIn K mainGlobals "_law_rule" = some (some (.ref fRu)))
    (lRu : K.lookup fRu = some ⟨ocRu, odRu, .func (PySem.W.fnOf "_law_rule" "_law_rule" (defArgs lRule) (defBody lRule) (defScope lRule) .none kVRu dcRu pmRu anRu cdRu ctRu), slRu⟩)
    (cRu : PySem.W.codeIn K cdRu "_law_rule" = true)
    (kRu : PySem.W.keepIn K (.ref fRu) = true)
    (aSp : PySem.W.nsIn K mainGlobals "_law_sorted_parts" = some (some (.ref fSp)))
    (lSp : K.lookup fSp = some ⟨ocSp, odSp, .func (PySem.W.fnOf "_law_sorted_parts" "_law_sorted_parts" (defArgs lSortedParts) (defBody lSortedParts) (defScope lSortedParts) .none kVSp dcSp pmSp anSp cdSp ctSp), slSp⟩)
    (cSp : PySem.W.codeIn K cdSp "_law_sorted_parts" = true)
    (kSp : PySem.W.keepIn K (.ref fSp) = true)
    (aLy : PySem.W.nsIn K mainGlobals "_law_lays" = some (some (.ref fLy)))
    (lLy : K.lookup fLy = some ⟨ocLy, odLy, .func (PySem.W.fnOf "_law_lays" "_law_lays" (defArgs lLays) (defBody lLays) (defScope lLays) .none kVLy dcLy pmLy anLy cdLy ctLy), slLy⟩)
    (cLy : PySem.W.codeIn K cdLy "_law_lays" = true)
    (kLy : PySem.W.keepIn K (.ref fLy) = true)
    (aSk : PySem.W.nsIn K mainGlobals "_law_slack" = some (some (.ref fSk)))
    (lSk : K.lookup fSk = some ⟨ocSk, odSk, .func (PySem.W.fnOf "_law_slack" "_law_slack" (defArgs lSlack) (defBody lSlack) (defScope lSlack) .none kVSk dcSk pmSk anSk cdSk ctSk), slSk⟩)
    (cSk : PySem.W.codeIn K cdSk "_law_slack" = true)
    (kSk : PySem.W.keepIn K (.ref fSk) = true)
    (aLe : PySem.W.nsIn K mainGlobals "_law_is_letter" = some (some (.ref fLe)))
    (lLe : K.lookup fLe = some ⟨ocLe, odLe, .func (PySem.W.fnOf "_law_is_letter" "_law_is_letter" (defArgs lIsLetter) (defBody lIsLetter) (defScope lIsLetter) .none kVLe dcLe pmLe anLe cdLe ctLe), slLe⟩)
    (cLe : PySem.W.codeIn K cdLe "_law_is_letter" = true)
    (kLe : PySem.W.keepIn K (.ref fLe) = true)
    (aMa : PySem.W.nsIn K mainGlobals "_law_made" = some (some (.ref fMa)))
    (lMa : K.lookup fMa = some ⟨ocMa, odMa, .func (PySem.W.fnOf "_law_made" "_law_made" (defArgs lMade) (defBody lMade) (defScope lMade) .none kVMa dcMa pmMa anMa cdMa ctMa), slMa⟩)
    (cMa : PySem.W.codeIn K cdMa "_law_made" = true)
    (kMa : PySem.W.keepIn K (.ref fMa) = true)
    (aDu : PySem.W.nsIn K mainGlobals "_law_due_parts" = some (some (.ref fDu)))
    (lDu : K.lookup fDu = some ⟨ocDu, odDu, .func (PySem.W.fnOf "_law_due_parts" "_law_due_parts" (defArgs lDueParts) (defBody lDueParts) (defScope lDueParts) .none kVDu dcDu pmDu anDu cdDu ctDu), slDu⟩)
    (cDu : PySem.W.codeIn K cdDu "_law_due_parts" = true)
    (kDu : PySem.W.keepIn K (.ref fDu) = true)
    (aAk : PySem.W.nsIn K mainGlobals "_law_asked" = some (some (.ref fAk)))
    (lAk : K.lookup fAk = some ⟨ocAk, odAk, .func (PySem.W.fnOf "_law_asked" "_law_asked" (defArgs lAsked) (defBody lAsked) (defScope lAsked) .none kVAk dcAk pmAk anAk cdAk ctAk), slAk⟩)
    (cAk : PySem.W.codeIn K cdAk "_law_asked" = true)
    (kAk : PySem.W.keepIn K (.ref fAk) = true)
    (aIp : PySem.W.nsIn K mainGlobals "_law_is_parts" = some (some (.ref fIp)))
    (lIp : K.lookup fIp = some ⟨ocIp, odIp, .func (PySem.W.fnOf "_law_is_parts" "_law_is_parts" (defArgs lIsParts) (defBody lIsParts) (defScope lIsParts) .none kVIp dcIp pmIp anIp cdIp ctIp), slIp⟩)
    (cIp : PySem.W.codeIn K cdIp "_law_is_parts" = true)
    (kIp : PySem.W.keepIn K (.ref fIp) = true)
    (aAg : PySem.W.nsIn K mainGlobals "_law_agree" = some (some (.ref fAg)))
    (lAg : K.lookup fAg = some ⟨ocAg, odAg, .func (PySem.W.fnOf "_law_agree" "_law_agree" (defArgs lAgree) (defBody lAgree) (defScope lAgree) .none kVAg dcAg pmAg anAg cdAg ctAg), slAg⟩)
    (cAg : PySem.W.codeIn K cdAg "_law_agree" = true)
    (kAg : PySem.W.keepIn K (.ref fAg) = true)
    (aLaw : PySem.W.nsIn K mainGlobals "law" = some (some (.ref fLaw)))
    (lLaw : K.lookup fLaw = some ⟨ocLaw, odLaw, .func (PySem.W.fnOf "law" "law" (defArgs lLaw) (defBody lLaw) (defScope lLaw) .none kVLaw dcLaw pmLaw anLaw cdLaw ctLaw), slLaw⟩)
    (cLaw : PySem.W.codeIn K cdLaw "law" = true)
    (kLaw : PySem.W.keepIn K (.ref fLaw) = true)
    (zisinstance : PySem.W.nsIn K mainGlobals "isinstance" = some none)
    (zint : PySem.W.nsIn K mainGlobals "int" = some none)
    (zbool : PySem.W.nsIn K mainGlobals "bool" = some none)
    (ztuple : PySem.W.nsIn K mainGlobals "tuple" = some none)
    (zlist : PySem.W.nsIn K mainGlobals "list" = some none)
    (zlen : PySem.W.nsIn K mainGlobals "len" = some none)
    (zrange : PySem.W.nsIn K mainGlobals "range" = some none)
    (zall : PySem.W.nsIn K mainGlobals "all" = some none)
    (zenumerate : PySem.W.nsIn K mainGlobals "enumerate" = some none)
    (zsorted : PySem.W.nsIn K mainGlobals "sorted" = some none)
    (zset : PySem.W.nsIn K mainGlobals "set" = some none)
    (zstr : PySem.W.nsIn K mainGlobals "str" = some none)
    (zsuper : PySem.W.nsIn K mainGlobals "super" = some none) :
    ∃ fd : FuncData, (∀ (s : Shared) (v : Value), BindsTo s fd ⟨[v], []⟩ [("_law_script", v)]) ∧ ∀ base : Heap, K.In base → base.Ns mainGlobals mg → FnOk l.prog w K mg base CX0 8 fa fd ["_law_script"] (spLaw K) := by
  have e := hfa.symm.trans (PySem.W.mg_of X G aLaw)
  cases e
  have g : ∀ {x : Str} {u : Value}, PySem.W.nsIn K mainGlobals x = some (some u) → mg x = some u := fun z => PySem.W.mg_of X G z
  have n : ∀ {x : Str}, PySem.W.nsIn K mainGlobals x = some none → mg x = none := fun z => PySem.W.mg_none_of X G z
  have clCR : L2.Cls K CR := ⟨pgCR, hdCR, poCR, saCR⟩
  have clCC : L2.Cls K CC := ⟨pgCC, hdCC, poCC, saCC⟩
  have clCS : L2.Cls K CS := ⟨pgCS, hdCS, poCS, saCS⟩
  have kitCCCR : PySem.W.kitOne K (.ref CC) (.ref CR) = some true := kit_cls neCCCR cxCR tyCR sbCCCR
  have kitCSCR : PySem.W.kitOne K (.ref CS) (.ref CR) = some true := kit_cls neCSCR cxCR tyCR sbCSCR
  have kitCRCC : PySem.W.kitOne K (.ref CR) (.ref CC) = some false := kit_cls neCRCC cxCC tyCC sbCRCC
  have kitCSCC : PySem.W.kitOne K (.ref CS) (.ref CC) = some true := kit_cls neCSCC cxCC tyCC sbCSCC
  have kitCRCS : PySem.W.kitOne K (.ref CR) (.ref CS) = some false := kit_cls neCRCS cxCS tyCS sbCRCS
  have kitCCCS : PySem.W.kitOne K (.ref CC) (.ref CS) = some false := kit_cls neCCCS cxCS tyCS sbCCCS
  have FIR := fun_mk (st := Pm.cRuleInit) lIR cIR kIR
  have bIR := FIR.binds (ps := ["self", "stone", "conditions"]) fun _ _ _ _ _ _ us hl => match us, hl with | [_, _, _], _ => rfl
  have FLa := fun_mk (st := Pm.cRuleLays) lLa cLa kLa
  have bLa := FLa.binds (ps := ["self", "stone"]) fun _ _ _ _ _ _ us hl => match us, hl with | [_, _], _ => rfl
  have FCo := fun_mk (st := Pm.cRuleConditions) lCo cCo kCo
  have bCo := FCo.binds (ps := ["self", "stone"]) fun _ _ _ _ _ _ us hl => match us, hl with | [_, _], _ => rfl
  have FLn := fun_mk (st := Pm.cRuleLen) lLn cLn kLn
  have bLn := FLn.binds (ps := ["self"]) fun _ _ _ _ _ _ us hl => match us, hl with | [_], _ => rfl
  have FIS := fun_mk (st := Pm.cSameRuleInit) lIS cIS kIS
  have bIS := FIS.binds (ps := ["self", "places", "need"]) fun _ _ _ _ _ _ us hl => match us, hl with | [_, _, _], _ => rfl
  have FLS := fun_mk (st := Pm.cSameRuleLays) lLS cLS kLS
  have bLS := FLS.binds (ps := ["self", "stone"]) fun _ _ _ _ _ _ us hl => match us, hl with | [_, _], _ => rfl
  have FCoS := fun_mk (st := Pm.cSameRuleConditions) lCoS cCoS kCoS
  have bCoS := FCoS.binds (ps := ["self", "stone"]) fun _ _ _ _ _ _ us hl => match us, hl with | [_, _], _ => rfl
  have FSl := fun_mk (st := Pm.cRuleSlack) lSl cSl kSl
  have bSl := FSl.binds (ps := ["self"]) fun _ _ _ _ _ _ us hl => match us, hl with | [_], _ => rfl
  have FSc := fun_mk (st := Pm.cCountRuleSlack) lSc cSc kSc
  have bSc := FSc.binds (ps := ["self"]) fun _ _ _ _ _ _ us hl => match us, hl with | [_], _ => rfl
  have FIC : FunS l.prog K "__init__" "CountRule.__init__" cCountRuleInit CC fIC ccIC cdaIC _ := ⟨⟨_, _, _, _, _, _, _, _, _, rfl, lIC, cIC⟩, ⟨_, _, _, xIC⟩, ⟨_, _, _, _, _, _, yIC, vIC, hIC⟩, ⟨_, cxCC⟩, tIC, nIC, ⟨_, rfl, rfl⟩⟩
  have bIC : Binds K (PySem.W.fnX "__init__" "CountRule.__init__" (defArgs cCountRuleInit) (defBody cCountRuleInit) (defScope cCountRuleInit) [("__class__", ccIC)] .none kVIC dcIC pmIC anIC (.ref cdaIC) ctIC) ["self", "stone", "conditions", "need"] [] := .all fun us hl => match us, hl with | [_, _, _, _], _ => rfl
  have FEi := fun_mk (st := Pm.cInvalidRuleInit) lEi cEi kEi
  have bEi := FEi.binds (ps := ["self", "part"]) fun _ _ _ _ _ _ us hl => match us, hl with | [_, _], _ => rfl
  have erCI : ErrC K CI := ⟨by rw [cxCI]; rfl, hgCI, hkCI, svCI, haCI, cn, ct, hmCI, hdCI⟩
  have teCI : PySem.W.exmOne K (.ref CI) (.ref CI) = some true := exm_self svCI icCI tyCI sxCI
  have oxCI : OexC K CI := ⟨⟨nmCI, qnCI, nsCI, bsCI, bmCI, snCI, sbCI, abCI, coCI, ddCI, x0CI, x1CI, x2CI, x3CI, x5CI, lkCI, vbCI⟩, saCI, svCI, tyCI, kpCI⟩
  have FEw := fun_mk (st := Pm.cWrongStoneInit) lEw cEw kEw
  have bEw := FEw.binds (ps := ["self", "stone"]) fun _ _ _ _ _ _ us hl => match us, hl with | [_, _], _ => rfl
  have erCW : ErrC K CW := ⟨by rw [cxCW]; rfl, hgCW, hkCW, svCW, haCW, cn, ct, hmCW, hdCW⟩
  have teCW : PySem.W.exmOne K (.ref CW) (.ref CW) = some true := exm_self svCW icCW tyCW sxCW
  have oxCW : OexC K CW := ⟨⟨nmCW, qnCW, nsCW, bsCW, bmCW, snCW, sbCW, abCW, coCW, ddCW, x0CW, x1CW, x2CW, x3CW, x5CW, lkCW, vbCW⟩, saCW, svCW, tyCW, kpCW⟩
  have kitCWCE : PySem.W.kitOne K (.ref CW) (.ref CE) = some true := kit_cls neCWCE cxCE tyCE sbCWCE
  have FIs := fun_mk (st := Pm.gIsStone) lIs cIs kIs
  have bIs := FIs.binds (ps := ["sign"]) fun _ _ _ _ _ _ us hl => match us, hl with | [_], _ => rfl
  have FDf := fun_mk (st := Pm.gAreDifferentSigns) lDf cDf kDf
  have bDf := FDf.binds (ps := ["signs", "besides"]) fun _ _ _ _ _ _ us hl => match us, hl with | [_, _], _ => rfl
  have FAs := fun_mk (st := Pm.gInAsciiOrder) lAs cAs kAs
  have bAs := FAs.binds (ps := ["signs"]) fun _ _ _ _ _ _ us hl => match us, hl with | [_], _ => rfl
  have FPc := fun_mk (st := Pm.gIsPlace) lPc cPc kPc
  have bPc := FPc.binds (ps := ["dx", "dy"]) fun _ _ _ _ _ _ us hl => match us, hl with | [_, _], _ => rfl
  have FCk := fun_mk (st := Pm.gCheckConditions) lCk cCk kCk
  have bCk := FCk.binds (ps := ["conditions"]) fun _ _ _ _ _ _ us hl => match us, hl with | [_], _ => rfl
  have FNd := fun_mk (st := Pm.gCheckNeed) lNd cNd kNd
  have bNd := FNd.binds (ps := ["need", "count"]) fun _ _ _ _ _ _ us hl => match us, hl with | [_, _], _ => rfl
  have FIo := fun_mk (st := Pm.gInOrder) lIo cIo kIo
  have bIo := FIo.binds (ps := ["conditions"]) fun _ _ _ _ _ _ us hl => match us, hl with | [_], _ => rfl
  have FBag := fun_mk (st := Pm.lBag) lBag cBag kBag
  have bBag := FBag.binds (ps := ["_law_script"]) fun _ _ _ _ _ _ us hl => match us, hl with | [_], _ => rfl
  have FTake := fun_mk (st := Pm.lTake) lTake cTake kTake
  have bTake := FTake.binds (ps := ["_law_bag_here", "_law_size"]) fun _ _ _ _ _ _ us hl => match us, hl with | [_, _], _ => rfl
  have FIi := fun_mk (st := Pm.lIsInt) lIi cIi kIi
  have bIi := FIi.binds (ps := ["_law_value"]) fun _ _ _ _ _ _ us hl => match us, hl with | [_], _ => rfl
  have FPal := fun_mk (st := Pm.lPalette) lPal cPal kPal
  have bPal := FPal.binds (ps := ["_law_bag_here"]) fun _ _ _ _ _ _ us hl => match us, hl with | [_], _ => rfl
  have FOf := fun_mk (st := Pm.lOffset) lOf cOf kOf
  have bOf := FOf.binds (ps := ["_law_bag_here"]) fun _ _ _ _ _ _ us hl => match us, hl with | [_], _ => rfl
  have FSg := fun_mk (st := Pm.lSigns) lSg cSg kSg
  have bSg := FSg.binds (ps := ["_law_bag_here", "_law_palette_here"]) fun _ _ _ _ _ _ us hl => match us, hl with | [_, _], _ => rfl
  have FPa := fun_mk (st := Pm.lParts) lPa cPa kPa
  have bPa := FPa.binds (ps := ["_law_bag_here", "_law_palette_here"]) fun _ _ _ _ _ _ us hl => match us, hl with | [_, _], _ => rfl
  have FRu := fun_mk (st := Pm.lRule) lRu cRu kRu
  have bRu := FRu.binds (ps := ["_law_bag_here", "_law_palette_here"]) fun _ _ _ _ _ _ us hl => match us, hl with | [_, _], _ => rfl
  have FSp := fun_mk (st := Pm.lSortedParts) lSp cSp kSp
  have bSp := FSp.binds (ps := ["_law_rule_here"]) fun _ _ _ _ _ _ us hl => match us, hl with | [_], _ => rfl
  have FLy := fun_mk (st := Pm.lLays) lLy cLy kLy
  have bLy := FLy.binds (ps := ["_law_rule_here", "_law_hue"]) fun _ _ _ _ _ _ us hl => match us, hl with | [_, _], _ => rfl
  have FSk := fun_mk (st := Pm.lSlack) lSk cSk kSk
  have bSk := FSk.binds (ps := ["_law_rule_here"]) fun _ _ _ _ _ _ us hl => match us, hl with | [_], _ => rfl
  have FLe := fun_mk (st := Pm.lIsLetter) lLe cLe kLe
  have bLe := FLe.binds (ps := ["_law_text"]) fun _ _ _ _ _ _ us hl => match us, hl with | [_], _ => rfl
  have FMa := fun_mk (st := Pm.lMade) lMa cMa kMa
  have bMa := FMa.binds (ps := ["_law_rule_here"]) fun _ _ _ _ _ _ us hl => match us, hl with | [_], _ => rfl
  have FDu := fun_mk (st := Pm.lDueParts) lDu cDu kDu
  have bDu := FDu.binds (ps := ["_law_rule_here", "_law_hue"]) fun _ _ _ _ _ _ us hl => match us, hl with | [_, _], _ => rfl
  have FAk := fun_mk (st := Pm.lAsked) lAk cAk kAk
  have bAk := FAk.binds (ps := ["_law_made_here", "_law_hue"]) fun _ _ _ _ _ _ us hl => match us, hl with | [_, _], _ => rfl
  have FIp := fun_mk (st := Pm.lIsParts) lIp cIp kIp
  have bIp := FIp.binds (ps := ["_law_value"]) fun _ _ _ _ _ _ us hl => match us, hl with | [_], _ => rfl
  have FAg := fun_mk (st := Pm.lAgree) lAg cAg kAg
  have bAg := FAg.binds (ps := ["_law_made_here", "_law_rule_here", "_law_hues"]) fun _ _ _ _ _ _ us hl => match us, hl with | [_, _, _], _ => rfl
  have FLaw := fun_mk (st := Pm.lLaw) lLaw cLaw kLaw
  refine ⟨PySem.W.fnOf "law" "law" (defArgs Pm.lLaw) (defBody Pm.lLaw) (defScope Pm.lLaw) .none kVLaw dcLaw pmLaw anLaw cdLaw ctLaw, fun s v => .of_eq rfl, fun base _ _ => ?_⟩
  have L : LTxt K mg := ⟨n zisinstance, n zint, n zlist, n zlen, n zrange⟩
  have B : BTx mg := ⟨n zbool, n ztuple, n zstr⟩
  have R : STxt K mg := ⟨n zset, n zsorted⟩
  have U : UTx K mg := ⟨⟨_, g aRe, rlRe⟩, ⟨_, g aMc, rlMc⟩⟩
  have T : PTxt K mg C := ⟨g gC, ⟨_, ⟨rdC, gaC⟩, ⟨_, aHo, rlHo⟩, ⟨_, aEd, rlEd⟩⟩, ⟨_, g aSn, rlSn⟩, ⟨_, g aMo, rlMo⟩, n zall, n zenumerate⟩
  have TR : RCls K CR := ⟨clCR, nCR_stone, nCR_conditions, nCR_need⟩
  have TC : RCls K CC := ⟨clCC, nCC_stone, nCC_conditions, nCC_need⟩
  have TS : RCls K CS := ⟨clCS, nCS_stone, nCS_conditions, nCS_need⟩
  have Gt : GTx mg CR CC CS := ⟨g gCR, g gCC, g gCS⟩
  have Y : WTx K mg CW CE := ⟨g gCW, g gCE, erCW, nCW_stone, teCW, kitCWCE⟩
  have cIs : Cl l.prog w K mg base CX0 1 "is_stone" ["sign"] spStone fIs _ := ⟨ok_stone FIs L T, kIs, bIs, g aIs⟩
  have cDf : Cl l.prog w K mg base CX0 2 "are_different_signs" ["signs", "besides"] spDiff fDf _ := ⟨ok_differ FDf cIs L T R, kDf, bDf, g aDf⟩
  have cAs : Cl l.prog w K mg base CX0 1 "in_ascii_order" ["signs"] spAsc fAs _ := ⟨ok_asc FAs R, kAs, bAs, g aAs⟩
  have cPc : Cl l.prog w K mg base CX0 1 "_is_place" ["dx", "dy"] spPlace fPc _ := ⟨ok_place FPc U, kPc, bPc, g aPc⟩
  have xI : EMk l.prog w K mg base CI "InvalidRule" ["self", "part"] (spE1 CI "part") fEi _ := ⟨oxCI, atCI, ftCI, okEInvalidRule FEi oxCI nCI_part, bEi, g gCI⟩
  have xW : EMk l.prog w K mg base CW "WrongStone" ["self", "stone"] (spE1 CW "stone") fEw _ := ⟨oxCW, atCW, ftCW, okEWrongStone FEw oxCW nCW_stone, bEw, g gCW⟩
  have cCk : Cl l.prog w K mg base (L2.CX l.prog w) 3 "_check_conditions" ["conditions"] (spCheck CI) fCk _ := ⟨ok_check FCk cPc cDf xI T R U, kCk, bCk, g aCk⟩
  have cNd : Cl l.prog w K mg base (L2.CX l.prog w) 3 "_check_need" ["need", "count"] (spNeed CI) fNd _ := ⟨ok_need FNd xI, kNd, bNd, g aNd⟩
  have cIo : Cl l.prog w K mg base CX0 2 "_in_order" ["conditions"] spInOrder fIo _ := ⟨ok_inorder FIo cAs R, kIo, bIo, g aIo⟩
  have OIR := ok_ruleinit FIR cIs cCk cIo xI
  have OIC := ok_countinit FIC (n zsuper) ⟨mIC, sIC, tyIR, fiIR⟩ OIR bIR cNd L TC
  have OIS := ok_sameinit FIS cCk cIo cNd L T TS
  have kR : Ctor l.prog w K mg base CR 4 ["self", "stone", "conditions"] (spRuleInit CI K) fIR _ := ⟨⟨mkCR, aIR, iIR, kpCR⟩, OIR, bIR, TR⟩
  have kC : Ctor l.prog w K mg base CC 5 ["self", "stone", "conditions", "need"] (spCountInit CI CC K) fIC _ := ⟨⟨mkCC, aIC, iIC, kpCC⟩, OIC, bIC, TC⟩
  have kS : Ctor l.prog w K mg base CS 5 ["self", "places", "need"] (spSameInit CI CS K) fIS _ := ⟨⟨mkCS, aIS, iIS, kpCS⟩, OIS, bIS, TS⟩
  have mLR : Meth K CR "lays" fLa := ⟨aLa, iLa, kLa⟩
  have mLC : Meth K CC "lays" fLa := ⟨aLaCC, iLa, kLa⟩
  have mLS : Meth K CS "lays" fLS := ⟨aLS, iLS, kLS⟩
  have mCR : Meth K CR "conditions" fCo := ⟨aCo, iCo, kCo⟩
  have mCC : Meth K CC "conditions" fCo := ⟨aCoCC, iCo, kCo⟩
  have mCS : Meth K CS "conditions" fCoS := ⟨aCoS, iCoS, kCoS⟩
  have OLR := ok_lays (P := l.prog) (w := w) (mg := mg) (base := base) (κ := 0) FLa TR (by decide)
  have OLC := ok_lays (P := l.prog) (w := w) (mg := mg) (base := base) (κ := 1) FLa TC (by decide)
  have OLS := ok_laysS (C := CS) FLS cIs
  have OCR := ok_cond FCo TR (by decide) mLR OLR bLa xW L
  have OCC := ok_cond FCo TC (by decide) mLC OLC bLa xW L
  have OCS := ok_condS FCoS TS mLS OLS bLS xW L
  have cTake : Cl l.prog w K mg base CX0 1 "_law_take" tkNames spTake fTake _ := ⟨ok_take FTake L.len L.int, kTake, bTake, g aTake⟩
  have cIi : Cl l.prog w K mg base CX0 1 "_law_is_int" ["_law_value"] spIsI fIi _ := ⟨ok_isI FIi L B, kIi, bIi, g aIi⟩
  have cOf : Cl l.prog w K mg base CX0 2 "_law_offset" ["_law_bag_here"] spOffset fOf _ := ⟨ok_offset FOf cTake L, kOf, bOf, g aOf⟩
  have cSg : Cl l.prog w K mg base CX0 2 "_law_signs" ["_law_bag_here", "_law_palette_here"] spSigns fSg _ := ⟨ok_signs FSg cTake, kSg, bSg, g aSg⟩
  have cPa : Cl l.prog w K mg base CX0 3 "_law_parts" ["_law_bag_here", "_law_palette_here"] spParts fPa _ := ⟨ok_parts FPa cTake cOf cSg L, kPa, bPa, g aPa⟩
  have cRu : Cl l.prog w K mg base CX0 4 "_law_rule" ["_law_bag_here", "_law_palette_here"] spRule fRu _ := ⟨ok_rule FRu cTake cPa L, kRu, bRu, g aRu⟩
  have cLy : Cl l.prog w K mg base CX0 1 "_law_lays" ["_law_rule_here", "_law_hue"] spLaysL fLy _ := ⟨ok_laysL FLy, kLy, bLy, g aLy⟩
  have cSk : Cl l.prog w K mg base CX0 1 "_law_slack" ["_law_rule_here"] spSlackL fSk _ := ⟨ok_slackL FSk L, kSk, bSk, g aSk⟩
  have cLe : Cl l.prog w K mg base CX0 1 "_law_is_letter" ["_law_text"] spStone fLe _ := ⟨ok_letter FLe L, kLe, bLe, g aLe⟩
  have cSp : Cl l.prog w K mg base CX0 1 "_law_sorted_parts" ["_law_rule_here"] spSortedP fSp _ := ⟨ok_sortedp FSp R, kSp, bSp, g aSp⟩
  have cDu : Cl l.prog w K mg base CX0 2 "_law_due_parts" ["_law_rule_here", "_law_hue"] spDue fDu _ := ⟨ok_due FDu cSp R, kDu, bDu, g aDu⟩
  have cIp : Cl l.prog w K mg base CX0 2 "_law_is_parts" ["_law_value"] spIsParts fIp _ := ⟨ok_isparts FIp cIi L B, kIp, bIp, g aIp⟩
  have OpR : Ops l.prog w K mg base CR CW CR CC CS 0 fLa fCo fSl fLn pSl _ _ _ _ uCRK := ⟨TR, mLR, OLR.mono (by decide), bLa, mCR, OCR, bCo, ⟨aSl, pgSl, ptSl, _, rSl⟩, ok_slack FSl, bSl, ⟨aLn, iLn⟩, ok_lenR FLn TR L, bLn, ⟨aCRK, rlCRK, ggCRK, by decide⟩, kit_self, kitCRCC, kitCRCS, caCR, cn, ct, cmCR⟩
  have OpC : Ops l.prog w K mg base CC CW CR CC CS 1 fLa fCo fSc fLn pSc _ _ _ _ uCCK := ⟨TC, mLC, OLC.mono (by decide), bLa, mCC, OCC, bCo, ⟨aSc, pgSc, ptSc, _, rSc⟩, ok_slackC FSc TC L (by decide), bSc, ⟨aLnCC, iLn⟩, ok_lenR FLn TC L, bLn, ⟨aCCK, rlCCK, ggCCK, by decide⟩, kitCCCR, kit_self, kitCCCS, caCC, cn, ct, cmCC⟩
  have OpS : Ops l.prog w K mg base CS CW CR CC CS 2 fLS fCoS fSc fLn pSc _ _ _ _ uCSK := ⟨TS, mLS, OLS, bLS, mCS, OCS, bCoS, ⟨aScCS, pgSc, ptSc, _, rSc⟩, ok_slackC FSc TS L (by decide), bSc, ⟨aLnCS, iLn⟩, ok_lenR FLn TS L, bLn, ⟨aCSK, rlCSK, ggCSK, by decide⟩, kitCSCR, kitCSCC, kit_self, caCS, cn, ct, cmCS⟩
  have AkR : Cl l.prog w K mg base CX0 4 "_law_asked" ["_law_made_here", "_law_hue"] (spAsk CR 0) fAk _ := ⟨ok_ask FAk L Y TR mCR OCR bCo, kAk, bAk, g aAk⟩
  have AkC : Cl l.prog w K mg base CX0 4 "_law_asked" ["_law_made_here", "_law_hue"] (spAsk CC 1) fAk _ := ⟨ok_ask FAk L Y TC mCC OCC bCo, kAk, bAk, g aAk⟩
  have AkS : Cl l.prog w K mg base CX0 4 "_law_asked" ["_law_made_here", "_law_hue"] (spAsk CS 2) fAk _ := ⟨ok_ask FAk L Y TS mCS OCS bCoS, kAk, bAk, g aAk⟩
  have cAg : Cl l.prog w K mg base CX0 5 "_law_agree" ["_law_made_here", "_law_rule_here", "_law_hues"] (spAg3 CR CC CS) fAg _ := ⟨fn_or (sp := fun κ => spAgree (clsOf CR CC CS κ) κ) fun κ hκ => match κ, hκ with
    | 0, _ => ok_agree FAg OpR L B Gt cLe cLy AkR cIp cDu cIi cSk
    | 1, _ => ok_agree FAg OpC L B Gt cLe cLy AkC cIp cDu cIi cSk
    | 2, _ => ok_agree FAg OpS L B Gt cLe cLy AkS cIp cDu cIi cSk, kAg, bAg, g aAg⟩
  have cMa : Cl l.prog w K mg base CX0 7 "_law_made" ["_law_rule_here"] (spMade CR CC CS) fMa _ := ⟨ok_made FMa L Gt kR kC kS, kMa, bMa, g aMa⟩
  exact ok_law FLaw L Gt kR kC kS ⟨ok_bag FBag L, kBag, bBag, g aBag⟩ ⟨ok_pal FPal cTake L, kPal, bPal, g aPal⟩ cRu cMa cAg
theorem walk {l : PySem.W.OpenLaw} {q : Program} {loose : List Str} {XP : (Str → Option Value) → Heap → Prop} {YP : World → Heap → Prop} {d : DefRec} {K : Params → PySem.W.Frag} (hn : l.most = some 63) (hdf : d.params.defaults = [])
    (hY : ∀ (w : World) (h : Heap), YP w h → (K w.params).In h)
    (F : ∀ (w : World) (mg : Str → Option Value) (fa : Addr) (h : Heap), (K w.params).In h → h.Ns mainGlobals mg → mg d.name = some (.ref fa) →
      ∃ fd : FuncData, (∀ (s : Shared) (u : Value), BindsTo s fd ⟨[u], []⟩ [("_law_script", u)]) ∧ ∀ base : Heap, (K w.params).In base → base.Ns mainGlobals mg → FnOk l.prog w (K w.params) mg base CX0 8 fa fd ["_law_script"] (spLaw (K w.params))) :
    PySem.W.WalkO q loose XP YP l.row.toRowW d [] (fun f vs => PySem.call f vs) :=
  L2.walk_of (n := 63) (k := 8) (x := "_law_script") (CX := fun _ => CX0) (sp := fun w => spLaw (K w.params)) hn (by decide) hdf ⟨rfl, by decide, by decide⟩ hY F (fun _ _ a ns hl _ hS => ⟨a, ns, rfl, hS, hl, fun _ => rfl⟩) fun _ _ _ _ _ z => z
end Pm

open PySem PySem.W PyProof.Rows in
set_option maxRecDepth 100000 in
set_option maxHeartbeats 0 in
theorem PySem.Challenge.cw_smalti_k08_rule_conditions_holds : PySem.Challenge.rw_smalti_k08_rule_conditions.Holds := by
  w_on; o_law; k_head; (case hw => w_witness2)
  k_fill
  refine Pm.walk (l := PySem.Challenge.rw_smalti_k08_rule_conditions) rfl rfl (fun w h Y => PySem.W.kIn_of Y) ?F
  case F =>
    intro w mg fa h KX G hmg
    refine' Pm.all_mk KX G hmg ?cn ?ct ?gC ?rdC ?gaC ?aHo ?rlHo ?aEd ?rlEd ?aSn ?rlSn ?aMo ?rlMo ?aRe ?rlRe ?aMc ?rlMc ?gCR ?cxCR ?tyCR ?pgCR ?hdCR ?poCR ?saCR ?mkCR ?kpCR ?nCR_stone ?nCR_conditions ?nCR_need ?caCR ?cmCR ?aCRK ?rlCRK ?ggCRK ?gCC ?cxCC ?tyCC ?pgCC ?hdCC ?poCC ?saCC ?mkCC ?kpCC ?nCC_stone ?nCC_conditions ?nCC_need ?caCC ?cmCC ?aCCK ?rlCCK ?ggCCK ?gCS ?cxCS ?tyCS ?pgCS ?hdCS ?poCS ?saCS ?mkCS ?kpCS ?nCS_stone ?nCS_conditions ?nCS_need ?caCS ?cmCS ?aCSK ?rlCSK ?ggCSK ?sbCCCR ?neCCCR ?sbCSCR ?neCSCR ?sbCRCC ?neCRCC ?sbCSCC ?neCSCC ?sbCRCS ?neCRCS ?sbCCCS ?neCCCS ?aIR ?iIR ?lIR ?cIR ?kIR ?aLa ?iLa ?lLa ?cLa ?kLa ?aLaCC ?aCo ?iCo ?lCo ?cCo ?kCo ?aCoCC ?aLn ?iLn ?lLn ?cLn ?kLn ?aLnCC ?aLnCS ?aIS ?iIS ?lIS ?cIS ?kIS ?aLS ?iLS ?lLS ?cLS ?kLS ?aCoS ?iCoS ?lCoS ?cCoS ?kCoS ?aSl ?pgSl ?ptSl ?rSl ?lSl ?cSl ?kSl ?aSc ?aScCS ?pgSc ?ptSc ?rSc ?lSc ?cSc ?kSc ?aIC ?iIC ?lIC ?cIC ?xIC ?yIC ?vIC ?hIC ?tIC ?nIC ?mIC ?sIC ?tyIR ?fiIR ?gCI ?lkCI ?vbCI ?atCI ?ftCI ?lEi ?cEi ?kEi ?cxCI ?tyCI ?hgCI ?hkCI ?svCI ?sxCI ?icCI ?haCI ?hmCI ?hdCI ?kpCI ?nCI_part ?saCI ?gCW ?lkCW ?vbCW ?atCW ?ftCW ?lEw ?cEw ?kEw ?cxCW ?tyCW ?hgCW ?hkCW ?svCW ?sxCW ?icCW ?haCW ?hmCW ?hdCW ?kpCW ?nCW_stone ?saCW ?gCE ?cxCE ?tyCE ?sbCWCE ?neCWCE ?aIs ?lIs ?cIs ?kIs ?aDf ?lDf ?cDf ?kDf ?aAs ?lAs ?cAs ?kAs ?aPc ?lPc ?cPc ?kPc ?aCk ?lCk ?cCk ?kCk ?aNd ?lNd ?cNd ?kNd ?aIo ?lIo ?cIo ?kIo ?aBag ?lBag ?cBag ?kBag ?aTake ?lTake ?cTake ?kTake ?aIi ?lIi ?cIi ?kIi ?aPal ?lPal ?cPal ?kPal ?aOf ?lOf ?cOf ?kOf ?aSg ?lSg ?cSg ?kSg ?aPa ?lPa ?cPa ?kPa ?aRu ?lRu ?cRu ?kRu ?aSp ?lSp ?cSp ?kSp ?aLy ?lLy ?cLy ?kLy ?aSk ?lSk ?cSk ?kSk ?aLe ?lLe ?cLe ?kLe ?aMa ?lMa ?cMa ?kMa ?aDu ?lDu ?cDu ?kDu ?aAk ?lAk ?cAk ?kAk ?aIp ?lIp ?cIp ?kIp ?aAg ?lAg ?cAg ?kAg ?aLaw ?lLaw ?cLaw ?kLaw ?zisinstance ?zint ?zbool ?ztuple ?zlist ?zlen ?zrange ?zall ?zenumerate ?zsorted ?zset ?zstr ?zsuper
    (case cn => k_is)
    (case ct => k_is)
    (case gC => k_is)
    (case rdC => k_is)
    (case gaC => k_is)
    (case aHo => k_is)
    (case rlHo => exact ⟨_, rfl⟩)
    (case aEd => k_is)
    (case rlEd => exact ⟨_, rfl⟩)
    (case aSn => k_is)
    (case rlSn => exact ⟨_, rfl⟩)
    (case aMo => k_is)
    (case rlMo => exact ⟨_, rfl⟩)
    (case aRe => k_is)
    (case rlRe => exact ⟨_, rfl⟩)
    (case aMc => k_is)
    (case rlMc => exact ⟨_, rfl⟩)
    (case gCR => k_is)
    (case cxCR => k_is)
    (case tyCR => k_is)
    (case pgCR => k_is)
    (case hdCR => k_is)
    (case poCR => k_is)
    (case saCR => k_is)
    (case mkCR => k_is)
    (case kpCR => k_is)
    (case nCR_stone => k_is)
    (case nCR_conditions => k_is)
    (case nCR_need => k_is)
    (case caCR => k_is)
    (case cmCR => k_is)
    (case aCRK => k_is)
    (case rlCRK => exact ⟨_, rfl⟩)
    (case ggCRK => k_is)
    (case gCC => k_is)
    (case cxCC => k_is)
    (case tyCC => k_is)
    (case pgCC => k_is)
    (case hdCC => k_is)
    (case poCC => k_is)
    (case saCC => k_is)
    (case mkCC => k_is)
    (case kpCC => k_is)
    (case nCC_stone => k_is)
    (case nCC_conditions => k_is)
    (case nCC_need => k_is)
    (case caCC => k_is)
    (case cmCC => k_is)
    (case aCCK => k_is)
    (case rlCCK => exact ⟨_, rfl⟩)
    (case ggCCK => k_is)
    (case gCS => k_is)
    (case cxCS => k_is)
    (case tyCS => k_is)
    (case pgCS => k_is)
    (case hdCS => k_is)
    (case poCS => k_is)
    (case saCS => k_is)
    (case mkCS => k_is)
    (case kpCS => k_is)
    (case nCS_stone => k_is)
    (case nCS_conditions => k_is)
    (case nCS_need => k_is)
    (case caCS => k_is)
    (case cmCS => k_is)
    (case aCSK => k_is)
    (case rlCSK => exact ⟨_, rfl⟩)
    (case ggCSK => k_is)
    (case sbCCCR => k_is)
    (case neCCCR => rfl)
    (case sbCSCR => k_is)
    (case neCSCR => rfl)
    (case sbCRCC => k_is)
    (case neCRCC => rfl)
    (case sbCSCC => k_is)
    (case neCSCC => rfl)
    (case sbCRCS => k_is)
    (case neCRCS => rfl)
    (case sbCCCS => k_is)
    (case neCCCS => rfl)
    (case aIR => k_is)
    (case iIR => k_is)
    (case lIR => k_is)
    (case cIR => k_is)
    (case kIR => k_is)
    (case aLa => k_is)
    (case iLa => k_is)
    (case lLa => k_is)
    (case cLa => k_is)
    (case kLa => k_is)
    (case aLaCC => k_is)
    (case aCo => k_is)
    (case iCo => k_is)
    (case lCo => k_is)
    (case cCo => k_is)
    (case kCo => k_is)
    (case aCoCC => k_is)
    (case aLn => k_is)
    (case iLn => k_is)
    (case lLn => k_is)
    (case cLn => k_is)
    (case kLn => k_is)
    (case aLnCC => k_is)
    (case aLnCS => k_is)
    (case aIS => k_is)
    (case iIS => k_is)
    (case lIS => k_is)
    (case cIS => k_is)
    (case kIS => k_is)
    (case aLS => k_is)
    (case iLS => k_is)
    (case lLS => k_is)
    (case cLS => k_is)
    (case kLS => k_is)
    (case aCoS => k_is)
    (case iCoS => k_is)
    (case lCoS => k_is)
    (case cCoS => k_is)
    (case kCoS => k_is)
    (case aSl => k_is)
    (case pgSl => k_is)
    (case ptSl => k_is)
    (case rSl => k_is)
    (case lSl => k_is)
    (case cSl => k_is)
    (case kSl => k_is)
    (case aSc => k_is)
    (case aScCS => k_is)
    (case pgSc => k_is)
    (case ptSc => k_is)
    (case rSc => k_is)
    (case lSc => k_is)
    (case cSc => k_is)
    (case kSc => k_is)
    (case aIC => k_is)
    (case iIC => k_is)
    (case lIC => k_is)
    (case cIC => k_is)
    (case xIC => k_is)
    (case yIC => k_is)
    (case vIC => rfl)
    (case hIC => decide +kernel)
    (case tIC => decide +kernel)
    (case nIC => k_is)
    (case mIC => k_is)
    (case sIC => ks_is)
    (case tyIR => k_is)
    (case fiIR => k_is)
    (case gCI => k_is)
    (case lkCI => k_is)
    (case vbCI => decide +kernel)
    (case atCI => k_is)
    (case ftCI => k_is)
    (case lEi => k_is)
    (case cEi => k_is)
    (case kEi => k_is)
    (case cxCI => k_is)
    (case tyCI => k_is)
    (case hgCI => k_is)
    (case hkCI => k_is)
    (case svCI => k_is)
    (case sxCI => k_is)
    (case icCI => k_is)
    (case haCI => k_is)
    (case hmCI => k_is)
    (case hdCI => k_is)
    (case kpCI => k_is)
    (case nCI_part => k_is)
    (case saCI => k_is)
    (case gCW => k_is)
    (case lkCW => k_is)
    (case vbCW => decide +kernel)
    (case atCW => k_is)
    (case ftCW => k_is)
    (case lEw => k_is)
    (case cEw => k_is)
    (case kEw => k_is)
    (case cxCW => k_is)
    (case tyCW => k_is)
    (case hgCW => k_is)
    (case hkCW => k_is)
    (case svCW => k_is)
    (case sxCW => k_is)
    (case icCW => k_is)
    (case haCW => k_is)
    (case hmCW => k_is)
    (case hdCW => k_is)
    (case kpCW => k_is)
    (case nCW_stone => k_is)
    (case saCW => k_is)
    (case gCE => k_is)
    (case cxCE => k_is)
    (case tyCE => k_is)
    (case sbCWCE => k_is)
    (case neCWCE => rfl)
    (case aIs => k_is)
    (case lIs => k_is)
    (case cIs => k_is)
    (case kIs => k_is)
    (case aDf => k_is)
    (case lDf => k_is)
    (case cDf => k_is)
    (case kDf => k_is)
    (case aAs => k_is)
    (case lAs => k_is)
    (case cAs => k_is)
    (case kAs => k_is)
    (case aPc => k_is)
    (case lPc => k_is)
    (case cPc => k_is)
    (case kPc => k_is)
    (case aCk => k_is)
    (case lCk => k_is)
    (case cCk => k_is)
    (case kCk => k_is)
    (case aNd => k_is)
    (case lNd => k_is)
    (case cNd => k_is)
    (case kNd => k_is)
    (case aIo => k_is)
    (case lIo => k_is)
    (case cIo => k_is)
    (case kIo => k_is)
    (case aBag => k_is)
    (case lBag => k_is)
    (case cBag => k_is)
    (case kBag => k_is)
    (case aTake => k_is)
    (case lTake => k_is)
    (case cTake => k_is)
    (case kTake => k_is)
    (case aIi => k_is)
    (case lIi => k_is)
    (case cIi => k_is)
    (case kIi => k_is)
    (case aPal => k_is)
    (case lPal => k_is)
    (case cPal => k_is)
    (case kPal => k_is)
    (case aOf => k_is)
    (case lOf => k_is)
    (case cOf => k_is)
    (case kOf => k_is)
    (case aSg => k_is)
    (case lSg => k_is)
    (case cSg => k_is)
    (case kSg => k_is)
    (case aPa => k_is)
    (case lPa => k_is)
    (case cPa => k_is)
    (case kPa => k_is)
    (case aRu => k_is)
    (case lRu => k_is)
    (case cRu => k_is)
    (case kRu => k_is)
    (case aSp => k_is)
    (case lSp => k_is)
    (case cSp => k_is)
    (case kSp => k_is)
    (case aLy => k_is)
    (case lLy => k_is)
    (case cLy => k_is)
    (case kLy => k_is)
    (case aSk => k_is)
    (case lSk => k_is)
    (case cSk => k_is)
    (case kSk => k_is)
    (case aLe => k_is)
    (case lLe => k_is)
    (case cLe => k_is)
    (case kLe => k_is)
    (case aMa => k_is)
    (case lMa => k_is)
    (case cMa => k_is)
    (case kMa => k_is)
    (case aDu => k_is)
    (case lDu => k_is)
    (case cDu => k_is)
    (case kDu => k_is)
    (case aAk => k_is)
    (case lAk => k_is)
    (case cAk => k_is)
    (case kAk => k_is)
    (case aIp => k_is)
    (case lIp => k_is)
    (case cIp => k_is)
    (case kIp => k_is)
    (case aAg => k_is)
    (case lAg => k_is)
    (case cAg => k_is)
    (case kAg => k_is)
    (case aLaw => k_is)
    (case lLaw => k_is)
    (case cLaw => k_is)
    (case kLaw => k_is)
    (case zisinstance => k_is)
    (case zint => k_is)
    (case zbool => k_is)
    (case ztuple => k_is)
    (case zlist => k_is)
    (case zlen => k_is)
    (case zrange => k_is)
    (case zall => k_is)
    (case zenumerate => k_is)
    (case zsorted => k_is)
    (case zset => k_is)
    (case zstr => k_is)
    (case zsuper => k_is)
