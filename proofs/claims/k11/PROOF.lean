import PyProof.Rows.All
import Wide.All
import OpenK.AllK
import Wide.FinOn
import HandS.ForMost
import HandS.Codes
import HandS.Deep
import HandS.ClsMeth
import HandS.Conv
import HandS.Small
import HandS.IsInst
import KE.GoesMore
import KE.GoesEnumKw
import PyProof.Draws
import PyProof.Rows.CallKwBuiltin
import HandS.Sort
import HandS.Strs
import HandS.SetTxt0
import PyProof.CollectStr
import PyProof.StrWalks
import PyProof.Rows.SetFrom
import PyProof.Rows.SortShellAny
import HandS.Zip
import HandS.Walk
import HandS.Exc
import HandS.ExcInit
import HandS.ExcField
import HandS.ExcIs
import HandS.TryMany
import HandS.WordsExc
import HandS.ExcValue
import KE.KExcIs
import HandS.ExcOwn
import HandS.More
import HandS.Text
import HandS.TupSets
import PyProof.SetRoads
import HandS.SortRule
import KE.KSuper
import HandS.Nested
import HandS.Property
import KE.KOwn
import HandS.HotCalls
import PySem.Challenge.RW_smalti_k11_rule_refused
set_option Elab.async false
set_option linter.all false
set_option maxRecDepth 100000
set_option maxHeartbeats 8000000
namespace Pm
open PySem L2
/-! ### the text by places -/
def top (i : Nat) : Stmt := PySem.Challenge.pw_smalti_k11_rule_refused.main.body.getD i (.Pass ⟨0, 0, 0, 0⟩)
abbrev gWall : Stmt := top 0
abbrev cInvalidPictureInit : Stmt := inClass (top 3) 0
abbrev cInvalidRuleInit : Stmt := inClass (top 4) 0
abbrev cInvalidBookInit : Stmt := inClass (top 5) 0
abbrev cOutOfPictureInit : Stmt := inClass (top 6) 0
abbrev cWrongStoneInit : Stmt := inClass (top 7) 0
abbrev gDecimal : Stmt := top 12
abbrev cRegionInit : Stmt := inClass (top 13) 0
abbrev cRegionOf : Stmt := inClass (top 13) 1
abbrev cRegionCells : Stmt := inClass (top 13) 2
abbrev cRegionWithin : Stmt := inClass (top 13) 3
abbrev cRegionOr : Stmt := inClass (top 13) 4
abbrev cRegionAnd : Stmt := inClass (top 13) 5
abbrev cRegionSub : Stmt := inClass (top 13) 6
abbrev cRegionXor : Stmt := inClass (top 13) 7
abbrev cRegionEq : Stmt := inClass (top 13) 8
abbrev cRegionContains : Stmt := inClass (top 13) 9
abbrev cRegionLen : Stmt := inClass (top 13) 10
abbrev cRegionBool : Stmt := inClass (top 13) 11
abbrev cRegionStr : Stmt := inClass (top 13) 12
abbrev gIsStone : Stmt := top 17
abbrev gIsStoneOrHole : Stmt := top 18
abbrev gAreDifferentSigns : Stmt := top 19
abbrev gInAsciiOrder : Stmt := top 20
abbrev gIsBadRow : Stmt := top 21
abbrev gBadLine : Stmt := top 22
abbrev cPictureInit : Stmt := inClass (top 23) 2
abbrev cPictureRead : Stmt := inClass (top 23) 3
abbrev cPicturePlain : Stmt := inClass (top 23) 4
abbrev cPictureLines : Stmt := inClass (top 23) 5
abbrev cPictureEveryCell : Stmt := inClass (top 23) 6
abbrev cPictureStones : Stmt := inClass (top 23) 7
abbrev cPictureHoles : Stmt := inClass (top 23) 8
abbrev cPictureContains : Stmt := inClass (top 23) 9
abbrev cPictureWithSign : Stmt := inClass (top 23) 10
abbrev cPictureGetitem : Stmt := inClass (top 23) 11
abbrev cPictureIter : Stmt := inClass (top 23) 12
abbrev cPictureLen : Stmt := inClass (top 23) 13
abbrev cPictureEq : Stmt := inClass (top 23) 14
abbrev cPictureSub : Stmt := inClass (top 23) 15
abbrev cPictureStr : Stmt := inClass (top 23) 16
abbrev gCheckCell : Stmt := top 24
abbrev gIsPlace : Stmt := top 28
abbrev gCheckConditions : Stmt := top 29
abbrev gCheckNeed : Stmt := top 30
abbrev gInOrder : Stmt := top 31
abbrev gClashesAt : Stmt := top 32
abbrev cRuleInit : Stmt := inClass (top 33) 1
abbrev cRuleSlack : Stmt := inClass (top 33) 2
abbrev cRuleLays : Stmt := inClass (top 33) 3
abbrev cRuleConditions : Stmt := inClass (top 33) 4
abbrev cRuleClashes : Stmt := inClass (top 33) 5
abbrev cRuleFits : Stmt := inClass (top 33) 6
abbrev cRuleWritten : Stmt := inClass (top 33) 7
abbrev cRuleConditionWords : Stmt := inClass (top 33) 8
abbrev cRuleLen : Stmt := inClass (top 33) 9
abbrev cCountRuleInit : Stmt := inClass (top 34) 1
abbrev cCountRuleSlack : Stmt := inClass (top 34) 2
abbrev cCountRuleWritten : Stmt := inClass (top 34) 3
abbrev cSameRuleInit : Stmt := inClass (top 35) 1
abbrev cSameRuleLays : Stmt := inClass (top 35) 2
abbrev cSameRuleConditions : Stmt := inClass (top 35) 3
abbrev cSameRuleWritten : Stmt := inClass (top 35) 4
abbrev lBag : Stmt := top 37
abbrev lTake : Stmt := top 38
abbrev lIsInt : Stmt := top 39
abbrev lPalette : Stmt := top 40
abbrev lOffset : Stmt := top 41
abbrev lSigns : Stmt := top 42
abbrev lParts : Stmt := top 43
abbrev lRule : Stmt := top 44
abbrev lIsLetter : Stmt := top 45
abbrev lMade : Stmt := top 46
abbrev lBadPart : Stmt := top 47
abbrev lFault : Stmt := top 48
abbrev lPartOf : Stmt := top 49
abbrev lBentPart : Stmt := top 50
abbrev lBent : Stmt := top 51
abbrev lLaw : Stmt := top 52
end Pm
namespace Pm
open PySem PySem.Spec PyProof.Rows L2
/-- all that stood stands, but r -/
def SameBut (r : Addr) (H H' : Hp) : Prop := ∀ b o, b ≠ r → H b = some o → H' b = some o
theorem tyes {σ : L2.St} {G : Hp} {R : Bool → Hp → Prop} (h : R true G) : tYes σ G R := h
theorem same_upd {H : Hp} {p : Addr} {o : HO} (h : H p = none) : Same H (upd H p o) := fun b x e => by
  rw [upd_ne (ne_of_none e h)]
  exact e
theorem back {H H' : Hp} (s : Same H H') {t : Addr} (h : H' t = none) : H t = none := by
  cases z : H t with
  | none => rfl
  | some o =>
    rw [s _ _ z] at h
    cases h
theorem but_back {b : Addr} {H H' : Hp} {xs : List V} (hb : H b = some (.lst xs)) (s : SameBut b H H') {t : Addr} (ne : t ≠ b) (h : H' t = none) : H t = none := by
  cases z : H t with
  | none => rfl
  | some o =>
    rw [s _ _ ne z] at h
    cases h
theorem cut_to (xs : List V) (n : Nat) : cutV xs none (some (n : Int)) = xs.take n := by
  unfold cutV
  rw [HT.sIx_none, HT.sIx_nat, List.drop_zero, Nat.sub_zero]
  rcases Nat.le_total n xs.length with h | h
  · rw [Nat.min_eq_left h]
  · rw [Nat.min_eq_right h, List.take_of_length_le (Nat.le_refl _), List.take_of_length_le h]
theorem iteFe {b : Bool} {p q : Prop} (h : b = false) (z : q) : if b = true then p else q := by
  subst h
  exact iteF z
theorem iteTe {b : Bool} {p q : Prop} (h : b = true) (z : p) : if b = true then p else q := by
  subst h
  exact iteT z
/-- the built-ins by their names -/
structure LTxt (K : PySem.W.Frag) (mg : Str → Option Value) : Prop where
  isi : mg "isinstance" = none
  int : mg "int" = none
  lst : mg "list" = none
  len : mg "len" = none
  rng : mg "range" = none
/-- a def that may be called by its name -/
structure Cl (P : Program) (w : World) (K : PySem.W.Frag) (mg : Str → Option Value) (base : Heap) (CX : CXT) (k : Nat) (name : Str) (ps : List Str) (sp : Sp) (f : Addr) (fd : FuncData) : Prop where
  ok : FnOk P w K mg base CX k f fd ps sp
  kp : PySem.W.keepIn K (.ref f) = true
  bd : Binds K fd ps []
  gl : mg name = some (.ref f)
/-! ### the bag of drawn numbers -/
/-- the bag at b: four places; the first a list of ints, the second a place in it or its end, the third at least 0 -/
abbrev BagL (H : Hp) (b l : Addr) : Prop := ∃ (ns : List Int) (i p q : Int),
  H b = some (.lst [.ref l, .int i, .int p, .int q]) ∧ H l = some (.lst (ns.map V.int)) ∧ 0 ≤ i ∧ 0 ≤ p ∧ l ≠ b ∧ ns.length ≤ 63
/-- all but b stands as it stood -/
def But (b : Addr) (H H' : Hp) : Prop := ∀ a, a ≠ b → H' a = H a
theorem But.refl (b : Addr) (H : Hp) : But b H H := fun _ _ => rfl
theorem But.trans {b : Addr} {H H1 H2 : Hp} (x : But b H H1) (y : But b H1 H2) : But b H H2 := fun a h => (y a h).trans (x a h)
theorem But.upd {b : Addr} {H : Hp} {o : HO} : But b H (upd H b o) := fun _ h => upd_ne h
def spTake : Sp := fun vs H Q _ => ∃ (b l : Addr) (size : Int), vs = [.ref b, .int size] ∧ BagL H b l ∧ 0 < size ∧ size < 1073741824 ∧
  ∀ (n : Int) (H' : Hp), 0 ≤ n → n < size → But b H H' → BagL H' b l → Q (.int n) H'
theorem scTake : FnScope ["_law_bag_here", "_law_size", "_law_cell", "_law_digit"] ["_law_bag_here", "_law_size"] (defScope lTake) := ⟨rfl, rfl, rfl, by decide +kernel, rfl, by decide +kernel, by decide +kernel⟩
theorem at4 {a b c d : V} : atI [a, b, c, d] 0 = some a ∧ atI [a, b, c, d] 1 = some b ∧ atI [a, b, c, d] 2 = some c ∧ atI [a, b, c, d] 3 = some d := ⟨rfl, rfl, rfl, rfl⟩
section
variable {P : Program} {w : World} {K : PySem.W.Frag} {mg : Str → Option Value} {base : Heap}
theorem ok_take {f : Addr} {fd : FuncData} (F : Fun K "_law_take" "_law_take" lTake f fd) (mlen : mg "len" = none) (mint : mg "int" = none) : FnOk P w K mg base CX0 1 f fd ["_law_bag_here", "_law_size"] spTake := by
  refine F.ok scTake (fun vs H Q E h => ?_) (fun cdv A outer s H vs Q E hr h => ?_)
  · obtain ⟨b, l, size, rfl, _⟩ := h
    rfl
  · obtain ⟨b, l, size, rfl, ⟨ns, i, p, q, hb, hl, i0, p0, nlb, n63⟩, s0, s1, k⟩ := h
    refine ⟨_, C8.pss_cut (ps_if (PW.pt (pw_and (pt_cmpR op_eq (pe_ix ix_list (pv 0) pe_int (fun _ _ => rfl)) pe_int (nomark _))
          (pw_and1 (pt_cmpR op_lt (pe_ix ix_list (pv 0) pe_int (fun _ _ => rfl)) (pe_callB call_len_seq (by rfl) mlen PySem.boot_len (pa_cons (pe_ix ix_list (pv 0) pe_int (fun _ _ => rfl)) pa_nil)) (nomark _)))))
        (pss_cons (ps_set (i := 2) scTake.nd rfl (.inl rfl) (pe_ix ix_list (pe_ix ix_list (pv 0) pe_int (fun _ _ => rfl)) (pe_ix ix_list (pv 0) pe_int (fun _ _ => rfl)) (fun _ _ => rfl)))
        (pss_cons (ps_asg (pe_op op_add (pe_ix ix_list (pv 0) pe_int (fun _ _ => rfl)) pe_int) (pg_sub (pv 0) pe_int set_list))
        (pss_one (ps_if (pt_cmpR op_ge (pv 2) (pe_op op_pow pe_int pe_int) (nomark _))
          (pss_one (ps_asg (pv 2) (pg_sub (pv 0) pe_int set_list)))
          (pss_one (ps_asg (pe_op op_mod (pe_callTy call_int1 (by rfl) mint (by decide +kernel) (pa_cons (pe_op op_add (pe_op op_add (pe_op op_mul (pe_ix ix_list (pv 0) pe_int (fun _ _ => rfl)) pe_int) (pe_op op_mul (pv 2) pe_int)) pe_int) pa_nil)) pe_int) (pg_sub (pv 0) pe_int set_list)))))))
        pss_nil)
      (pss_cons (ps_if (pt_cmpR op_gt (pe_ix ix_list (pv 0) pe_int (fun _ _ => rfl)) pe_int (nomark _))
        (pss_cons (ps_set (i := 3) scTake.nd rfl (.inl rfl) (pe_op op_mod (pe_callTy call_int1 (by rfl) mint (by decide +kernel) (pa_cons (pe_ix ix_list (pv 0) pe_int (fun _ _ => rfl)) pa_nil)) (pv 1)))
        (pss_cons (ps_asg (pe_op op_fdiv (pe_ix ix_list (pv 0) pe_int (fun _ _ => rfl)) (pv 1)) (pg_sub (pv 0) pe_int set_list))
        (pss_one (ps_ret (pv 3)))))
        pss_nil)
      (pss_cons (ps_asg (pe_op op_mod (pe_callTy call_int1 (by rfl) mint (by decide +kernel) (pa_cons (pe_op op_add (pe_op op_mul (pe_ix ix_list (pv 0) pe_int (fun _ _ => rfl)) pe_int) pe_int) pa_nil)) pe_int) (pg_sub (pv 0) pe_int set_list))
      (pss_one (ps_ret (pe_op op_mod (pe_callTy call_int1 (by rfl) mint (by decide +kernel) (pa_cons (pe_op op_fdiv (pe_ix ix_list (pv 0) pe_int (fun _ _ => rfl)) pe_int) pa_nil)) (pv 1)))))), ?_⟩
    have seven : ∀ q' : Int, (0 : Int) < 2147483647 := fun _ => by decide
    refine ⟨fun σ H1 => ∃ (c : Option V) (i' p' q' : Int), σ = [some (.ref b), some (.int size), c, Option.none] ∧ But b H H1 ∧ H1 b = some (.lst [.ref l, .int i', .int p', .int q']) ∧ 0 ≤ i' ∧ 0 ≤ p', ?_, ?_⟩
    · -- if bag[2] == 0 and bag[1] < len(bag[0])
      refine ⟨_, rfl, b, _, 2, _, rfl, rfl, SqL.of hb, rfl, rfl, _, rfl, ite2 (fun _ => ?_) (fun _ => ⟨_, i, p, q, rfl, But.refl b H, hb, i0, p0⟩)⟩
      refine ⟨_, rfl, b, _, 1, _, rfl, rfl, SqL.of hb, rfl, _, rfl, b, _, 0, _, rfl, rfl, SqL.of hb, rfl, l, _, rfl, .inl (SqL.of hl), _, _, rfl, rfl, _, rfl, ite2 (fun e => ?_) (fun _ => ⟨_, i, p, q, rfl, But.refl b H, hb, i0, p0⟩)⟩
      have elt : i < ((ns.map V.int).length : Int) := of_decide_eq_true e
      rw [List.length_map] at elt
      obtain ⟨j, rfl⟩ : ∃ j : Nat, i = (j : Int) := ⟨i.toNat, by omega⟩
      have hj : j < ns.length := by omega
      have gj : (ns.map V.int)[j]? = some (.int ns[j]) := by
        rw [List.getElem?_map, List.getElem?_eq_getElem hj]
        rfl
      -- cell = bag[0][bag[1]]
      refine ⟨_, rfl, b, _, 0, _, rfl, rfl, SqL.of hb, rfl, _, rfl, b, _, 1, _, rfl, rfl, SqL.of hb, rfl, l, _, (j : Int), _, rfl, rfl, SqL.of hl, atI_nat gj, ?_⟩
      -- bag[1] = bag[1] + 1
      refine ⟨_, rfl, b, _, 1, _, rfl, rfl, SqL.of hb, rfl, _, _, rfl, rfl, _, rfl, b, _, 1, 1, rfl, rfl, hb, rfl, ?_⟩
      have hb1 : (upd H b (.lst [.ref l, .int ((j : Int) + 1), .int p, .int q])) b = some (.lst [.ref l, .int ((j : Int) + 1), .int p, .int q]) := upd_same
      have bu : But b H (upd H b (.lst [.ref l, .int ((j : Int) + 1), .int p, .int q])) := But.upd
      refine ⟨_, rfl, _, _, rfl, rfl, ⟨by decide, by decide, by decide⟩, _, _, rfl, rfl, _, rfl, ite2 (fun e2 => ?_) (fun _ => ?_)⟩
      · have big : (10 : Int) ^ (18 : Int).toNat ≤ ns[j] := of_decide_eq_true e2
        have pos : (0 : Int) ≤ (10 : Int) ^ (18 : Int).toNat := by decide
        refine ⟨_, rfl, _, rfl, b, _, 2, 2, rfl, rfl, hb1, rfl, ?_⟩
        exact ⟨_, (j : Int) + 1, ns[j], q, rfl, bu.trans But.upd, upd_same, by omega, by omega⟩
      · refine ⟨_, rfl, b, _, 3, _, rfl, rfl, SqL.of hb1, rfl, _, _, rfl, rfl, .inr ⟨by decide, by decide⟩, _, rfl, _, _, rfl, rfl, .inr ⟨by decide, by decide⟩, _, _, rfl, rfl, _, _, rfl, rfl, .inl ⟨_, rfl, _, _, rfl, rfl, seven 0, _, rfl, b, _, 3, 3, rfl, rfl, hb1, rfl, ?_⟩⟩
        exact ⟨_, (j : Int) + 1, p, _, rfl, bu.trans But.upd, upd_same, by omega, p0⟩
    · rintro σ H1 ⟨c, i', p', q', rfl, bu, hb1, i1, p1⟩
      have hl1 : H1 l = some (.lst (ns.map V.int)) := (bu l nlb).trans hl
      refine ⟨_, rfl, b, _, 2, _, rfl, rfl, SqL.of hb1, rfl, _, _, rfl, rfl, _, rfl, ite2 (fun _ => ?_) (fun _ => ?_)⟩
      · -- digit = int(bag[2]) % size; bag[2] = bag[2] // size; return digit
        refine ⟨_, rfl, b, _, 2, _, rfl, rfl, SqL.of hb1, rfl, .inl ⟨_, rfl, _, rfl, _, _, rfl, rfl, s0, ?_⟩⟩
        refine ⟨_, rfl, b, _, 2, _, rfl, rfl, SqL.of hb1, rfl, _, rfl, _, _, rfl, rfl, ⟨s0, s1⟩, _, rfl, b, _, 2, 2, rfl, rfl, hb1, rfl, _, rfl, ?_⟩
        refine k _ _ (Int.emod_nonneg _ (by omega)) (Int.emod_lt_of_pos _ s0) (bu.trans But.upd) ⟨ns, i', p' / size, q', upd_same, ?_, i1, Int.ediv_nonneg p1 (by omega), nlb, n63⟩
        rw [upd_ne nlb]
        exact hl1
      · refine ⟨_, rfl, b, _, 3, _, rfl, rfl, SqL.of hb1, rfl, _, _, rfl, rfl, .inr ⟨by decide, by decide⟩, _, _, rfl, rfl, .inl ⟨_, rfl, _, _, rfl, rfl, seven 0, _, rfl, b, _, 3, 3, rfl, rfl, hb1, rfl, ?_⟩⟩
        have hb2 : (upd H1 b (.lst [.ref l, .int i', .int p', .int ((q' * 48271 + 11) % 2147483647)])) b = some (.lst [.ref l, .int i', .int p', .int ((q' * 48271 + 11) % 2147483647)]) := upd_same
        refine ⟨_, rfl, b, _, 3, _, rfl, rfl, SqL.of hb2, rfl, _, _, rfl, rfl, ⟨by decide, by decide⟩, .inl ⟨_, rfl, _, rfl, _, _, rfl, rfl, s0, ?_⟩⟩
        refine k _ _ (Int.emod_nonneg _ (by omega)) (Int.emod_lt_of_pos _ s0) (bu.trans But.upd) ⟨ns, i', p', _, upd_same, ?_, i1, p1, nlb, n63⟩
        rw [upd_ne nlb]
        exact hl1
def spBag (K : PySem.W.Frag) : Sp := fun vs H Q _ => ∃ (a : Addr) (ns : List Int), vs = [.ref a] ∧ SqL K H a (ns.map V.int) ∧ ns.length ≤ 63 ∧ ∀ b l H', Same H H' → H b = none → BagL H' b l → Q (.ref b) H'
abbrev nBag : List Str := ["_law_script", "_law_cell"]
theorem scBag : FnScope nBag ["_law_script"] (defScope lBag) := ⟨rfl, rfl, rfl, by decide +kernel, rfl, by decide +kernel, by decide +kernel⟩
theorem ok_bag {f : Addr} {fd : FuncData} (F : Fun K "_law_bag" "_law_bag" lBag f fd) (T : LTxt K mg) : FnOk P w K mg base CX0 1 f fd ["_law_script"] (spBag K) := by
  refine F.ok scBag (fun vs H Q E h => ?_) (fun cdv A outer s H vs Q E hr h => ?_)
  · obtain ⟨a, ns, rfl, _⟩ := h
    rfl
  · obtain ⟨a, ns, rfl, ha, few, k⟩ := h
    refine ⟨_, pss_one (ps_ret (pe_lst (pa_cons (pe_lc (own := [("_law_cell", 1)]) (g := gName 1) (tt := tYes) rfl scBag.nd (pi_list (pe_slice sl_list (pv 0) po_none (po_some pe_int)))
      (blkOk_by (own := [("_law_cell", 1)]) (N := nBag) (sc := defScope lBag) (by decide +kernel)) (fun _ _ _ _ _ => pg_name (i := 1) scBag.nd rfl (Or.inl rfl)) (fun _ _ _ _ _ => pts_nil)
      (fun _ _ _ _ _ => pe_callTy call_int1 (by rfl) T.int (by decide +kernel) (pa_cons (pv 1) pa_nil))) (pa_cons pe_int (pa_cons pe_int (pa_cons pe_int pa_nil)))))), ?_⟩
    refine ⟨_, rfl, 63, rfl, a, _, rfl, ha, fun q nq => ?_⟩
    have ec : cutV (ns.map V.int) none (some 63) = ns.map V.int := by
      rw [show (some 63 : Option Int) = some ((63 : Nat) : Int) from rfl, cut_to, List.take_of_length_le (by rw [List.length_map]; exact few)]
    rw [ec]
    have s1 := same_upd (o := .lst (ns.map V.int)) nq
    refine ⟨q, rfl, ⟨_, SqL.of upd_same⟩, fun D nD => lc_list (K := K) (a := q) (xs := ns.map V.int) (fun i G => Same (upd H q (.lst (ns.map V.int))) G ∧ G D = some (.lst ((ns.take i).map V.int))) ⟨same_upd nD, upd_same⟩ (fun i G _ ⟨sm, _⟩ => SqL.of (sm _ _ upd_same)) ?_ ?_⟩
    · rintro i x G hx ⟨sm, hD⟩
      rw [List.getElem?_map] at hx
      cases e : ns[i]? with
      | none =>
        rw [e] at hx
        cases hx
      | some n =>
        rw [e] at hx
        cases hx
        refine ⟨rfl, tyes (iteT ⟨_, rfl, .inl ⟨n, rfl, _, hD, ?_, fun b o eb => ?_, ?_⟩⟩)⟩
        · rw [List.length_map, List.length_take]
          exact small1000 (by omega)
        · rw [upd_ne (ne_of_none eb nD)]
          exact sm _ _ eb
        · rw [upd_same, List.take_add_one, e, List.map_append]
          rfl
    · rintro G ⟨sm, hD⟩
      rw [List.length_map, List.take_of_length_le (Nat.le_refl _)] at hD
      refine ⟨(by show 4 ≤ sizeLine; decide), fun b nb => ?_⟩
      have nb0 : H b = none := by
        cases z : H b with
        | none => rfl
        | some o =>
          rw [sm _ _ (s1 _ _ z)] at nb
          cases nb
      have ndb : D ≠ b := ne_of_none hD nb
      exact k b D _ (fun x o e => by
        rw [upd_ne (ne_of_none (sm _ _ (s1 _ _ e)) nb)]
        exact sm _ _ (s1 _ _ e)) nb0 ⟨ns, 0, 0, 7, upd_same, by rw [upd_ne ndb]; exact hD, by decide, by decide, ndb, few⟩
end
end Pm
namespace Pm
open PySem PySem.Spec PyProof.Rows L2 SX
/-! ### signs -/
abbrev alphaS : Str := "abcdefghijklmnopqrstuvwxyz"
def Let (c : Nat) : Prop := 97 ≤ c ∧ c ≤ 122
def Good (c : Nat) : Prop := c = 46 ∨ Let c
instance (c : Nat) : Decidable (Let c) := by unfold Let; infer_instance
instance (c : Nat) : Decidable (Good c) := by unfold Good; infer_instance
theorem alpha_at : ∀ n : Nat, n < 26 → alphaS.cps.toList[n]? = some (97 + n) := by decide +kernel
theorem alpha_mem (c : Nat) : c ∈ alphaS.cps.toList ↔ Let c := by
  have e : alphaS.cps.toList = List.range' 97 26 := by decide +kernel
  rw [e, List.mem_range'_1]
  unfold Let
  omega
theorem alpha_len : alphaS.length = 26 := by decide +kernel
theorem len_S (a : List Nat) : (S a).length = a.length := S_len a
theorem small_line {n : Nat} (h : n ≤ 1000) : n ≤ sizeLine := Nat.le_of_lt (small1000 h)
theorem dot_S : ("." : Str) = S [46] := by decide +kernel
/-- three letters -/
def Pal (z : List Nat) : Prop := ∃ c d e, z = [c, d, e] ∧ Let c ∧ Let d ∧ Let e
theorem Pal.len {z : List Nat} (h : Pal z) : z.length = 3 := by
  obtain ⟨c, d, e, rfl, _⟩ := h
  rfl
theorem Pal.good {z : List Nat} (h : Pal z) {c : Nat} (m : c ∈ z) : Let c := by
  obtain ⟨a, b, e, rfl, ha, hb, he⟩ := h
  simp only [List.mem_cons, List.not_mem_nil, or_false] at m
  rcases m with rfl | rfl | rfl <;> assumption
theorem draw_at {z : List Nat} (h : Pal z) {n : Int} (n0 : 0 ≤ n) (n7 : n < 7) : ∃ c, atI ([46] ++ z ++ z) n = some c ∧ Good c := by
  obtain ⟨j, rfl⟩ : ∃ j : Nat, n = (j : Int) := ⟨n.toNat, by omega⟩
  have len : ([46] ++ z ++ z).length = 7 := by simp [h.len]
  have hj : j < ([46] ++ z ++ z).length := by omega
  refine ⟨([46] ++ z ++ z)[j], atI_nat (List.getElem?_eq_getElem hj), ?_⟩
  have m := List.getElem_mem hj
  rcases List.mem_append.mp m with m | m
  · rcases List.mem_append.mp m with m | m
    · exact .inl (by simpa using m)
    · exact .inr (h.good m)
  · exact .inr (h.good m)
section
variable {P : Program} {w : World} {K : PySem.W.Frag} {mg : Str → Option Value} {base : Heap}
def spPal : Sp := fun vs H Q _ => ∃ b l, vs = [.ref b] ∧ BagL H b l ∧ ∀ z H', Pal z → But b H H' → BagL H' b l → Q (.str (S z)) H'
theorem scPal : FnScope ["_law_bag_here", "_law_letters", "_law_first", "_law_second", "_law_third"] ["_law_bag_here"] (defScope lPalette) := ⟨rfl, rfl, rfl, by decide +kernel, rfl, by decide +kernel, by decide +kernel⟩
abbrev tkNames : List Str := ["_law_bag_here", "_law_size"]
theorem ok_pal {f t : Addr} {fd td : FuncData} (F : Fun K "_law_palette" "_law_palette" lPalette f fd) (T : Cl P w K mg base CX0 1 "_law_take" tkNames spTake t td) (L : LTxt K mg) : FnOk P w K mg base CX0 2 f fd ["_law_bag_here"] spPal := by
  refine F.ok scPal (fun vs H Q E h => ?_) (fun cdv A outer s H vs Q E hr h => ?_)
  · obtain ⟨b, l, rfl, _⟩ := h
    rfl
  · obtain ⟨b, l, rfl, hb, k⟩ := h
    refine ⟨_, pss_cons (ps_set (i := 1) scPal.nd rfl (.inl rfl) pe_str)
      (pss_cons (ps_set (i := 2) scPal.nd rfl (.inl rfl) (pe_call T.ok hr (by rfl) T.gl T.kp T.bd .nil pass0 (pa_cons (pv 0) (pa_cons pe_int pa_nil))))
      (pss_cons (ps_set (i := 3) scPal.nd rfl (.inl rfl) (pe_op op_mod (pe_callTy call_int1 (by rfl) L.int (by decide +kernel) (pa_cons (pe_op op_add (pe_op op_add (pv 2) pe_int) (pe_call T.ok hr (by rfl) T.gl T.kp T.bd .nil pass0 (pa_cons (pv 0) (pa_cons pe_int pa_nil)))) pa_nil)) pe_int))
      (pss_cons (ps_set (i := 4) scPal.nd rfl (.inl rfl) (pe_op op_mod (pe_callTy call_int1 (by rfl) L.int (by decide +kernel) (pa_cons (pe_op op_add (pe_op op_add (pv 3) pe_int) (pe_call T.ok hr (by rfl) T.gl T.kp T.bd .nil pass0 (pa_cons (pv 0) (pa_cons pe_int pa_nil)))) pa_nil)) pe_int))
      (pss_one (ps_ret (pe_op op_add_str (pe_op op_add_str (pe_ix ix_str (pv 1) (pv 2) (fun _ _ => rfl)) (pe_ix ix_str (pv 1) (pv 3) (fun _ _ => rfl))) (pe_ix ix_str (pv 1) (pv 4) (fun _ _ => rfl)))))))), ?_⟩
    refine ⟨_, rfl, b, l, 26, rfl, hb, by decide, by decide, fun n H1 n0 n1 u1 b1 => ?_⟩
    refine ⟨_, rfl, _, _, rfl, rfl, _, rfl, b, l, 25, rfl, b1, by decide, by decide, fun n2 H2 p0 p1 u2 b2 => ⟨_, _, rfl, rfl, .inl ⟨_, rfl, _, _, rfl, rfl, (by show (0 : Int) < 26; decide), ?_⟩⟩⟩
    refine ⟨_, rfl, _, _, rfl, rfl, _, rfl, b, l, 25, rfl, b2, by decide, by decide, fun n3 H3 q0 q1 u3 b3 => ⟨_, _, rfl, rfl, .inl ⟨_, rfl, _, _, rfl, rfl, (by show (0 : Int) < 26; decide), ?_⟩⟩⟩
    have at_ : ∀ m : Int, 0 ≤ m → m < 26 → ∃ c, atI alphaS.cps.toList m = some c ∧ Let c := fun m h0 h1 => by
      obtain ⟨j, rfl⟩ : ∃ j : Nat, m = (j : Int) := ⟨m.toNat, by omega⟩
      exact ⟨97 + j, atI_nat (alpha_at j (by omega)), by unfold Let; omega⟩
    obtain ⟨c, ec, hc⟩ := at_ n n0 n1
    obtain ⟨d, ed, hd⟩ := at_ _ (Int.emod_nonneg (n + 1 + n2) (show (26 : Int) ≠ 0 by decide)) (Int.emod_lt_of_pos (n + 1 + n2) (show (0 : Int) < 26 by decide))
    obtain ⟨e, ee, he⟩ := at_ _ (Int.emod_nonneg ((n + 1 + n2) % 26 + 1 + n3) (show (26 : Int) ≠ 0 by decide)) (Int.emod_lt_of_pos ((n + 1 + n2) % 26 + 1 + n3) (show (0 : Int) < 26 by decide))
    have al : alphaS.length ≤ sizeLine := by rw [alpha_len]; exact small_line (by decide)
    refine ⟨_, rfl, _, rfl, _, _, _, rfl, rfl, al, ec, ?_⟩
    refine ⟨_, rfl, _, rfl, _, _, _, rfl, rfl, al, ed, _, _, rfl, rfl, by show 1 + 1 ≤ sizeLine; decide, ?_⟩
    refine ⟨_, rfl, _, rfl, _, _, _, rfl, rfl, al, ee, _, _, rfl, rfl, by show 2 + 1 ≤ sizeLine; decide, ?_⟩
    have z : (S [c] ++ S [d]) ++ S [e] = S [c, d, e] := by rw [S_cat, S_cat]; rfl
    have y := k [c, d, e] H3 ⟨c, d, e, rfl, hc, hd, he⟩ ((u1.trans u2).trans u3) b3
    rw [← z] at y
    exact y
end
/-! ### grids -/
abbrev Rows := List (List Nat)
def rowsV (R : Rows) : List V := R.map fun r => V.str (S r)
structure Grid (R : Rows) (w : Nat) : Prop where
  w1 : 1 ≤ w
  w8 : w ≤ 8
  h1 : 1 ≤ R.length
  h8 : R.length ≤ 8
  row : ∀ r ∈ R, r.length = w
  sgn : ∀ r ∈ R, ∀ c ∈ r, Good c
theorem rowsV_len (R : Rows) : (rowsV R).length = R.length := List.length_map _
theorem bag_upd {H : Hp} {b l t : Addr} {o : HO} (h : BagL H b l) (n : H t = none) : BagL (upd H t o) b l := by
  obtain ⟨ns, i, p, q, hb, hl, r⟩ := h
  exact ⟨ns, i, p, q, by rw [upd_ne (ne_of_none hb n)]; exact hb, by rw [upd_ne (ne_of_none hl n)]; exact hl, r⟩
theorem bag_b {H : Hp} {b l : Addr} (h : BagL H b l) : ∃ xs, H b = some (.lst xs) := by
  obtain ⟨_, _, _, _, hb, _⟩ := h
  exact ⟨_, hb⟩
theorem bag_ne {H : Hp} {b l t : Addr} {o : HO} (h : BagL H b l) (tb : t ≠ b) (tl : t ≠ l) : BagL (upd H t o) b l := by
  obtain ⟨ns, i, p, q, hb, hl, r⟩ := h
  exact ⟨ns, i, p, q, by rw [upd_ne (Ne.symm tb)]; exact hb, by rw [upd_ne (Ne.symm tl)]; exact hl, r⟩
theorem bag_l {H : Hp} {b l : Addr} (h : BagL H b l) : ∃ xs, H l = some (.lst xs) := by
  obtain ⟨_, _, _, _, _, hl, _⟩ := h
  exact ⟨_, hl⟩
theorem but_same {b : Addr} {H H' : Hp} (h : But b H H') : SameBut b H H' := fun a o ha e => (h a ha).trans e
theorem sb_trans {b : Addr} {H H1 H2 : Hp} (h : SameBut b H H1) (k : SameBut b H1 H2) : SameBut b H H2 := fun a o ha e => k a o ha (h a o ha e)
theorem sb_refl (b : Addr) (H : Hp) : SameBut b H H := fun _ _ _ e => e
theorem same_sb {b : Addr} {H H' : Hp} (h : Same H H') : SameBut b H H' := fun a o _ e => h a o e
end Pm
namespace Pm
open PySem PySem.Spec PyProof.Rows L2 SX
/-! ### for i, x in enumerate(xs, start=1) -/
/-- the list at a, item by item, each with its number counted from 1, in a new pair -/
def ItS (K : PySem.W.Frag) (a : Addr) : It where
  go := fun i H => ∃ (xs : List V) (x : V), SqL K H a xs ∧ xs[i]? = some x
  yld := fun i H v H' => ∃ T x, v = .ref T ∧ H T = none ∧ H' = upd H T (.tup [.int ((i : Int) + 1), x]) ∧ ∀ xs, SqL K H a xs → xs[i]? = some x
  stop := fun i H => ∃ xs : List V, SqL K H a xs ∧ xs.length = i
/-- a list's draws, counted from 1 -/
theorem draws1 {prog : Program} {w : World} {A : Around} (hh : A.handled = none) (it l : Addr) (ne : l ≠ it) (xs : Array Value) :
    Draws prog w A it [it, l] (xs.size + 1) (fun i v => xs[i - 1]? = some v) (fun i h => 1 ≤ i ∧ h.IsListIter it l (i - 1) ∧ h.IsList l xs) := by
  have D := Draws.list (prog := prog) (w := w) hh it l ne xs
  refine ⟨fun i h st => D.live (i - 1) h st.2, fun i h g st k => ⟨st.1, D.frame (i - 1) h g st.2 k⟩, ?_, fun s Q E st q => D.done s Q E st.2 q⟩
  intro i s Q E lt st q
  obtain ⟨j, rfl⟩ : ∃ j, i = j + 1 := ⟨i - 1, by have := st.1; omega⟩
  exact D.item j s Q E (by omega) st.2 fun x g tk px sx sb => q x g tk px ⟨by omega, sx⟩ sb
theorem apartL {h : Heap} {a it : Addr} {xs : Array Value} {i : Nat} (isl : h.IsList a xs) (h2 : h.IsListIter it a i) : a ≠ it := fun z => by
  obtain ⟨o, y, yc, n, yd⟩ := isl
  obtain ⟨o', y', _, yd'⟩ := h2
  rw [z, y'] at y
  cases y
  rw [yd'] at yd
  cases yd
theorem apartE {h : Heap} {a e it : Addr} {xs : Array Value} {i : Int} {w : Value} (isl : h.IsList a xs) (h1 : IsEnum h e it i w) : e ≠ a := fun z => by
  obtain ⟨o, y, yc, n, yd⟩ := isl
  rw [← z, h1] at y
  cases y
  cases yd
def tnS (e it a : Addr) (i : Nat) (h : Heap) : Prop := (∃ o, IsEnum h e it ((i + 1 : Nat) : Int) o) ∧ h.IsListIter it a i ∧ e ≠ it
theorem turnS {P : Program} {w : World} {K : PySem.W.Frag} {es : List Expr} {kk : Nat} {tp : Pos} (a e it : Addr) : Turn P w K (.Tuple es kk tp) (ItS K a) [e, it] e (tnS e it a) := by
  have two : ∀ {b : Addr}, b ∈ [e, it] → b = e ∨ b = it := fun m => by simpa using m
  constructor
  case mem => exact List.mem_cons_self
  case obj =>
    rintro i h ⟨⟨o1, h1⟩, ⟨o2, h2, _, d2⟩, _⟩ b m
    rcases two m with rfl | rfl
    · exact ⟨_, h1, fun v q => nomatch q⟩
    · refine ⟨o2, h2, fun v q => ?_⟩
      rw [d2] at q
      cases q
  case keep =>
    rintro i h g ⟨⟨o1, h1⟩, h2, ne⟩ k
    exact ⟨⟨o1, k e (by simp) _ h1⟩, h2.at fun o y => k it (by simp) o y, ne⟩
  case self =>
    rintro A i s Q E ⟨⟨_, h1⟩, _⟩ q
    exact wpAny_pyIter_enum h1 q
  case done =>
    rintro X rfl rfl rfl calm i pins s σ H E I free ⟨⟨o1, h1⟩, h2, ne⟩ ⟨xs, hx, rfl⟩
    obtain ⟨us, rv, isl, _⟩ := I.list hx
    obtain ⟨f0, f1, f2, f3, f4, f5⟩ := free it (by simp)
    have D := draws1 (prog := X.prog) (w := X.w) (A := X.A.in1) (I.ok.hd calm) it a (apartL isl.isList h2) us.toArray
    have e5 : us.toArray.size = xs.length := by simpa using rv.length.symm
    rw [e5] at D
    exact wpAny_pyNext_enum_endD D h1 ⟨by omega, h2, isl.isList⟩ fun g eb => ⟨rfl, I.turned (t' := s.toks) (fun b o nb y => eb b o nb y) f0 f1 f3 f4 f5⟩
  case item =>
    rintro X rfl rfl rfl calm i pins s σ H E I free ⟨⟨o1, h1⟩, h2, ne⟩ ⟨xs, x, hx, gx⟩
    obtain ⟨us, rv, isl, _⟩ := I.list hx
    obtain ⟨u, gu, ru⟩ := rv.get gx
    have nl := apartL isl.isList h2
    have D := draws1 (prog := X.prog) (w := X.w) (A := X.A.in1) (I.ok.hd calm) it a nl us.toArray
    have big : e < s.heap.objs.size := Heap.lt_size h1
    have sz : i < us.length := by
      rcases List.getElem?_eq_some_iff.mp gu with ⟨y, _⟩
      exact y
    refine wpAny_pyNext_enum_itemD (i := i + 1) D h1 ⟨by omega, h2, isl.isList⟩ (by simpa using sz) ne (fun m => ?_) fun v g tk pv eo st gT gs gk => ?_
    · rcases List.mem_cons.mp m with z | z
      · exact ne z
      · exact apartE isl.isList h1 (List.mem_singleton.mp z)
    · have ev : v = u := by
        have y : us.toArray[i]? = some v := pv
        rw [List.getElem?_toArray, gu] at y
        exact (Option.some.inj y).symm
      subst ev
      refine ⟨_, rfl, wpAny_letOwnedTupleGo_enum (s := { s with heap := g, toks := tk + 1 }) eo fun g2 e2 sb => ?_⟩
      have T2 : g2.get? s.heap.objs.size = some { cls := .type "tuple", data := .seq #[.int ((i + 1 : Nat) : Int) tk, v] } :=
        (sb.2 _ (Nat.ne_of_gt big)).trans gT
      have fresh : H s.heap.objs.size = none := I.hok.fresh (Nat.le_refl _)
      have pair : ObjOk X.prog X.w (upd H s.heap.objs.size (.tup [.int ((i : Int) + 1), x])) g2 s.heap.objs.size (.tup [.int ((i : Int) + 1), x]) :=
        ⟨small_line (by show 2 ≤ 1000; decide), [.int ((i + 1 : Nat) : Int) tk, v], .cons ⟨_, rfl⟩ (.cons ru .nil), ⟨_, T2, rfl, _, rfl⟩⟩
      have J : L2.Inv X pins σ (upd H s.heap.objs.size (.tup [.int ((i : Int) + 1), x])) { s with heap := g2, toks := tk + 1 } :=
        I.turnedNew (ch := [e, it]) (fun b o nb y => (sb.2 b (fun z => nb (by simp [z]))).trans (gk b o (fun z => nb (by simp [z])) (fun z => nb (by simp [z])) y)) free (Nat.le_refl _) pair
      refine ⟨.ref s.heap.objs.size, _, J, rfl, ⟨_, x, rfl, fresh, rfl, fun ys hy => ?_⟩, ⟨⟨v, e2⟩, st.2.1.at fun o y => (sb.2 it (Ne.symm ne)).trans y, ne⟩, fun b m => ?_⟩
      · rw [I.list_inj hy hx]
        exact gx
      · rw [upd_ne (fun z => ?_)]
        · exact (free b m).1
        · rcases two m with y | y
          · rw [y] at z
            rw [← z] at big
            exact Nat.lt_irrefl _ big
          · have lt2 : it < s.heap.objs.size := by
              obtain ⟨_, y2, _⟩ := h2
              exact Heap.lt_size y2
            rw [y] at z
            rw [← z] at lt2
            exact Nat.lt_irrefl _ lt2
/-! ### its making -/
section
variable {M : Model} {A : Around} {E : Value → Shared → Prop} {s : Shared} {env : Env}
theorem kw_type {pos : Pos} {T : String} {e : Expr} {es : List Expr} {kws : List Keyword} {Q : Value → Shared → Prop}
    (h : wpAny M A (spliced (backTo pos (starEach (e :: es) env))) (fun us s1 => wpAny M A (evalAll ((backToKw pos (keywordEach kws env)).map (·.2)))
      (fun ks s2 => wpAny M A (call (.type T) us (((backToKw pos (keywordEach kws env)).filterMap (·.1)).zip ks)) Q E s2) E s1) E s)
    (h1 : backTo pos (starEach (e :: es) env) = (false, eval e env) :: backTo pos (starEach es env) := by rfl) (h2 : (backTo pos (starEach (e :: es) env)).any (·.1) = false := by rfl)
    (h3 : (backToKw pos (keywordEach kws env)).all (·.1.isSome) = true := by rfl) (h4 : (backToKw pos (keywordEach kws env)).any (·.1.isNone) = false := by rfl) :
    wpAny M A (callWith pos (.type T) [] (backTo pos (starEach (e :: es) env)) (backToKw pos (keywordEach kws env))) Q E s := by
  have go : wpAny M A (evalArgs (.type T) true (backTo pos (starEach (e :: es) env)) (backToKw pos (keywordEach kws env))) (fun a s1 => wpAny M A (call (.type T) ([] ++ a.pos) a.kw) Q E s1) E s := by
    rw [h1] at h ⊢
    exact evalArgs_kwB h3 h
  unfold callWith
  refine wpAny_bind (wpAny_holding (wpAny_mono go (fun a s1 r => wpAny_bind (wpAny_standAt ?_)) fun _ _ y => y))
  simp only [h2, h4, Bool.or_false]
  exact wpAny_bind (wpAny_pure (wpAny_bind (wpAny_mono r (fun u s2 q => wpAny_bind (wpAny_holding (wpAny_point (wpAny_pure q)))) fun _ _ y => y)))
end
def iEnS (K : PySem.W.Frag) (ta tk : TA) : TI := fun σ H R => ta σ H fun vs H1 => tk σ H1 fun zs H2 => ∃ a xs, vs = [.ref a] ∧ zs = [.int 1] ∧ SqL K H2 a xs ∧ R (ItS K a) H2
theorem pi_enumS {X : Cx} {e ke : Expr} {ta tk : TA} {p kp pos tp : Pos} {es : List Expr} {kk : Nat} (hg : Gl X "enumerate") (hm : X.mg "enumerate" = none) (ha : PA X [e] ta) (hk : PK X [⟨some "start", ke, kp⟩] tk)
    (h1 : backTo pos (starEach [e] X.env) = (false, eval e X.env) :: backTo pos (starEach [] X.env) := by rfl) (h2 : (backTo pos (starEach [e] X.env)).any (·.1) = false := by rfl) :
    PI X (.Tuple es kk tp) (.Call (.Name "enumerate" p) [e] [⟨some "start", ke, kp⟩] pos) (iEnS X.K ta tk) := by
  refine ⟨fun pins s σ H R I h => ?_⟩
  refine wpAny_Call_Name_kw (ld_blt I hg hm boot_enumerate (kw_type (thn (ha.run pos pins s σ H _ I h) fun us s1 ⟨vs, H1, I1, r1, q1⟩ => thn (hk.run pos pins s1 σ H1 _ I1 q1) fun ks s2 ⟨zs, H2, I2, r2, a, xs, ev, ez, hx, q⟩ => ?_) h1 h2) (by decide) (by decide))
  subst ev ez
  match r1, r2 with
  | .cons ra .nil, .cons rk .nil =>
    cases ra
    obtain ⟨t, rfl⟩ := rk
    obtain ⟨vals, rv, isl, _⟩ := I2.list hx
    refine enum_begins_start (begins_list a vals.toArray) isl.isList (by decide) (by decide) fun g he hi hz hk2 => wpAny_pyIter_enum he ?_
    have J : L2.Inv X pins σ H2 { s2 with heap := g } := I2.kept (t' := s2.toks) hk2
    refine ⟨s2.heap.objs.size + 1, [s2.heap.objs.size + 1, s2.heap.objs.size], _, ItS X.K a, H2, rfl, J, turnS a (s2.heap.objs.size + 1) s2.heap.objs.size, ⟨⟨.none, he⟩, ⟨_, hi, rfl, rfl⟩, Nat.succ_ne_self _⟩, fun b m => ?_, q⟩
    have le : s2.heap.objs.size ≤ b := by
      rcases List.mem_cons.mp m with y | y
      · rw [y]
        exact Nat.le_succ _
      · rw [List.mem_singleton.mp y]
        exact Nat.le_refl _
    exact I2.fpOk le (I2.hok.fresh le)
end Pm
namespace Pm
open PySem PySem.Spec PyProof.Rows L2 SX
/-! ### sets of texts, filled from an iterator -/
/-- one more text, if it is new -/
def ddS (l : List Str) (v : Str) : List Str := if l.any (· == v) then l else l ++ [v]
def metS (val : Nat → Str) (i : Nat) : List Str := ((List.range i).map val).foldl ddS []
theorem metS_succ (val : Nat → Str) (i : Nat) : metS val (i + 1) = ddS (metS val i) (val i) := by
  unfold metS
  rw [List.range_succ, List.map_append, List.foldl_append]
  rfl
theorem metS_le (val : Nat → Str) : ∀ i, (metS val i).length ≤ i
  | 0 => Nat.le_refl _
  | i + 1 => by
    rw [metS_succ]
    have ih := metS_le val i
    unfold ddS
    split
    · omega
    · rw [List.length_append, List.length_singleton]
      omega
theorem ddS_any (l : List Str) (v k : Str) : (ddS l v).any (· == k) = (l.any (· == k) || decide (k = v)) := by
  unfold ddS
  by_cases h : l.any (· == v) = true
  · rw [if_pos h]
    by_cases e : k = v
    · subst e
      rw [h]
      simp
    · simp [e]
  · rw [if_neg h, List.any_append]
    by_cases e : k = v
    · subst e
      simp
    · have hb : (v == k) = false := by simpa [beq_iff_eq] using (fun h' : v = k => e h'.symm)
      simp [hb, e]
theorem ddS_len (l : List Str) (v : Str) : (ddS l v).length = if l.any (· == v) then l.length else l.length + 1 := by
  unfold ddS
  split <;> simp
section
variable {prog : Program} {w : World} {A : Around} {R : Result → Shared → Prop} {I : Addr} {fp wr : List Addr} {G : Array GenState → Array GenState → Prop} {n : Nat} {Pp : Nat → Value → Prop} {St : Nat → Shared → Prop}
theorem set_loopS (W : WalksS prog w A.in1 I fp wr G n Pp St) (S : Addr) (hSf : S ∉ fp) (val : Nat → Str) (hval : ∀ i v, Pp i v → ∃ t, v = .str (val i) t) (hb : n + 1 < scanBound) :
    ∀ (k i : Nat) (s : Shared), n - i = k → i ≤ n → St i s →
      s.heap.SetOf (PySem.strKind prog w) S (fun k' => (metS val i).any (· == k')) (metS val i).length →
      (∀ s', Moved (S :: wr) G s s' → s'.heap.SetOf (PySem.strKind prog w) S (fun k' => (metS val n).any (· == k')) (metS val n).length → R (.ok (.ret .none)) s') →
      codeAny (model prog w) A (.builtin "set.update.loop" ⟨[.ref S, .ref I], []⟩) R s := by
  have hSw : S ∉ wr := fun h => hSf (W.sub _ h)
  have hsub : ∀ b ∈ wr, b ∈ S :: wr := fun b hb => List.mem_cons_of_mem _ hb
  intro k
  induction k with
  | zero =>
    intro i s hk hi hst hS hR
    have hin : i = n := by omega
    subst hin
    refine codeAny_builtin PyProof.Rows.F.entry_set_update_loop ?_
    rw [Around.under_plainId PyProof.Rows.F.plain_set_update_loop _]
    show wpAny _ A.in1 (pyNext (.ref I) >>= _) _ _ s
    refine wpAny_bind (W.done s _ _ hst fun s' hm => ?_)
    show wpAny _ A.in1 (ret Value.none) _ _ s'
    exact wpAny_pure (hR s' (hm.mono hsub) (by
      obtain ⟨o, es, ep, t, ho, rest⟩ := hS
      exact ⟨o, es, ep, t, hm.heap S _ hSw ho, rest⟩))
  | succ k ih =>
    intro i s hk hi hst hS hR
    have hlt : i < n := by omega
    refine codeAny_builtin PyProof.Rows.F.entry_set_update_loop ?_
    rw [Around.under_plainId PyProof.Rows.F.plain_set_update_loop _]
    show wpAny _ A.in1 (pyNext (.ref I) >>= _) _ _ s
    refine wpAny_bind (W.item i s _ _ hlt hst fun v s' hP hst' hm => ?_)
    obtain ⟨t, rfl⟩ := hval i v hP
    have hS' : s'.heap.SetOf (PySem.strKind prog w) S (fun k' => (metS val i).any (· == k')) (metS val i).length := by
      obtain ⟨o, es, ep, tb, ho, rest⟩ := hS
      exact ⟨o, es, ep, tb, hm.heap S _ hSw ho, rest⟩
    have iskey : (PySem.strKind prog w).is (val i) (.str (val i) t) = true := Froz.is_str _ _
    show wpAny _ A.in1 (holding [Value.str (val i) t] (setAdd S (.str (val i) t)) >>= _) _ _ s'
    refine wpAny_bind (wpAny_holding ?_)
    unfold setAdd
    refine wpAny_holding ?_
    refine wpAny_bind ((PySem.strKind prog w).pyHash (k := val i) iskey ?_)
    have hroom : (metS val i).length + 1 < scanBound := by
      have := metS_le val i
      omega
    refine wpAny_setAddHashed_of (knd := PySem.strKind prog w) (s := { s' with toks := s'.toks + 1 }) iskey rfl hS' hroom fun h' hsb hS2 => ?_
    have hSi : h'.SetOf (PySem.strKind prog w) S (fun k' => (metS val (i + 1)).any (· == k')) (metS val (i + 1)).length :=
      SetOf_congr hS2 (fun k' => by rw [metS_succ, ddS_any]) (by rw [metS_succ, ddS_len])
    refine wpAny_pure ⟨plainId_quiet PyProof.Rows.F.plain_set_update_loop _, ih (i + 1) _ (by omega) hlt (W.frame _ s' _ _ hst' (Nat.le_succ _) fun b hb o e => ?_) hSi fun s'' hm'' hS'' => ?_⟩
    · rw [hsb.2 b (fun h : b = S => hSf (by rw [← h]; exact hb))]
      exact e
    · refine hR s'' (Moved.trans W.gtrans ((hm.mono hsub).then_heap (Nat.le_succ _) fun b o hb e => ?_) hm'') hS''
      rw [hsb.2 b (fun h : b = S => hb (by rw [h]; exact List.mem_cons_self))]
      exact e
end
end Pm
namespace Pm
open PySem PySem.Spec PyProof.Rows L2 SX
theorem sub_str_set' : isSubtype (.type "str") (.type "set") = pure false := by rw [isSubtype_type]; kernel_rfl
theorem sub_str_frozen' : isSubtype (.type "str") (.type "frozenset") = pure false := by rw [isSubtype_type]; kernel_rfl
section
variable {prog : Program} {w : World} {A : Around} {E : Value → Shared → Prop} {s : Shared}
theorem call_set_text {x : Str} {t : Tok} {Q : Value → Shared → Prop}
    (hh : A.handled = none) (hb : x.cps.size + 1 < scanBound)
    (h : ∀ (h' : Heap) (tk : Nat), h'.SetOf (PySem.strKind prog w) s.heap.objs.size (fun k' => (metS (fun i => ⟨#[x.cps.getD i 0]⟩) x.cps.size).any (· == k')) (metS (fun i => ⟨#[x.cps.getD i 0]⟩) x.cps.size).length →
      (∀ b o, b < s.heap.objs.size → s.heap.get? b = some o → h'.get? b = some o) → Q (.ref s.heap.objs.size) { s with heap := h', toks := tk }) :
    wpAny (model prog w) A (call (.type "set") [.str x t]) Q E s := by
  obtain ⟨c, tl, hmro⟩ := F.called_set.mro
  have hmade := F.called_set.made
  have hsub := F.called_set.sub
  refine wpAny_call (codeAny_of_tree ?_)
  show wpAny _ _ (callAny (.type "set") _) _ _ _
  refine wpAny_pure ⟨Code.quiet_builtin _ (by decide +kernel), codeAny_builtin F.entry_type_call ?_⟩
  rw [Around.under_plain (weight_type_call_type "set" [.str x t] []) rfl]
  have h1 := F.called_set.notType
  have h2 := F.called_set.canCreate
  have hct := F.typeCall_set_1 (.str x t)
  repeat (any_goals (first | assumption | wp_step))
  refine codeAny_mono (code_set_new_1 (.str x t) (E := E) (Q₁ := fun obj s₁ => ∃ led : Bool, obj = .ref s.heap.objs.size ∧ s₁ = { s with heap := s.heap.push { cls := .type "set", dict := none, data := .set #[] 0 (.fresh 0 0 led) } }) fun led => ⟨led, rfl, rfl⟩) fun r s₁ hr => ?_
  cases r with
  | error e => exact hr
  | ok fl =>
    cases fl with
    | ret obj =>
      obtain ⟨led, rfl, rfl⟩ := hr
      have hS : (s.heap.push { cls := .type "set", dict := none, data := .set #[] 0 (.fresh 0 0 led) }).get? s.heap.objs.size = some { cls := .type "set", dict := none, data := .set #[] 0 (.fresh 0 0 led) } := Heap.get?_push_size _ rfl
      have hT : Shared.TypeIs { s with heap := s.heap.push { cls := .type "set", dict := none, data := .set #[] 0 (.fresh 0 0 led) } } (.ref s.heap.objs.size) "set" := ⟨_, hS, rfl⟩
      have hli := F.called_set.init.lookup
      have hbi := F.called_set.init.bind (.ref s.heap.objs.size)
      repeat (any_goals (first | assumption | wp_step))
      refine codeAny_mono (codeAny_call_builtin (R := wants (fun r s₂ => r = .none ∧ ∃ h' tk, s₂ = { s with heap := h', toks := tk } ∧
          h'.SetOf (PySem.strKind prog w) s.heap.objs.size (fun k' => (metS (fun i => ⟨#[x.cps.getD i 0]⟩) x.cps.size).any (· == k')) (metS (fun i => ⟨#[x.cps.getD i 0]⟩) x.cps.size).length ∧
          (∀ b o, b < s.heap.objs.size → s.heap.get? b = some o → h'.get? b = some o)) E) F.called_set.init.plain F.entry_set_init (check_set_init_1 hT ?_)) fun r₂ s₂ hr₂ => ?_
      · have hsls := sub_str_set'
        have hslf := sub_str_frozen'
        have hne : (Value.type "str" == Value.type "dict") = false := by decide
        unfold Builtin.«set.__init__» noKeywords Builtin.Frozenset.updateFrom
        generalize hPI : pyIter = PI
        wp_walk
        subst hPI
        refine wpAny_pyIter_str fun o St W hst => ?_
        refine wpAny_bind (wpAny_runValue ?_)
        have hh3 : A.in1.in1.in1.handled = none := by simp [hh]
        have hSf : s.heap.objs.size ∉ [(s.heap.push { cls := .type "set", dict := none, data := .set #[] 0 (.fresh 0 0 led) }).objs.size] := by
          rw [Heap.size_push]
          simp only [List.mem_cons, List.not_mem_nil, or_false]
          exact Nat.ne_of_lt (Nat.lt_succ_self _)
        have hval : ∀ (i : Nat) (v : Value), SignAt x i v → ∃ t, v = .str ((fun i => (⟨#[x.cps.getD i 0]⟩ : Str)) i) t := fun i v ⟨c, u, hc, hv⟩ => by
          refine ⟨u, ?_⟩
          rw [hv]
          have e : x.cps.getD i 0 = c := by
            rw [Array.getD_eq_getD_getElem?, hc]
            rfl
          show _ = Value.str (⟨#[x.cps.getD i 0]⟩ : Str) u
          rw [e]
        refine set_loopS ((W _ hh3).toS) s.heap.objs.size hSf (fun i => ⟨#[x.cps.getD i 0]⟩) hval hb (x.cps.size - 0) 0 _ (by omega) (Nat.zero_le _) hst ?hS0 ?hR
        case hS0 =>
          have hget : ((s.heap.push { cls := .type "set", dict := none, data := .set #[] 0 (.fresh 0 0 led) }).push o).get? s.heap.objs.size
              = some { cls := .type "set", dict := none, data := .set #[] 0 (.fresh 0 0 led) } := Heap.get?_push_of_some _ hS
          exact PyProof.Rows.SetOf_congr ((PyProof.Rows.setObjOf_fresh (knd := PySem.strKind prog w) led).setOf hget (by unfold scanBound; omega)) (fun _ => rfl) rfl
        case hR =>
          intro s' hm hS'
          obtain ⟨h', g', d', tk', os'⟩ := s'
          have eg : g' = s.gens := hm.gens
          have ed : d' = s.drawn := hm.drawn
          have eo : os' = s.os := hm.os
          subst eg; subst ed; subst eo
          show wpAny _ _ _ _ _ _
          refine wpAny_pure ?_
          show wpAny _ _ (ret Value.none) _ _ _
          refine wpAny_pure ⟨rfl, h', tk', rfl, hS', fun b o hb e => ?_⟩
          have hb1 : b ≠ s.heap.objs.size := Nat.ne_of_lt hb
          have hb2 : b ≠ (s.heap.push { cls := .type "set", dict := none, data := .set #[] 0 (.fresh 0 0 led) }).objs.size := by
            rw [Heap.size_push]
            exact Nat.ne_of_lt (Nat.lt_succ_of_lt hb)
          exact hm.heap b o (by simp only [List.mem_cons, List.mem_singleton, List.not_mem_nil, or_false, not_or]; exact ⟨hb1, hb2⟩) (Heap.get?_push_of_some _ (Heap.get?_push_of_some _ e))
      · cases r₂ with
        | error e => exact hr₂
        | ok fl₂ =>
          cases fl₂ with
          | ret r =>
            obtain ⟨rfl, h', tk, rfl, hS', hk'⟩ := hr₂
            repeat (any_goals (first | assumption | wp_step))
            exact h _ _ hS' hk'
          | _ => exact hr₂.elim
    | _ => exact hr.elim
end
/-! ### len(set(text)) -/
theorem metS_nodup (val : Nat → Str) : ∀ i, ((metS val i).length = i ↔ ((List.range i).map val).Nodup)
  | 0 => by simp [metS]
  | i + 1 => by
    have mem : ∀ i k, k ∈ metS val i ↔ k ∈ (List.range i).map val := by
      intro i
      induction i with
      | zero => simp [metS]
      | succ i ih =>
        intro k
        have a : (metS val (i + 1)).any (· == k) = ((metS val i).any (· == k) || decide (k = val i)) := by rw [metS_succ, ddS_any]
        rw [List.range_succ, List.map_append, List.mem_append, ← ih k]
        constructor
        · intro m
          have z : (metS val (i + 1)).any (· == k) = true := List.any_eq_true.mpr ⟨k, m, beq_self_eq_true k⟩
          rw [a, Bool.or_eq_true] at z
          rcases z with z | z
          · obtain ⟨y, my, ey⟩ := List.any_eq_true.mp z
            rw [eq_of_beq ey] at my
            exact .inl my
          · exact .inr (by simp [of_decide_eq_true z])
        · intro m
          have z : (metS val (i + 1)).any (· == k) = true := by
            rw [a, Bool.or_eq_true]
            rcases m with m | m
            · exact .inl (List.any_eq_true.mpr ⟨k, m, beq_self_eq_true k⟩)
            · exact .inr (decide_eq_true (by simpa using m))
          obtain ⟨y, my, ey⟩ := List.any_eq_true.mp z
          rw [eq_of_beq ey] at my
          exact my
    have ih := metS_nodup val i
    have le := metS_le val i
    have lt : (metS val (i + 1)).length = if (metS val i).any (· == val i) then (metS val i).length else (metS val i).length + 1 := by rw [metS_succ, ddS_len]
    have anym : (metS val i).any (· == val i) = true ↔ val i ∈ (List.range i).map val := by
      rw [← mem i, List.any_eq_true]
      exact ⟨fun ⟨y, my, ey⟩ => eq_of_beq ey ▸ my, fun m => ⟨_, m, beq_self_eq_true _⟩⟩
    rw [List.range_succ, List.map_append, List.nodup_append, lt]
    constructor
    · intro e
      split at e
      · omega
      · rename_i na
        have nm : val i ∉ (List.range i).map val := fun m => na (anym.mpr m)
        refine ⟨ih.mp (by omega), by simp, fun a ha b hb eab => nm ?_⟩
        have hb : b = val i := by simpa using hb
        rw [← hb, ← eab]
        exact ha
    · rintro ⟨h1, _, h3⟩
      rw [if_neg fun z => h3 _ (anym.mp z) (val i) (by simp) rfl, ih.mpr h1]
/-- as many as the text has signs just if no sign stands there twice -/
theorem metS_text (z : List Nat) : (metS (fun i => ⟨#[(S z).cps.getD i 0]⟩) (S z).cps.size).length ≤ z.length ∧ ((metS (fun i => ⟨#[(S z).cps.getD i 0]⟩) (S z).cps.size).length = z.length ↔ z.Nodup) := by
  have e1 : (S z).cps.size = z.length := by simp
  rw [e1]
  refine ⟨metS_le _ _, (metS_nodup _ _).trans ?_⟩
  have e2 : (List.range z.length).map (fun i => (⟨#[(S z).cps.getD i 0]⟩ : Str)) = z.map fun c => S [c] := by
    refine List.ext_getElem (by simp) fun i h1 h2 => ?_
    have hi : i < z.length := by simpa using h1
    rw [List.getElem_map, List.getElem_map, List.getElem_range]
    show S [(S z).cps.getD i 0] = S [z[i]]
    rw [Array.getD_eq_getD_getElem?]
    simp [hi]
  rw [e2]
  constructor
  · intro h
    exact List.Pairwise.of_map (f := fun c => S [c]) (fun a b ne e => ne (by rw [e])) h
  · intro h
    exact List.pairwise_map.mpr (h.imp fun ne e => ne (by have := S_inj e; simpa using this))
def tLenSetS (ta : TE) : TE := fun σ H Q => ta σ H fun x H1 => ∃ z : List Nat, x = .str (S z) ∧ z.length ≤ 1000 ∧ ∀ n : Nat, n ≤ z.length → (n = z.length ↔ z.Nodup) → Q (.int (n : Int)) H1
theorem pe_lenSetS {X : Cx} {a : Expr} {ta : TE} {p p2 q pos : Pos} (hg : Gl X "len") (hm : X.mg "len" = none) (hg2 : Gl X "set") (hm2 : X.mg "set" = none) (ha : PE X a ta) (hc : X.calm = true := by rfl)
    (na : starEach [a] X.env = (false, eval a X.env) :: starEach [] X.env := by rfl) : PE X (.Call (.Name "len" p) [.Call (.Name "set" p2) [a] [] q] [] pos) (tLenSetS ta) := by
  refine ⟨fun pins s σ H Q I h => ?_⟩
  refine Call_ (ld_blt I hg hm boot_len ?_)
  refine PyProof.Rows.callWith_builtin1 (PyProof.Rows.args_cons ?_ rfl) rfl rfl
  refine Call_ (ld_blt I hg2 hm2 boot_set ?_)
  refine PyProof.Rows.callWith_type1 (PyProof.Rows.args_cons (thn (ha.run pins s σ H _ I h) fun v s1 ⟨x, H1, I1, r1, q1⟩ => PyProof.Rows.args_nil ?_) na) na rfl
  obtain ⟨z, rfl, few, q1⟩ := q1
  obtain ⟨t, rfl⟩ := r1
  have e1 : (S z).cps.size = z.length := by simp
  have m := metS_text z
  refine call_set_text (I1.ok.hd hc) (by rw [e1]; unfold scanBound; omega) fun h' tk hS hk => ?_
  refine PyProof.Rows.args_nil ?_
  generalize (metS (fun i => ⟨#[(S z).cps.getD i 0]⟩) (S z).cps.size) = L at hS m
  obtain ⟨o, es, ep, t, ho, hex, hd, _, _, _, hf, hn⟩ := hS
  have I2 : L2.Inv X pins σ H1 { s1 with heap := h', toks := tk } := I1.kept fun b o e => hk b o (Heap.lt_size e) e
  exact call_len_set ho hex hd hf (by rw [hn] <;> omega) ⟨.int L.length, H1, I2.tok _, ⟨_, by rw [hn]⟩, q1 _ m.1 m.2⟩
end Pm
namespace Pm
open PySem PySem.Spec PyProof.Rows L2 SX
/-! ### sorted(text) -/
/-- the signs, each a text of its own -/
def ones (z : List Nat) : List Str := z.map fun c => S [c]
theorem strs_signs : ∀ {us : List Value} {z : List Nat}, us.length = z.length → (∀ (j : Nat) (v : Value), us[j]? = some v → ∃ (c : Nat) (t : Tok), z[j]? = some c ∧ v = Value.str (S [c]) t) → StrsAre us (ones z)
  | [], [], _, _ => .nil
  | u :: us, k :: ks, hl, h => by
    obtain ⟨x, t, e1, e2⟩ := h 0 u rfl
    have e1' : k = x := Option.some.inj e1
    subst e1'
    subst e2
    refine .cons _ _ (strs_signs (by simpa using hl) fun j v e => ?_)
    obtain ⟨x, t, a, b⟩ := h (j + 1) v (by simpa using e)
    exact ⟨x, t, by simpa using a, b⟩
  | [], _ :: _, hl, _ => by simp at hl
  | _ :: _, [], hl, _ => by simp at hl
/-- sorted(text): its signs in a new list, in order -/
def rSortedTx : List V → Hp → VK → Prop := fun vs H Q => ∃ z : List Nat, vs = [.str (S z)] ∧ z.length ≤ 1000 ∧ ∀ (ys : List Nat) (p : Addr), ys.Perm z → ys.Pairwise (· ≤ ·) → H p = none → Q (.ref p) (upd H p (.lst ((ones ys).map V.str)))
theorem ones_perm {z : List Nat} : ∀ {l : List Str}, l.Perm (ones z) → ∃ ys : List Nat, ys.Perm z ∧ l = ones ys := fun {l} h => by
  refine ⟨l.map fun s => s.cps.toList.headD 0, ?_, ?_⟩
  · have q := h.map fun s => s.cps.toList.headD 0
    have e : (ones z).map (fun s : Str => s.cps.toList.headD 0) = z := by
      unfold ones
      rw [List.map_map]
      have : ((fun s : Str => s.cps.toList.headD 0) ∘ fun c => S [c]) = id := by
        funext c
        simp
      rw [this, List.map_id]
    rw [e] at q
    exact q
  · unfold ones
    rw [List.map_map]
    refine (List.map_id l).symm.trans (List.map_congr_left fun s hs => ?_)
    obtain ⟨c, _, rfl⟩ := List.mem_map.mp (h.mem_iff.mp hs)
    simp
theorem ones_sorted : ∀ {ys : List Nat}, sortedS (ones ys) = true → ys.Pairwise (· ≤ ·) := by
  have step : ∀ (p : Nat) (l : List Nat), risingS (S [p]) (ones l) = true → (p :: l).Pairwise (· ≤ ·) := by
    intro p l
    induction l generalizing p with
    | nil => intro _; exact List.pairwise_singleton _ _
    | cons x r ih =>
      intro h
      have h : (!ltCps (S [x]).cps.toList (S [p]).cps.toList && risingS (S [x]) (ones r)) = true := h
      rw [Bool.and_eq_true] at h
      have tl := ih x h.2
      have le : p ≤ x := by
        have z := h.1
        rw [ltCps_eq] at z
        by_cases y : x < p
        · rw [decide_eq_true (show (S [x]).cps.toList < (S [p]).cps.toList from List.Lex.rel y)] at z
          cases z
        · omega
      refine List.pairwise_cons.mpr ⟨fun y hy => ?_, tl⟩
      rcases List.mem_cons.mp hy with e | m
      · rw [e]
        exact le
      · exact Nat.le_trans le ((List.pairwise_cons.mp tl).1 y m)
  intro ys h
  cases ys with
  | nil => exact List.Pairwise.nil
  | cons x r => exact step x r h
theorem cr_sortedTx {X : Cx} (hcalm : X.calm = true) : CallR X (.builtin "sorted") rSortedTx := by
  intro pins s σ H xs us Q I r q
  obtain ⟨z, ex, few, q⟩ := q
  subst ex
  obtain ⟨u, eu, rx⟩ := vals1 r
  subst eu
  obtain ⟨t, rfl⟩ := rx
  have e1 : (S z).cps.size = z.length := by simp
  refine Calls.call_function_entry PyProof.Rows.kind_sorted PyProof.Rows.plain_sorted PyProof.Rows.entry_sorted (PyProof.Rows.args_sorted1 _) ?_
  unfold Builtin.«sorted»
  refine wpAny_bind (m := checkCount "sorted" 1 1 _) (wpAny_pure ?_)
  refine wpAny_bind (wpAny_collect_str (A := X.A.in1) (I.ok.hd hcalm) (S z) t (fun s1 acc hk hg hd ho hacc => ?_) (by rw [e1, sizeLine_eq]; omega))
  have hal : acc.toList.length = z.length := by rw [Array.length_toList, hacc.1, e1]
  have hS : StrsAre acc.toList (ones z) := strs_signs hal fun j v e => by
    obtain ⟨c, u, e2, e3⟩ := hacc.2 j v (by rw [← Array.getElem?_toList]; exact e)
    refine ⟨c, u, ?_, e3⟩
    rw [← Array.getElem?_toList] at e2
    exact e2
  obtain ⟨h', g', d', tk', os'⟩ := s1
  have hg : g' = s.gens := hg
  have hd : d' = s.drawn := hd
  have ho : os' = s.os := ho
  subst hg hd ho
  have I1 : L2.Inv X pins σ H { s with heap := h', toks := tk' } := I.kept hk
  refine wpAny_bind (wpAny_newList ?_ (by rw [hal, sizeLine_eq]; omega))
  have hoL : (h'.push (seqObj "list" acc.toList.toArray 0)).get? h'.objs.size = some (seqObj "list" acc.toList.toArray 0) := Heap.get?_push_size _ rfl
  show wpAny _ _ _ _ _ { s with heap := h'.push (seqObj "list" acc.toList.toArray 0), toks := tk' }
  refine wpAny_bind (wpAny_holding (wpAny_call_entry PyProof.Rows.slot_list_sort ⟨_, hoL, rfl⟩ PyProof.Rows.entry_list_sort
    (list_sort_treeKAny strKind_oneLt (s := { s with heap := h'.push (seqObj "list" acc.toList.toArray 0), toks := tk' }) hoL hS.keysOf (fun v₁ v₂ rest e => keyKind_strs (by rw [← e]; exact hS)) (by rw [hal, sizeLine_eq]; omega) fun st' hp hs => ⟨_, rfl, ?_⟩)
    (PyProof.Rows.args_list_sort _)))
  obtain ⟨ss, g1, g2, g3⟩ := sorted_out_str hS hp hs
  obtain ⟨ys, p1, rfl⟩ := ones_perm g2
  obtain ⟨e', he'⟩ := PyProof.Rows.sortedHeap_at (vs := acc.toList) (out := (arrOf st').map (·.2)) hoL
  have hlen : ((ones ys).map V.str).length ≤ sizeLine := by
    rw [List.length_map, g2.length_eq]
    show (ones z).length ≤ _
    rw [show (ones z).length = z.length from List.length_map _]
    exact small_line few
  refine wpAny_pure ⟨_, rfl, .ref h'.objs.size, upd H h'.objs.size (.lst ((ones ys).map V.str)), I1.laid (t' := tk') (fun b u e => ?_) (Nat.le_refl _)
    (show ObjOk X.prog X.w _ _ _ (.lst ((ones ys).map V.str)) from ⟨hlen, ((arrOf st').map (·.2)).toList, e', vals_of_strs g1, by rw [Array.toArray_toList]; exact he'⟩), rfl, q ys _ p1 (ones_sorted g3) (I1.hok.fresh (Nat.le_refl _))⟩
  have hb : b < h'.objs.size := Heap.lt_size e
  rw [PyProof.Rows.sortedHeap_old (Nat.ne_of_lt hb) (by rw [size_push']; exact Nat.lt_succ_of_lt hb)]
  exact Heap.get?_push_of_some _ e
end Pm
namespace Pm
open PySem PySem.Spec PyProof.Rows L2 SX
/-! ### which rows are good -/
def stoneB : List Nat → Bool
  | [c] => decide (Let c)
  | _ => false
def goodB : List Nat → Bool
  | [c] => decide (Good c)
  | _ => false
def okB (w : Int) (z : List Nat) : Bool := (decide (1 ≤ z.length) && decide (z.length ≤ 8) && decide ((z.length : Int) = w)) && z.all fun c => decide (Good c)
def lineOf : Rows → Int
  | [] => 1
  | r :: R => match ((r :: R).take 8).findIdx? (fun z => !okB (r.length : Int) z) with
    | some i => (i : Int) + 1
    | none => if 8 < (r :: R).length then 9 else 0
structure PTxt (K : PySem.W.Frag) (mg : Str → Option Value) (C : Addr) : Prop where
  gC : mg "Picture" = some (.ref C)
  cr : ∃ mc, ClX.CRead K C mc ∧ (∃ u, ClX.CVal K C mc "HOLE" (.str ".") u) ∧ ∃ u, ClX.CVal K C mc "EDGE" (.str "#") u
  stones : ∃ u, mg "STONES" = some u ∧ RelV (.str alphaS) u
  most : ∃ u, mg "MOST" = some u ∧ RelV (.int 8) u
  all : mg "all" = none
  enum : mg "enumerate" = none
theorem len_one {z : List Nat} (h : z.length = 1) : ∃ c, z = [c] := match z, h with | [c], _ => ⟨c, rfl⟩
theorem stoneB_ne {z : List Nat} (h : z.length ≠ 1) : stoneB z = false := by
  match z, h with
  | [], _ => rfl
  | [_], h => exact absurd rfl h
  | _ :: _ :: _, _ => rfl
theorem goodB_ne {z : List Nat} (h : z.length ≠ 1) : goodB z = false := by
  match z, h with
  | [], _ => rfl
  | [_], h => exact absurd rfl h
  | _ :: _ :: _, _ => rfl
section
variable {P : Program} {w : World} {K : PySem.W.Frag} {mg : Str → Option Value} {base : Heap} {C : Addr}
def spStone : Sp := fun vs H Q _ => ∃ z, vs = [.str (S z)] ∧ z.length ≤ 1000 ∧ Q (.bl (stoneB z)) H
theorem scStone : FnScope ["sign"] ["sign"] (defScope gIsStone) := ⟨rfl, rfl, rfl, by decide +kernel, rfl, by decide +kernel, by decide +kernel⟩
theorem ok_stone {f : Addr} {fd : FuncData} (F : Fun K "is_stone" "is_stone" gIsStone f fd) (L : LTxt K mg) (T : PTxt K mg C) : FnOk P w K mg base CX0 1 f fd ["sign"] spStone := by
  refine F.ok scStone (fun vs H Q E h => ?_) (fun cdv A outer s H vs Q E hr h => ?_)
  · obtain ⟨z, rfl, _⟩ := h
    rfl
  · obtain ⟨z, rfl, few, k⟩ := h
    obtain ⟨u, hu, ru⟩ := T.stones
    refine ⟨_, pss_one (ps_ret (pe_and (pe_cmpR op_eq (pe_callB call_len_str (by rfl) L.len PySem.boot_len (pa_cons (pv 0) pa_nil)) pe_int (nomark _)) (pe_one (pe_cmpR op_in_sign (pv 0) (pe_glob (by rfl) hu ru) (by rfl))))), ?_⟩
    refine ⟨_, rfl, _, rfl, by rw [len_S]; exact small_line few, rfl, _, rfl, ite2 (fun e => ?_) (fun e => ?_)⟩
    · have e1 : z.length = 1 := by
        have := of_decide_eq_true e
        simp only [V.int.injEq] at this
        rw [len_S] at this
        omega
      obtain ⟨c, rfl⟩ := len_one e1
      refine ⟨_, rfl, c, _, rfl, rfl, ?_⟩
      have y : decide (c ∈ alphaS.cps.toList) = stoneB [c] := decide_eq_decide.mpr (alpha_mem c)
      rw [y]
      exact k
    · have e1 : z.length ≠ 1 := fun y => e (decide_eq_true (by rw [len_S, y]; rfl))
      rw [stoneB_ne e1] at k
      exact k
def spSoh : Sp := fun vs H Q _ => ∃ z, vs = [.str (S z)] ∧ z.length ≤ 1000 ∧ Q (.bl (goodB z)) H
theorem scSoh : FnScope ["sign"] ["sign"] (defScope gIsStoneOrHole) := ⟨rfl, rfl, rfl, by decide +kernel, rfl, by decide +kernel, by decide +kernel⟩
theorem ok_soh {f g : Addr} {fd gd : FuncData} (F : Fun K "is_stone_or_hole" "is_stone_or_hole" gIsStoneOrHole f fd) (G : Cl P w K mg base CX0 1 "is_stone" ["sign"] spStone g gd) (T : PTxt K mg C) : FnOk P w K mg base CX0 2 f fd ["sign"] spSoh := by
  refine F.ok scSoh (fun vs H Q E h => ?_) (fun cdv A outer s H vs Q E hr h => ?_)
  · obtain ⟨z, rfl, _⟩ := h
    rfl
  · obtain ⟨z, rfl, few, k⟩ := h
    obtain ⟨mc, cr, ⟨u, hu⟩, _⟩ := T.cr
    refine ⟨_, pss_one (ps_ret (pe_or (pe_cmpR op_eq (pv 0) (ClX.pe_cval (pe_glob (v := .ref C) (by rfl) T.gC rfl)) (nomark _)) (pe_one (pe_call G.ok hr (by rfl) G.gl G.kp G.bd .nil pass0 (pa_cons (pv 0) pa_nil))))), ?_⟩
    refine ⟨_, rfl, C, mc, _, u, rfl, cr, hu, rfl, _, rfl, ite2 (fun e => ?_) (fun e => ⟨_, rfl, z, rfl, few, ?_⟩)⟩
    · have e1 : z = [46] := by
        have := of_decide_eq_true e
        simp only [V.str.injEq] at this
        rw [dot_S] at this
        exact S_inj this
      subst e1
      exact k
    · have e1 : z ≠ [46] := fun y => e (decide_eq_true (by rw [y, dot_S]))
      have e2 : stoneB z = goodB z := by
        by_cases l1 : z.length = 1
        · obtain ⟨c, rfl⟩ := len_one l1
          refine decide_eq_decide.mpr ⟨.inr, fun y => ?_⟩
          rcases y with y | y
          · exact absurd (by rw [y]) e1
          · exact y
        · rw [stoneB_ne l1, goodB_ne l1]
      rw [e2]
      exact k
/-! ### a bad row -/
def spBad : Sp := fun vs H Q _ => ∃ z w, vs = [.str (S z), .int w] ∧ z.length ≤ 1000 ∧ ∀ H', Same H H' → Q (.bl (!okB w z)) H'
abbrev nBad : List Str := ["row", "width", "sign"]
theorem scBad : FnScope nBad ["row", "width"] (defScope gIsBadRow) := ⟨rfl, rfl, rfl, by decide +kernel, rfl, by decide +kernel, by decide +kernel⟩
theorem all_good (z : List Nat) : (z.map fun c => goodB [c]).all id = z.all fun c => decide (Good c) := by
  rw [List.all_map]
  rfl
theorem ok_bad {f g : Addr} {fd gd : FuncData} (F : Fun K "_is_bad_row" "_is_bad_row" gIsBadRow f fd) (G : Cl P w K mg base CX0 2 "is_stone_or_hole" ["sign"] spSoh g gd) (L : LTxt K mg) (T : PTxt K mg C) : FnOk P w K mg base CX0 3 f fd ["row", "width"] spBad := by
  refine F.ok scBad (fun vs H Q E h => ?_) (fun cdv A outer s H vs Q E hr h => ?_)
  · obtain ⟨z, w, rfl, _⟩ := h
    rfl
  · obtain ⟨z, w, rfl, few, k⟩ := h
    obtain ⟨um, hm, rm⟩ := T.most
    refine ⟨_, pss_cons (ps_if (PW.pt (pw_or (pt_not (pt_chain op_le op_le pe_int (pe_callB call_len_str (by rfl) L.len PySem.boot_len (pa_cons (pv 0) pa_nil)) (pe_glob (by rfl) hm rm))) (pw_or1 (pt_cmpR op_ne (pe_callB call_len_str (by rfl) L.len PySem.boot_len (pa_cons (pv 0) pa_nil)) (pv 1) (nomark _))))) (pss_one (ps_ret pe_bl)) pss_nil)
      (pss_one (ps_ret (pe_not (pe_callB (cr_all rfl) (by rfl) T.all (by decide +kernel) (pa_cons (pe_lc (own := [("sign", 2)]) (g := gName 2) (tt := tYes) rfl scBad.nd (pi_str (pv 0)) (blkOk_by (N := nBad) (sc := defScope gIsBadRow) (by decide +kernel)) (fun _ _ _ _ _ => pg_name (i := 2) scBad.nd rfl (.inl rfl)) (fun _ _ _ _ _ => pts_nil)
        (fun _ _ _ _ _ => pe_call G.ok hr (by rfl) G.gl G.kp G.bd .nil pass0 (pa_cons (pv 2) pa_nil))) pa_nil))))), ?_⟩
    have line : (S z).length ≤ sizeLine := by rw [len_S]; exact small_line few
    have body : okB w z = (z.all fun c => decide (Good c)) → ∀ H1, Same H H1 → Q (.bl (!(z.all fun c => decide (Good c)))) H1 := fun e H1 s1 => by
      rw [← e]
      exact k H1 s1
    -- what stands behind the test, where it does not hold
    have go : (1 ≤ z.length ∧ z.length ≤ 8 ∧ (z.length : Int) = w) → okB w z = (z.all fun c => decide (Good c)) := fun ⟨a, b, c⟩ => by
      unfold okB
      rw [decide_eq_true a, decide_eq_true b, decide_eq_true c]
      rfl
    have no : ¬ (1 ≤ z.length ∧ z.length ≤ 8 ∧ (z.length : Int) = w) → okB w z = false := fun y => by
      unfold okB
      by_cases a : 1 ≤ z.length
      · by_cases b : z.length ≤ 8
        · by_cases c : (z.length : Int) = w
          · exact absurd ⟨a, b, c⟩ y
          · rw [decide_eq_false c, Bool.and_false]
            rfl
        · rw [decide_eq_false b, Bool.and_false]
          rfl
      · rw [decide_eq_false a]
        rfl
    have yes : ¬ (1 ≤ z.length ∧ z.length ≤ 8 ∧ (z.length : Int) = w) → Q (.bl true) H := fun y => by
      have q := k H (Same.refl H)
      rw [no y] at q
      exact q
    refine ⟨_, rfl, _, rfl, line, _, _, rfl, rfl, _, rfl, ite2 (fun a => ?_) (fun a => ?_)⟩
    · have a1 : 1 ≤ z.length := by
        have y := of_decide_eq_true a
        rw [len_S] at y
        omega
      refine ⟨_, _, rfl, rfl, _, rfl, ?_⟩
      by_cases b : z.length ≤ 8
      · refine iteFe (by rw [len_S]; simp; omega) ⟨_, rfl, _, rfl, line, _, rfl, rfl, _, rfl, ?_⟩
        by_cases c : (z.length : Int) = w
        · refine iteFe (by rw [len_S]; simp [c]) ⟨_, rfl, _, rfl, fun D nD => lc_it walk_str (fun i G => Same H G ∧ G D = some (.lst (((z.take i).map fun c => goodB [c]).map V.bl))) ⟨same_upd nD, upd_same⟩ (fun _ _ _ _ => trivial) ?_ ?_⟩
          · rintro i x G G' hi ⟨sG, hD⟩ ⟨rfl, d, gd, rfl⟩
            have gd2 : z[i]? = some d := by
              have y : z.toArray[i]? = some d := gd
              rwa [List.getElem?_toArray] at y
            refine ⟨rfl, tyes (iteT ⟨_, rfl, [d], rfl, (show 1 ≤ 1000 by decide), _, hD, ?_, ?_, ?_⟩)⟩
            · rw [List.length_map, List.length_map, List.length_take]
              exact small1000 (by omega)
            · exact fun b o e => by
                rw [upd_ne (ne_of_none e nD)]
                exact sG b o e
            · rw [upd_same, List.take_add_one, gd2]
              simp
          · rintro G ⟨sG, hD⟩
            have e1 : (S z).cps.size = z.length := by simp
            rw [e1, List.take_of_length_le (Nat.le_refl _)] at hD
            refine ⟨D, _, rfl, SqL.of hD, _, rfl, ?_⟩
            rw [all_good]
            exact body (go ⟨a1, b, c⟩) G sG
        · exact iteTe (by rw [len_S]; simp [c]) (yes fun y => c y.2.2)
      · exact iteTe (by rw [len_S]; simp; omega) (iteT (yes fun y => b y.2.1))
    · refine ⟨_, rfl, iteT (iteT (yes fun y => a (decide_eq_true ?_)))⟩
      rw [len_S]
      have := y.1
      omega
/-! ### the first bad line -/
def spLine : Sp := fun vs H Q _ => ∃ a R, vs = [.ref a] ∧ H a = some (.lst (rowsV R)) ∧ R.length ≤ 1000 ∧ (∀ r ∈ R, r.length ≤ 1000) ∧ ∀ H', Same H H' → Q (.int (lineOf R)) H'
theorem scLine : FnScope ["rows", "line", "row"] ["rows"] (defScope gBadLine) := ⟨rfl, rfl, rfl, by decide +kernel, rfl, by decide +kernel, by decide +kernel⟩
theorem walkS {K : PySem.W.Frag} {a : Addr} {xs : List V} : Walk (ItS K a) xs.length (fun H => SqL K H a xs) (fun i H v H' => ∃ T x, v = .ref T ∧ H T = none ∧ H' = upd H T (.tup [.int ((i : Int) + 1), x]) ∧ xs[i]? = some x) :=
  ⟨fun i H hi h => ⟨xs, xs[i], h, List.getElem?_eq_getElem hi⟩, fun H h => ⟨xs, h, rfl⟩, fun i H v H' _ h ⟨T, x, a, b, c, d⟩ => ⟨T, x, a, b, c, d xs h⟩⟩
theorem row0 (r : List Nat) (R : Rows) : atI (rowsV (r :: R)) 0 = some (.str (S r)) := atI_nat (j := 0) (by rfl)
theorem rowsV_at {R : Rows} {i : Nat} {x : V} (h : (rowsV R)[i]? = some x) : ∃ r, R[i]? = some r ∧ x = .str (S r) := by
  unfold rowsV at h
  rw [List.getElem?_map] at h
  cases e : R[i]? with
  | none =>
    rw [e] at h
    cases h
  | some r =>
    rw [e] at h
    cases h
    exact ⟨r, rfl, rfl⟩
theorem lineOf_cons {r : List Nat} {R : Rows} : lineOf (r :: R) = match ((r :: R).take 8).findIdx? (fun z => !okB (r.length : Int) z) with
    | some i => (i : Int) + 1
    | none => if 8 < (r :: R).length then 9 else 0 := rfl
theorem find_some {p : List Nat → Bool} : ∀ {l : Rows} {i : Nat} {z : List Nat}, l[i]? = some z → p z = true → (∀ j y, j < i → l[j]? = some y → p y = false) → l.findIdx? p = some i
  | [], i, z, h, _, _ => by simp at h
  | y :: l, 0, z, h, hz, _ => by
    have e : y = z := by simpa using h
    subst e
    rw [List.findIdx?_cons, hz]
    rfl
  | y :: l, i + 1, z, h, hz, hp => by
    have e := find_some (l := l) (i := i) (z := z) (by simpa using h) hz fun j x hj hx => hp (j + 1) x (by omega) (by simpa using hx)
    rw [List.findIdx?_cons, hp 0 y (by omega) rfl, e]
    rfl
theorem find_none {p : List Nat → Bool} {l : Rows} (h : ∀ (j : Nat) (y : List Nat), l[j]? = some y → p y = false) : l.findIdx? p = none := by
  rw [List.findIdx?_eq_none_iff]
  intro x hx
  obtain ⟨j, hj⟩ := List.mem_iff_getElem?.mp hx
  exact h j x hj
theorem ok_line {f g : Addr} {fd gd : FuncData} (F : Fun K "_bad_line" "_bad_line" gBadLine f fd) (G : Cl P w K mg base CX0 3 "_is_bad_row" ["row", "width"] spBad g gd) (L : LTxt K mg) (T : PTxt K mg C) : FnOk P w K mg base CX0 4 f fd ["rows"] spLine := by
  refine F.ok scLine (fun vs H Q E h => ?_) (fun cdv A outer s H vs Q E hr h => ?_)
  · obtain ⟨a, R, rfl, _⟩ := h
    rfl
  · obtain ⟨a, R, rfl, ha, few, each, k⟩ := h
    obtain ⟨um, hm, rm⟩ := T.most
    refine ⟨_, pss_cons (ps_if (pt_not (pt_truth (pv 0) (fun _ => rfl))) (pss_one (ps_ret pe_int)) pss_nil)
      (pss_cons (ps_for PassesOwn.never rfl (pi_enumS (by rfl) T.enum (pa_cons (pe_slice sl_list (pv 0) po_none (po_some (pe_glob (by rfl) hm rm))) pa_nil) (pk_cons pe_int pk_nil)) (pg_tup rfl (pgs_cons (pg_name (i := 1) scLine.nd rfl (.inl rfl)) (pgs_cons (pg_name (i := 2) scLine.nd rfl (.inl rfl)) pgs_nil)))
        (pss_one (ps_if (pt_val (pe_call G.ok hr (by rfl) G.gl G.kp G.bd .nil pass0 (pa_cons (pv 2) (pa_cons (pe_callB call_len_str (by rfl) L.len PySem.boot_len (pa_cons (pe_ix ix_list (pv 0) pe_int (fun _ _ => rfl)) pa_nil)) pa_nil)))) (pss_one (ps_ret (pv 1))) pss_nil)))
      (pss_one (ps_ret (pe_ifExp (pt_cmpR op_gt (pe_callB call_len_seq (by rfl) L.len PySem.boot_len (pa_cons (pv 0) pa_nil)) (pe_glob (by rfl) hm rm) (nomark _)) (pe_op op_add (pe_glob (by rfl) hm rm) pe_int) pe_int)))), ?_⟩
    match R, ha, few, each, k with
    | [], ha, few, each, k =>
      exact ⟨_, rfl, _, .inl ⟨_, SqL.of ha, rfl⟩, iteT (k H (Same.refl H))⟩
    | r :: R, ha, few, each, k =>
      refine ⟨_, rfl, _, .inl ⟨_, SqL.of ha, rfl⟩, iteF ?_⟩
      refine ⟨_, rfl, _, rfl, a, _, rfl, SqL.of ha, fun p np => ?_⟩
      have e8 : cutV (rowsV (r :: R)) none (some 8) = rowsV ((r :: R).take 8) := by
        rw [show (some 8 : Option Int) = some ((8 : Nat) : Int) from rfl, cut_to]
        exact (List.map_take).symm
      rw [e8]
      have s1 := same_upd (o := .lst (rowsV ((r :: R).take 8))) np
      have hp : (upd H p (.lst (rowsV ((r :: R).take 8)))) p = some (.lst (rowsV ((r :: R).take 8))) := upd_same
      generalize upd H p (.lst (rowsV ((r :: R).take 8))) = H1 at s1 hp
      refine ⟨p, _, rfl, rfl, SqL.of hp, for_it walkS (fun i σ G => ∃ y z, σ = [some (.ref a), y, z] ∧ Same H1 G ∧ ∀ j x, j < i → ((r :: R).take 8)[j]? = some x → okB (r.length : Int) x = true) ⟨_, _, rfl, Same.refl _, fun j x hj => absurd hj (by omega)⟩ (fun i σ G _ ⟨_, _, _, sG, _⟩ => SqL.of (sG _ _ hp)) ?_ ?_⟩
      · rintro i x σ G G' hi ⟨y, z, rfl, sG, ok⟩ ⟨T1, x1, rfl, nT, rfl, gx⟩
        obtain ⟨q, gq, rfl⟩ := rowsV_at gx
        have s2 := sG.trans (same_upd (o := .tup [.int ((i : Int) + 1), .str (S q)]) nT)
        refine ⟨T1, _, rfl, SqT.of upd_same, rfl, _, _, rfl, _, _, rfl, rfl, ?_⟩
        have mq : q ∈ r :: R := List.mem_of_mem_take (List.mem_of_getElem? gq)
        refine ⟨_, rfl, _, rfl, a, _, 0, _, rfl, rfl, SqL.of (s2 _ _ (s1 _ _ ha)), row0 r R, _, rfl, by rw [len_S]; exact small_line (each r List.mem_cons_self), q, _, rfl, each q mq, fun G2 sg => ⟨_, rfl, ?_⟩⟩
        rw [len_S]
        by_cases b : okB (r.length : Int) q = true
        · rw [b]
          refine iteF ⟨_, _, rfl, s2.trans sg, fun j x hj hx => ?_⟩
          rcases Nat.lt_succ_iff_lt_or_eq.mp hj with z | z
          · exact ok j x z hx
          · rw [z, gq] at hx
            cases hx
            exact b
        · have b : okB (r.length : Int) q = false := by simpa using b
          rw [b]
          refine iteT ⟨_, rfl, ?_⟩
          have e : lineOf (r :: R) = (i : Int) + 1 := by
            rw [lineOf_cons, find_some gq (by rw [b]; rfl) fun j y hj hy => by rw [ok j y hj hy]; rfl]
          have q2 := k G2 (s1.trans (s2.trans sg))
          rw [e] at q2
          exact q2
      · rintro σ G ⟨y, z, rfl, sG, ok⟩
        have e : lineOf (r :: R) = if 8 < (r :: R).length then 9 else 0 := by
          rw [lineOf_cons, find_none fun j y hy => by
            rw [ok j y ?_ hy]
            · rfl
            · rw [rowsV_len]
              rcases List.getElem?_eq_some_iff.mp hy with ⟨h1, _⟩
              exact h1]
        have q2 := k G (s1.trans sG)
        rw [e] at q2
        refine ⟨_, rfl, a, _, rfl, .inl (SqL.of (sG _ _ (s1 _ _ ha))), _, _, rfl, rfl, _, rfl, ?_⟩
        rw [rowsV_len]
        by_cases b : 8 < (r :: R).length
        · rw [if_pos b] at q2
          exact iteTe (decide_eq_true (by omega)) ⟨_, _, rfl, rfl, q2⟩
        · rw [if_neg b] at q2
          exact iteFe (decide_eq_false (by omega)) q2
end
end Pm
namespace Pm
open PySem PySem.Spec PyProof.Rows L2 SX
/-! ### errors that are raised with fields of their own -/
/-- an error class at C that may be raised: its __init__ at f keeps sp -/
structure EMk (P : Program) (w : World) (K : PySem.W.Frag) (mg : Str → Option Value) (base : Heap) (C : Addr) (name : Str) (ps : List Str) (sp : Sp) (f : Addr) (fd : FuncData) : Prop where
  T : OexC K C
  at_ : PySem.W.findIn K (.ref C) "__init__" = some (some (.ref f))
  ty : PySem.W.typeIn K (.ref f) = some (.type "function")
  ok : FnOk P w K mg base CX0 1 f fd ps sp
  bd : Binds K fd ps []
  gl : mg name = some (.ref C)
def spE1 (C : Addr) (n : Str) : Sp := fun vs H Q _ => ∃ a v, vs = [.ref a, v] ∧ H a = some (exo a C none) ∧ ∀ H' d, H' a = some (exo a C (some d)) → H' d = some (exd d [(n, v)]) → H d = none → d ≠ a → SameBut a H H' → Q .non H'
def spE2 (C : Addr) : Sp := fun vs H Q _ => ∃ a v u, vs = [.ref a, v, u] ∧ H a = some (exo a C none) ∧ ∀ H' d, H' a = some (exo a C (some d)) → H' d = some (exd d [("y", u), ("x", v)]) → H d = none → d ≠ a → SameBut a H H' → Q .non H'
/-- what was there stands when the error is on its way -/
theorem on_way {H H2 : Hp} {a d : Addr} {o : HO} {fs : List (Str × V)} (n : H a = none) (nd : (upd H a o) d = none) (ne : d ≠ a) (s : SameBut a (upd H a o) H2) : Same H (upd (del H2 a) d (.xd fs)) := fun b u e => by
  have nba : b ≠ a := ne_of_none e n
  have nbd : b ≠ d := fun z => by
    rw [z] at e
    rw [upd_ne ne, e] at nd
    cases nd
  rw [upd_ne nbd, del_ne nba]
  exact s b u nba (by rw [upd_ne nba]; exact e)
theorem passF {X : Cx} : Passes (L2.CX X.prog X.w) X E0 := fun _ _ _ _ _ _ _ c => by
  obtain ⟨_, _, _, _, _, _, _, _, _, _, _, _, z⟩ := c
  exact z.elim
/-- an error of the class at C with the fields fs is let out -/
def Lets (E : XK) (C : Addr) (fs : List (Str × V)) (H : Hp) : Prop := ∀ d H', H d = none → H' d = some (.xd fs) → Same H H' → E (.ref C) (some d) H'
/-! ### the error that a suite holds -/
structure ErrC (K : PySem.W.Frag) (D : Addr) : Prop where
  cl : (PySem.W.clsIn K D).isSome = true
  hg : PySem.W.findIn K (.ref D) "__getattribute__" = some (some (.builtin "BaseException.__getattribute__"))
  hk : PySem.W.findIn K (.ref D) "__getattr__" = some none
  hs : PySem.W.subIn K (.ref D) (.type "BaseException") = some true
  ha : PySem.W.findIn K (.ref D) "__class__" = some (some (.builtin "object.__class__"))
  hn : PySem.W.specialIn K (.builtin "object.__class__") "__get__" = some (some (.builtin "getset_descriptor.__get__"))
  ht : PySem.W.takesIn K (.builtin "object.__class__") = some true
  hm : PySem.W.mroIn K D (.type "object") = some true
  hd : PySem.W.hasDictIn K D = true
theorem ErrC.xf {K : PySem.W.Frag} {D : Addr} (C : ErrC K D) : XfC K D := ⟨C.hg, C.hk, C.hs, C.hd⟩
/-- isinstance(e, c), e the error that the suite holds at a, its class cls, its dict d -/
def rIsX (K : PySem.W.Frag) (a : Addr) (cls : Value) (d : Option Addr) : List V → Hp → VK → Prop := fun xs H Q => ∃ (D dd : Addr) (fs : List (Str × V)) (c : V) (cv : Value) (b : Bool),
  xs = [.ref a, c] ∧ cls = .ref D ∧ d = some dd ∧ ErrC K D ∧ H dd = some (.xd fs) ∧ (∀ u, RelV c u → u = cv) ∧ PySem.W.kitOne K (.ref D) cv = some b ∧ Q (.bl b) H
theorem call_isX {X : Cx} {a : Addr} {cls : Value} {d : Option Addr} {oe : Obj} {pn : List (Addr × Obj)} (hz : Zc cls d oe) (hf : ∃ vs, oe.data = .fields vs) : CallR (X.suite a ((a, oe) :: pn)) (.builtin "isinstance") (rIsX X.K a cls d) := by
  intro pins s σ H xs us Q I r h
  obtain ⟨D, dd, fs, c, cv, b, rfl, rfl, rfl, C, hdd, hcv, e, q⟩ := h
  match r with
  | .cons rx (.cons rt .nil) =>
    cases rx
    cases hcv _ rt
    obtain ⟨at_, _⟩ := I.pin (a, oe) (List.mem_append_left _ List.mem_cons_self)
    obtain ⟨vs, hd⟩ := hf
    have own : ObjOk X.prog X.w H s.heap dd (.xd fs) := I.hok dd _ hdd
    obtain ⟨mA, hns, _⟩ := own
    obtain ⟨od, ho, _⟩ := lookIn_ns hns
    have J : PySem.W.InstAt s.heap a oe D (some od) := ⟨at_, hz.1, by unfold PySem.W.notCls; rw [hd] <;> rfl, by rw [hz.2]; exact ho⟩
    exact PySem.W.kia_one (PySem.W.kitx_exc C.cl C.hg C.hk C.hs C.ha C.hn C.ht C.hm) I.kIn J e (fun z => nomatch z) fun tk => ⟨.bl b, H, I.kept (t' := tk) fun _ _ z => z, rfl, q⟩
/-- e.f of that error, whatever its class -/
def tErrX (K : PySem.W.Frag) (a : Addr) (cls : Value) (d : Option Addr) (f : Str) (te : TE) : TE := fun σ H Q => te σ H fun x H1 => ∃ (D dd : Addr) (fs : List (Str × V)) (v : V), x = .ref a ∧ cls = .ref D ∧ d = some dd ∧ ErrC K D ∧ PySem.W.findIn K (.ref D) f = some none ∧ H1 dd = some (.xd fs) ∧ fs.lookup f = some v ∧ Q v H1
theorem pe_errX {X : Cx} {a : Addr} {oe : Obj} {cls : Value} {d : Option Addr} {pn : List (Addr × Obj)} {e : Expr} {te : TE} {pos : Pos} {n : Str} (hz : Zc cls d oe) (hf : ∃ vs, oe.data = .fields vs) (he : PE (X.suite a ((a, oe) :: pn)) e te)
    (hb : attributeBase e n X.env (eval e X.env) = eval e X.env := by rfl) : PE (X.suite a ((a, oe) :: pn)) (.Attribute e n pos) (tErrX X.K a cls d n te) := by
  refine ⟨fun pins s σ H Q I h => attr_of hb (thn (he.run pins s σ H _ I h) fun u s1 ⟨x, H1, I1, rx, D, dd, fs, v, ex, ec, ed, C, hno, hdd, l, q⟩ => ?_)⟩
  subst ex ec ed
  obtain rfl : u = Value.ref a := rx
  obtain ⟨at_, _⟩ := I1.pin (a, oe) (List.mem_append_left _ List.mem_cons_self)
  obtain ⟨vs, hd⟩ := hf
  have own : ObjOk X.prog X.w H1 s1.heap dd (.xd fs) := I1.hok dd _ hdd
  obtain ⟨mA, hns, rel⟩ := own
  obtain ⟨od, ho, hl⟩ := lookIn_ns hns
  have rl := rel n
  rw [l] at rl
  obtain ⟨u, hu, ru⟩ := RelO.some_of (v := v) (o := mA n) rl
  have J : PySem.W.InstAt s1.heap a oe D (some od) := ⟨at_, hz.1, by unfold PySem.W.notCls; rw [hd] <;> rfl, by rw [hz.2]; exact ho⟩
  exact HandSPX.exc_get I1.kIn J C.hg C.hk C.hs (PySem.W.findObj_own C.hd hno rfl (by rw [hl, hu])) (handed_of ru) ⟨v, H1, I1.tok _, ru, q⟩
end Pm
namespace Pm
open PySem PySem.Spec PyProof.Rows L2 SX
section
variable {P : Program} {w : World} {K : PySem.W.Frag} {mg : Str → Option Value} {base : Heap} {C CI : Addr}
theorem scEInvalidPicture : FnScope ["self", "line"] ["self", "line"] (defScope cInvalidPictureInit) := ⟨rfl, rfl, rfl, by decide +kernel, rfl, by decide +kernel, by decide +kernel⟩
theorem okEInvalidPicture {f C : Addr} {fd : FuncData} (F : Fun K "__init__" "InvalidPicture.__init__" cInvalidPictureInit f fd) (T : OexC K C) (nx : PySem.W.findIn K (.ref C) "line" = some none) : FnOk P w K mg base CX0 1 f fd ["self", "line"] (spE1 C "line") := by
  refine F.ok scEInvalidPicture (fun vs H Q E h => ?_) (fun cdv A outer s H vs Q E hr h => ?_)
  · obtain ⟨a, v, rfl, _⟩ := h
    rfl
  · obtain ⟨a, v, rfl, ha, k⟩ := h
    refine ⟨_, pss_one (ps_ost (pv 0) (pv 1)), ?_⟩
    refine ⟨_, rfl, _, rfl, a, C, rfl, T, nx, .inl ⟨ha, fun dx nd ne => ?_⟩⟩
    refine k _ dx upd_same (by rw [upd_ne ne, upd_same]) nd ne fun b o nb e => ?_
    rw [upd_ne nb, upd_ne (ne_of_none e nd)]
    exact e
/-! ### a picture -/
def wideOf (R : Rows) : Int := ((R.headD []).length : Int)
def PicAt (C : Addr) (H : Hp) (r : Addr) (R : Rows) : Prop := ∃ dx l, H r = some (.ins C dx [("_rows", .ref l), ("width", .int (wideOf R)), ("height", .int (R.length : Int))]) ∧ H l = some (.lst (rowsV R))
structure PCls (K : PySem.W.Frag) (C : Addr) : Prop where
  cl : L2.Cls K C
  nR : NoAttr K C "_rows"
  nW : NoAttr K C "width"
  nH : NoAttr K C "height"
def spInit (C CI : Addr) : Sp := fun vs H Q E => ∃ r dx a R, vs = [.ref r, .ref a] ∧ H r = some (.ins C dx []) ∧ H a = some (.lst (rowsV R)) ∧ R.length ≤ 1000 ∧ (∀ z ∈ R, z.length ≤ 1000) ∧
  (0 < lineOf R → Lets E CI [("line", .int (lineOf R))] H) ∧ (lineOf R = 0 → ∀ H', PicAt C H' r R → SameBut r H H' → Q .non H')
theorem lineOf_nonneg (R : Rows) : 0 ≤ lineOf R := by
  match R with
  | [] => exact Int.le_of_lt (by decide)
  | r :: R =>
    rw [lineOf_cons]
    split
    · exact Int.add_nonneg (Int.natCast_nonneg _) (by decide)
    · split <;> decide
theorem scInit : FnScope ["self", "rows", "line"] ["self", "rows"] (defScope cPictureInit) := ⟨rfl, rfl, rfl, by decide +kernel, rfl, by decide +kernel, by decide +kernel⟩
theorem ok_init {f g e : Addr} {fd gd ed : FuncData} (F : Fun K "__init__" "Picture.__init__" cPictureInit f fd) (G : Cl P w K mg base CX0 4 "_bad_line" ["rows"] spLine g gd) (Ex : EMk P w K mg base CI "InvalidPicture" ["self", "line"] (spE1 CI "line") e ed) (L : LTxt K mg) (T : PCls K C) :
    FnOk P w K mg base (L2.CX P w) 5 f fd ["self", "rows"] (spInit C CI) := by
  refine F.okX scInit (fun vs H Q E h => ?_) (fun cdv A outer s H vs Q E hr h => ?_)
  · obtain ⟨r, dx, a, R, rfl, _⟩ := h
    rfl
  · obtain ⟨r, dx, a, R, rfl, hR, ha, few, each, bad, good⟩ := h
    refine ⟨_, pss_cons (ps_set (i := 2) scInit.nd rfl (.inl rfl) (pe_call G.ok hr (by rfl) G.gl G.kp G.bd .nil pass0 (pa_cons (pv 1) pa_nil)))
      (pss_cons (ps_if (pt_cmpR op_gt (pv 2) pe_int (nomark _)) (pss_one (ps_raise rfl (takes_of rfl rfl rfl rfl) (pmk_oex Ex.T Ex.at_ Ex.ty Ex.ok (hr.mono (by decide)) Ex.bd .nil pass0 (by rfl) Ex.gl (pa_cons (pv 2) pa_nil)))) pss_nil)
      (pss_cons (ps_fld (pv 0) (pe_callTy call_list_of (by rfl) L.lst (by decide +kernel) (pa_cons (pv 1) pa_nil)) rfl)
      (pss_cons (ps_fld (pv 0) (pe_callB call_len_str (by rfl) L.len PySem.boot_len (pa_cons (pe_ix ix_list (pv 1) pe_int (fun _ _ => rfl)) pa_nil)) rfl)
      (pss_one (ps_fld (pv 0) (pe_callB call_len_seq (by rfl) L.len PySem.boot_len (pa_cons (pv 1) pa_nil)) rfl))))), ?_⟩
    refine ⟨_, rfl, a, R, rfl, ha, few, each, fun H1 s1 => ?_⟩
    refine ⟨_, rfl, _, _, rfl, rfl, _, rfl, ite2 (fun p => ?_) (fun p => ?_)⟩
    · have pos : 0 < lineOf R := of_decide_eq_true p
      refine ⟨_, rfl, by show 1 ≤ 1000; decide, fun x nx => ⟨x, _, rfl, upd_same, fun H2 d h1 h2 nd ne sb => ⟨rfl, d, _, h1, h2, ?_, ?_⟩⟩⟩
      · rwa [upd_ne ne] at nd
      · have nd1 : H1 d = none := by rwa [upd_ne ne] at nd
        exact bad pos d _ (back s1 nd1) upd_same (s1.trans (on_way nx nd ne sb))
    · have zero : lineOf R = 0 := by
        have y := lineOf_nonneg R
        have z : ¬ 0 < lineOf R := fun y => p (decide_eq_true y)
        omega
      match R, ha, few, each, bad, good, zero with
      | q :: R, ha, few, each, bad, good, zero =>
        refine ⟨_, rfl, a, _, rfl, .inl (SqL.of (s1 _ _ ha)), fun l nl => ⟨_, rfl, r, C, dx, [], rfl, same_upd nl _ _ (s1 _ _ hR), T.cl, T.nR, by show 0 < 1000; decide, ?_⟩⟩
        have nra : a ≠ r := ne_of (s1 _ _ ha) (s1 _ _ hR) (by intro z; cases z)
        have nlr : l ≠ r := Ne.symm (ne_of_none (s1 _ _ hR) nl)
        have nla : l ≠ a := Ne.symm (ne_of_none (s1 _ _ ha) nl)
        refine ⟨_, rfl, a, _, 0, _, rfl, rfl, SqL.of (by rw [upd_ne nra, upd_ne nla.symm]; exact s1 _ _ ha), row0 q R, _, rfl, by rw [len_S]; exact small_line (each q List.mem_cons_self), _, rfl, r, C, dx, _, rfl, upd_same, T.cl, T.nW, by show 1 < 1000; decide, ?_⟩
        refine ⟨_, rfl, a, _, rfl, .inl (SqL.of (by rw [upd_ne nra, upd_ne nra, upd_ne nla.symm]; exact s1 _ _ ha)), _, rfl, r, C, dx, _, rfl, upd_same, T.cl, T.nH, by show 2 < 1000; decide, ?_⟩
        refine good zero _ ⟨dx, l, ?_, ?_⟩ fun b o nb e => ?_
        · rw [upd_same, rowsV_len, len_S]
          rfl
        · rw [upd_ne nlr, upd_ne nlr, upd_ne nlr]
          exact upd_same
        · rw [upd_ne nb, upd_ne nb, upd_ne nb]
          exact same_upd nl _ _ (s1 _ _ e)
end
end Pm
namespace Pm
open PySem PySem.Spec PyProof.Rows L2 SX
/-! ### calls whose errors are wished for at the caller's slots -/
section
variable {X : Cx} {CXf : CXT} {k : Nat} {f C : Addr} {fd : FuncData} {ps : List Str} {sp : Sp} {E : L2.St → XK} {x m : Str} {p pos apos : Pos} {e o : Expr} {es : List Expr} {ta : TE} {t : TA} {pins : List (Addr × Obj)} {σ : L2.St} {H : Hp} {s : Shared} {Q : VK} {us : List Value} {vs : List V}
/-- how a callee's end is taken -/
theorem end_of {r : Result} {s' : Shared} (I : L2.Inv X pins σ H s) (hx : PassesAt CXf X σ (E σ)) (h : match r with | .ok (.ret v) => EP X pins σ Q v s' | .ok _ => False | .error er => CXf X.stack H s (E σ) er s') :
    match r with | .ok (.ret v) => EP X pins σ Q v s' | .ok _ => False | .error er => X.xe er s' := by
  cases r with
  | error er => exact hx pins H s er s' I h
  | ok fl =>
    cases fl with
    | ret u => exact h
    | next => exact h
    | brk => exact h
    | cont => exact h
theorem make_runS (M : Mk X.K C f) (F : FnOk X.prog X.w X.K X.mg X.base CXf k f fd ps sp) (hr : Room (k + 1) X.A) (hb : Binds X.K fd ps []) (hx : PassesAt CXf X σ (E σ)) (I : L2.Inv X pins σ H s) (rv : Vals vs us)
    (h : ∀ x dx, H x = none → H dx = none → dx ≠ x → sp (.ref x :: vs) (upd (upd H dx (.own x)) x (.ins C dx [])) (fun v H2 => v = .non ∧ Q (.ref x) H2) (E σ)) : wpAny (model X.prog X.w) X.A (call (.ref C) us) (EP X pins σ Q) X.xe s := by
  have big : s.heap.objs.size ≤ s.heap.objs.size + 1 := Nat.le_succ _
  have asked := h (s.heap.objs.size + 1) s.heap.objs.size (I.hok.fresh big) (I.hok.fresh (Nat.le_refl _)) (Nat.ne_of_lt (Nat.lt_succ_self _))
  have J := Inv.made (C := C) I
  have rs : Vals (V.ref (s.heap.objs.size + 1) :: vs) (Value.ref (s.heap.objs.size + 1) :: us) := .cons rfl rv
  have len : (Value.ref (s.heap.objs.size + 1) :: us ++ []).length = ps.length := by
    rw [List.append_nil, ← rs.length]
    exact F.len _ _ _ _ asked
  have env := J.env0.make C us []
  have bind := hb _ (Value.ref (s.heap.objs.size + 1) :: us) J.kIn len
  rw [List.append_nil] at bind
  refine wpAny_call (make_map (f := f) I.kIn M.makes M.init (beq_iff_eq.mp M.fn) (codeAny_mono (F.run _ X.stack _ _ ⟨Value.ref (s.heap.objs.size + 1) :: us, []⟩ (Value.ref (s.heap.objs.size + 1) :: us) _ _ (E σ) (hr.make C us []) env bind rs asked) fun r s' z => ?_))
  cases r with
  | error er => exact hx pins _ _ er s' J z
  | ok fl =>
    cases fl with
    | ret u =>
      obtain ⟨v, H', I3, rv3, ev, q3⟩ := J.after z
      subst ev
      exact ⟨rv3, .ref (s.heap.objs.size + 1), H', I3, rfl, q3⟩
    | next => exact z.elim
    | brk => exact z.elim
    | cont => exact z.elim
def tMakeS (C : Addr) (sp : Sp) (E : L2.St → XK) (t : TA) : TE := fun σ H Q => t σ H fun vs H1 => ∀ x dx, H1 x = none → H1 dx = none → dx ≠ x → sp (.ref x :: vs) (upd (upd H1 dx (.own x)) x (.ins C dx [])) (fun v H2 => v = .non ∧ Q (.ref x) H2) (E σ)
/-- C(e, ..), C a name of the module -/
theorem pe_makeS (M : Mk X.K C f) (F : FnOk X.prog X.w X.K X.mg X.base CXf k f fd ps sp) (hr : Room (k + 1) X.A) (hg : Gl X x) (hm : X.mg x = some (.ref C)) (hb : Binds X.K fd ps []) (hx : ∀ σ, PassesAt CXf X σ (E σ)) (ha : PA X (e :: es) t)
    (dbg : (x == ("__debug__" : Str)) = false := by decide) (st : starEach (e :: es) X.env = (false, eval e X.env) :: starEach es X.env := by rfl) (pl : (backTo pos (starEach es X.env)).any (·.1) = false := by rfl) :
    PE X (.Call (.Name x p) (e :: es) [] pos) (tMakeS C sp E t) := by
  refine ⟨fun pins s σ H Q I h => wpAny_Call_Name_kw (ld_glob I hg hm ?_ dbg)⟩
  refine PySem.W.callWith_K (h₀ := X.base) I.ok.mod.kin M.kp (thn (ha.run pos pins s σ H _ I h) fun us s1 ⟨vs, H1, I1, rv, q⟩ => ⟨I1.kIn, ?_⟩) st pl
  exact make_runS M F hr hb (hx σ) I1 rv q
def tMakeV (i : Nat) (C : Addr) (sp : Sp) (E : L2.St → XK) (t : TA) : TE := fun σ H Q => σ[i]? = some (some (.ref C)) ∧ tMakeS C sp E t σ H Q
/-- c(e, ..), the class at C in slot i -/
theorem pe_makeV {i : Nat} (M : Mk X.K C f) (F : FnOk X.prog X.w X.K X.mg X.base CXf k f fd ps sp) (hr : Room (k + 1) X.A) (hN : X.N[i]? = some x) (hv : Vis X.env.scope x) (hb : Binds X.K fd ps []) (hx : ∀ σ, PassesAt CXf X σ (E σ)) (ha : PA X (e :: es) t)
    (dbg : (x == ("__debug__" : Str)) = false := by decide) (hcd : (x == ("__classdict__" : Str)) = false := by decide) (st : starEach (e :: es) X.env = (false, eval e X.env) :: starEach es X.env := by rfl) (pl : (backTo pos (starEach es X.env)).any (·.1) = false := by rfl) :
    PE X (.Call (.Name x p) (e :: es) [] pos) (tMakeV i C sp E t) := by
  refine ⟨fun pins s σ H Q I ⟨hs, h⟩ => ?_⟩
  refine wpAny_Call_Name_kw (thn ((pe_var (pos := p) hN hv dbg hcd).run pins s σ H (fun v H1 => v = .ref C ∧ H1 = H) I ⟨.ref C, hs, rfl, rfl⟩) fun u s0 ⟨v, H0, I0, r0, ev, eh⟩ => ?_)
  subst ev eh
  obtain rfl : u = Value.ref C := r0
  refine PySem.W.callWith_K (h₀ := X.base) I.ok.mod.kin M.kp (thn (ha.run pos pins s0 σ _ _ I0 h) fun us s1 ⟨vs, H1, I1, rv, q⟩ => ⟨I1.kIn, ?_⟩) st pl
  exact make_runS M F hr hb (hx σ) I1 rv q
def tMethE (C : Addr) (m : Str) (sp : Sp) (E : L2.St → XK) (ta : TE) (t : TA) : TE := fun σ H Q => ta σ H fun x H1 => ∃ a dx fs, x = .ref a ∧ H1 a = some (.ins C dx fs) ∧ fs.lookup m = none ∧ t σ H1 fun vs H2 => sp (x :: vs) H2 Q (E σ)
/-- o.m(e, ..) -/
theorem pe_methE {pl : Sem Bool} (he : PE X o ta) (c : L2.Cls X.K C) (hm : Meth X.K C m f) (F : FnOk X.prog X.w X.K X.mg X.base CXf k f fd ps sp) (hr : Room k X.A) (hb : Binds X.K fd ps []) (hx : ∀ σ, PassesAt CXf X σ (E σ)) (ha : PA X (e :: es) t)
    (st : starEach (e :: es) X.env = (false, eval e X.env) :: starEach es X.env := by rfl) (pl2 : (backTo pos (starEach es X.env)).any (·.1) = false := by rfl)
    (ht : eval (.Call (.Attribute o m apos) (e :: es) [] pos) X.env = (do
      let ov ← eval o X.env
      standAt apos.atName
      let (f, first) ← holding [ov] (getMethod ov m pl)
      callWith pos f first (backTo pos (starEach (e :: es) X.env)) (backToKw pos (keywordEach [] X.env))) := by rfl) :
    PE X (.Call (.Attribute o m apos) (e :: es) [] pos) (tMethE C m sp E ta t) := by
  refine ⟨fun pins s σ H Q I h => PySem.W.methodCall_KW (pl := pl) (thn (he.run pins s σ H _ I h) fun u s1 ⟨x, H1, I1, rx, a, dx, fs, ex, ea, l, q⟩ => ?_) ht⟩
  subst ex
  obtain rfl : u = Value.ref a := rx
  refine getmeth_ok I1 ea c hm l (PySem.W.callWith_K (first := [.ref a]) (h₀ := X.base) I.ok.mod.kin hm.kp (thn (ha.run pos pins s1 σ H1 _ I1 q) fun us s2 ⟨vs, H2, I2, rv, q2⟩ => ⟨I2.kIn, ?_⟩) st pl2)
  exact run_fnS (us := .ref a :: us) (vs := .ref a :: vs) F hr hb (hx σ) I2 (.cons rfl rv) q2
/-! ### a classmethod -/
open ClX in
def tCMethE (C : Addr) (sp : Sp) (E : L2.St → XK) (ta : TE) (t : TA) : TE := fun σ H Q => ta σ H fun x H1 => x = .ref C ∧ t σ H1 fun vs H2 => sp (.ref C :: vs) H2 Q (E σ)
open ClX in
theorem run_cmE {q g : Addr} (F : FnR X.prog X.w X.K X.mg X.base CXf k g sp) (hr : Room k X.A) (hx : PassesAt CXf X σ (E σ)) (I : L2.Inv X ((q, PySem.W.methodObj (.ref g) (.ref C)) :: pins) σ H s)
    (rv : Vals vs us) (h : sp (.ref C :: vs) H Q (E σ)) : wpAny (model X.prog X.w) X.A (call (.ref q) us) (EP X pins σ Q) X.xe s := by
  have go : wpAny (model X.prog X.w) X.A (call (.ref q) us) (EP X ((q, PySem.W.methodObj (.ref g) (.ref C)) :: pins) σ Q) X.xe s := by
    refine wpAny_call (PySem.W.method_call (pin_at I) (codeAny_mono (F X.A X.stack s H (.ref C :: us) (.ref C :: vs) Q (E σ) hr I.env0 (.cons rfl rv) h) fun r s' z => ?_))
    cases r with
    | error er => exact hx _ H s er s' I z
    | ok fl =>
      cases fl with
      | ret u => exact I.after z
      | next => exact z.elim
      | brk => exact z.elim
      | cont => exact z.elim
  exact thn go fun _ _ y => unpinE y
open ClX in
theorem pe_cmethE {g c : Addr} {mc : Value} {pl : Sem Bool} (he : PE X o ta) (r : CRead X.K C mc) (cm : CMet X.K C mc m c g) (F : FnR X.prog X.w X.K X.mg X.base CXf k g sp) (hr : Room k X.A) (hx : ∀ σ, PassesAt CXf X σ (E σ)) (ha : PA X (e :: es) t)
    (st : starEach (e :: es) X.env = (false, eval e X.env) :: starEach es X.env := by rfl) (pl2 : (backTo pos (starEach es X.env)).any (·.1) = false := by rfl)
    (ht : eval (.Call (.Attribute o m apos) (e :: es) [] pos) X.env = (do
      let ov ← eval o X.env
      standAt apos.atName
      let (f, first) ← holding [ov] (getMethod ov m pl)
      callWith pos f first (backTo pos (starEach (e :: es) X.env)) (backToKw pos (keywordEach [] X.env))) := by rfl) :
    PE X (.Call (.Attribute o m apos) (e :: es) [] pos) (tCMethE C sp E ta t) := by
  refine ⟨fun pins s σ H Q I h => PySem.W.methodCall_KW (pl := pl) (thn (he.run pins s σ H _ I h) fun u s1 ⟨x, H1, I1, rx, ex, q⟩ => ?_) ht⟩
  subst ex
  obtain rfl : u = Value.ref C := rx
  refine getmethcm_ok I1 r cm fun s2 I2 => ?_
  refine callwith_cm I2 (base_none I1 (Nat.le_refl _)) cm.fi (thn (ha.run pos _ s2 σ H1 _ I2 q) fun us s3 ⟨vs, H2, I3, rv, q2⟩ => ⟨⟨pin_at I3, I3.kIn⟩, ?_⟩) st pl2
  exact run_cmE F hr (hx σ) I3 rv q2
end
end Pm
namespace Pm
open PySem PySem.Spec PyProof.Rows L2 SX
/-! ### texts of different signs; their order -/
/-- the built-ins and constants that rules ask for besides -/
structure STxt (K : PySem.W.Frag) (mg : Str → Option Value) : Prop where
  set : mg "set" = none
  srt : mg "sorted" = none
/-- the signs in order -/
def asc (z : List Nat) : List Nat := z.mergeSort fun a b => decide (a ≤ b)
theorem asc_perm (z : List Nat) : (asc z).Perm z := List.mergeSort_perm _ _
theorem asc_le (z : List Nat) : (asc z).Pairwise (· ≤ ·) := by
  have h := List.pairwise_mergeSort (le := fun a b : Nat => decide (a ≤ b)) (fun a b c h1 h2 => decide_eq_true (Nat.le_trans (of_decide_eq_true h1) (of_decide_eq_true h2))) (fun a b => by
    rcases Nat.le_total a b with h | h
    · simp [h]
    · simp [h]) z
  exact h.imp fun e => of_decide_eq_true e
theorem two_sorted : ∀ {l m : List Nat}, l.Perm m → l.Pairwise (· ≤ ·) → m.Pairwise (· ≤ ·) → l = m
  | [], m, p, _, _ => (List.Perm.nil_eq p)
  | a :: l, [], p, _, _ => absurd p.length_eq (by simp)
  | a :: l, b :: m, p, h1, h2 => by
    have ha := List.pairwise_cons.mp h1
    have hb := List.pairwise_cons.mp h2
    have ab : a = b := by
      have m1 : a ∈ b :: m := p.mem_iff.mp List.mem_cons_self
      have m2 : b ∈ a :: l := p.mem_iff.mpr List.mem_cons_self
      rcases List.mem_cons.mp m1 with e | e
      · exact e
      · rcases List.mem_cons.mp m2 with e2 | e2
        · exact e2.symm
        · exact Nat.le_antisymm (ha.1 b e2) (hb.1 a e)
    subst ab
    rw [two_sorted (p.cons_inv) ha.2 hb.2]
theorem asc_of {ys z : List Nat} (p : ys.Perm z) (h : ys.Pairwise (· ≤ ·)) : ys = asc z := two_sorted (p.trans (asc_perm z).symm) h (asc_le z)
theorem joinL_one : ∀ z : List Nat, TL.joinL [] (z.map fun c => [c]) = z
  | [] => rfl
  | [c] => rfl
  | c :: d :: z => congrArg (c :: ·) (joinL_one (d :: z))
theorem sum_one : ∀ z : List Nat, (z.map fun _ => 1).sum = z.length
  | [] => rfl
  | c :: z => by
    rw [List.map_cons, List.sum_cons, sum_one z, List.length_cons, Nat.add_comm]
theorem join_ones (z : List Nat) : Txt.join ("" : Str) (ones z) = S z := by
  have e : ("" : Str) = S [] := by decide +kernel
  have e2 : ones z = (z.map fun c => [c]).map S := by unfold ones; rw [List.map_map]; rfl
  rw [e, e2, join_S]
  exact congrArg S (joinL_one z)
def diffB (b : Nat) (z : List Nat) : Bool := (decide (z ≠ []) && decide z.Nodup) && z.all fun c => decide (c = b) || decide (Let c)
section
variable {P : Program} {w : World} {K : PySem.W.Frag} {mg : Str → Option Value} {base : Heap} {C : Addr}
def spAsc : Sp := fun vs H Q _ => ∃ z, vs = [.str (S z)] ∧ z.length ≤ 1000 ∧ ∀ H', Same H H' → Q (.str (S (asc z))) H'
theorem scAsc : FnScope ["signs"] ["signs"] (defScope gInAsciiOrder) := ⟨rfl, rfl, rfl, by decide +kernel, rfl, by decide +kernel, by decide +kernel⟩
theorem ok_asc {f : Addr} {fd : FuncData} (F : Fun K "in_ascii_order" "in_ascii_order" gInAsciiOrder f fd) (R : STxt K mg) : FnOk P w K mg base CX0 1 f fd ["signs"] spAsc := by
  refine F.ok scAsc (fun vs H Q E h => ?_) (fun cdv A outer s H vs Q E hr h => ?_)
  · obtain ⟨z, rfl, _⟩ := h
    rfl
  · obtain ⟨z, rfl, few, k⟩ := h
    refine ⟨_, pss_one (ps_ret (pe_join pe_str (pe_callB (cr_sortedTx rfl) (by rfl) R.srt (by decide +kernel) (pa_cons (pv 0) pa_nil)))), ?_⟩
    refine ⟨⟨_, rfl⟩, _, rfl, z, rfl, few, fun ys p pm pw np => ⟨_, p, ones ys, rfl, rfl, .inl (SqL.of upd_same), ?_, ?_⟩⟩
    · have e : ((ones ys).map (·.length)).sum = ys.length := by
        unfold ones
        rw [List.map_map]
        have : ((fun x : Str => x.length) ∘ fun c => S [c]) = fun _ => 1 := by
          funext c
          exact S_len [c]
        rw [this]
        exact sum_one ys
      rw [e]
      have := pm.length_eq
      show ys.length + (ones ys).length * 0 ≤ 16777216
      omega
    · rw [join_ones, asc_of pm pw]
      exact k _ (same_upd np)
def spDiff : Sp := fun vs H Q _ => ∃ z b, vs = [.str (S z), .str (S [b])] ∧ z.length ≤ 1000 ∧ ∀ H', Same H H' → Q (.bl (diffB b z)) H'
abbrev nDiff : List Str := ["signs", "besides", "sign"]
theorem scDiff : FnScope nDiff ["signs", "besides"] (defScope gAreDifferentSigns) := ⟨rfl, rfl, rfl, by decide +kernel, rfl, by decide +kernel, by decide +kernel⟩
theorem ok_differ {f g : Addr} {fd gd : FuncData} (F : Fun K "are_different_signs" "are_different_signs" gAreDifferentSigns f fd) (G : Cl P w K mg base CX0 1 "is_stone" ["sign"] spStone g gd) (L : LTxt K mg) (T : PTxt K mg C) (R : STxt K mg) :
    FnOk P w K mg base CX0 2 f fd ["signs", "besides"] spDiff := by
  refine F.ok scDiff (fun vs H Q E h => ?_) (fun cdv A outer s H vs Q E hr h => ?_)
  · obtain ⟨z, b, rfl, _⟩ := h
    rfl
  · obtain ⟨z, b, rfl, few, k⟩ := h
    refine ⟨_, pss_cons (ps_if (PW.pt (pw_or (pt_cmpR op_eq (pv 0) pe_str (nomark _)) (pw_or1 (pt_cmpR op_lt (pe_lenSetS (by rfl) L.len (by rfl) R.set (pv 0)) (pe_callB call_len_str (by rfl) L.len PySem.boot_len (pa_cons (pv 0) pa_nil)) (nomark _))))) (pss_one (ps_ret pe_bl)) pss_nil)
      (pss_one (ps_ret (pe_callB (cr_all rfl) (by rfl) T.all (by decide +kernel) (pa_cons (pe_lc (own := [("sign", 2)]) (g := gName 2) (tt := tYes) rfl scDiff.nd (pi_str (pv 0)) (blkOk_by (N := nDiff) (sc := defScope gAreDifferentSigns) (by decide +kernel)) (fun _ _ _ _ _ => pg_name (i := 2) scDiff.nd rfl (.inl rfl)) (fun _ _ _ _ _ => pts_nil)
        (fun _ _ _ _ _ => pe_or (pe_cmpR op_eq (pv 2) (pv 1) (nomark _)) (pe_one (pe_call G.ok hr (by rfl) G.gl G.kp G.bd .nil pass0 (pa_cons (pv 2) pa_nil))))) pa_nil)))), ?_⟩
    have line : (S z).length ≤ sizeLine := by rw [len_S]; exact small_line few
    have emp : ("" : Str) = S [] := by decide +kernel
    refine ⟨_, rfl, rfl, _, rfl, ?_⟩
    by_cases e0 : z = []
    · refine iteTe (decide_eq_true (by rw [e0, emp])) (iteT ?_)
      have q := k H (Same.refl H)
      rw [show diffB b z = false by unfold diffB; rw [e0]; rfl] at q
      exact q
    · refine iteFe (decide_eq_false fun y => e0 ?_) ⟨_, rfl, z, rfl, few, fun n nl nd => ⟨_, rfl, _, rfl, line, _, _, rfl, rfl, _, rfl, ?_⟩⟩
      · simp only [V.str.injEq] at y
        rw [emp] at y
        exact S_inj y
      by_cases e1 : z.Nodup
      · refine iteFe (decide_eq_false (by rw [len_S, nd.mpr e1]; omega)) ?_
        have dB : diffB b z = z.all fun c => decide (c = b) || decide (Let c) := by
          unfold diffB
          rw [decide_eq_true e0, decide_eq_true e1]
          rfl
        refine ⟨_, rfl, _, rfl, fun D nD => lc_it walk_str (fun i G => Same H G ∧ G D = some (.lst (((z.take i).map fun c => decide (c = b) || decide (Let c)).map V.bl))) ⟨same_upd nD, upd_same⟩ (fun _ _ _ _ => trivial) ?_ ?_⟩
        · rintro i x G G' hi ⟨sG, hD⟩ ⟨rfl, d, gd, rfl⟩
          have gd2 : z[i]? = some d := by
            have y : z.toArray[i]? = some d := gd
            rwa [List.getElem?_toArray] at y
          have last : ∀ v : Bool, v = (decide (d = b) || decide (Let d)) → ∃ xs, G' D = some (.lst xs) ∧ xs.length < sizeLine ∧ Same H (upd G' D (.lst (xs ++ [.bl v]))) ∧ upd G' D (.lst (xs ++ [.bl v])) D = some (.lst (((z.take (i + 1)).map fun c => decide (c = b) || decide (Let c)).map V.bl)) := fun v ev => by
            refine ⟨_, hD, ?_, fun a o e => ?_, ?_⟩
            · rw [List.length_map, List.length_map, List.length_take]
              exact small1000 (by omega)
            · rw [upd_ne (ne_of_none e nD)]
              exact sG a o e
            · rw [upd_same, List.take_add_one, gd2, ev]
              simp
          refine ⟨rfl, tyes (iteT ⟨_, rfl, _, rfl, rfl, _, rfl, ?_⟩)⟩
          by_cases e2 : d = b
          · refine iteTe (decide_eq_true (by rw [e2])) ?_
            exact last true (by rw [decide_eq_true e2]; rfl)
          · refine iteFe (decide_eq_false fun y => e2 ?_) ⟨_, rfl, [d], rfl, (show 1 ≤ 1000 by decide), ?_⟩
            · simp only [V.str.injEq] at y
              have := S_inj (a := [d]) (b := [b]) y
              simpa using this
            · exact last _ (by rw [decide_eq_false e2]; rfl)
        · rintro G ⟨sG, hD⟩
          have e3 : (S z).cps.size = z.length := by simp
          rw [e3, List.take_of_length_le (Nat.le_refl _)] at hD
          refine ⟨D, _, rfl, SqL.of hD, ?_⟩
          have q := k G sG
          rw [dB, show (z.all fun c => decide (c = b) || decide (Let c)) = (z.map fun c => decide (c = b) || decide (Let c)).all id by rw [List.all_map]; rfl] at q
          exact q
      · refine iteTe (decide_eq_true ?_) ?_
        · rw [len_S]
          have : n ≠ z.length := fun y => e1 (nd.mp y)
          omega
        · have q := k H (Same.refl H)
          rw [show diffB b z = false by unfold diffB; rw [decide_eq_false e1, Bool.and_false]; rfl] at q
          exact q
end
end Pm
namespace Pm
open PySem PySem.Spec PyProof.Rows L2 SX
/-! ### a tuple of ints in a set of such: asked for -/
section
variable {P : Program} {w : World} {A : Around} {E : Value → Shared → Prop} {s : Shared} {a : Addr} {L : List (Addr × List Int)} {es : Array (Int × Value)} {ep : Nat} {t : SetTable}
/-- where the way of the key k begins -/
abbrev way0 (P : Program) (w : World) (t : SetTable) (k : List Int) : SetTable.Probe := runAt t.mask (SetTable.bits (thash P w k) % (t.mask + 1)) (SetTable.bits (thash P w k))
theorem no_dummy (m : Nat) : ∀ (n : Nat) (p : SetTable.Probe), p.dummy = none → (nth m p n).dummy = none
  | 0, _, h => h
  | n + 1, p, h => no_dummy m n (adv m p) (by unfold adv; split <;> exact h)
/-- the whole search from step c of the way on; K: its first empty place; no entry with this key has been passed -/
theorem ask_from (R : SetTR P w s.heap a L es ep t) {x : Addr} {k : List Int} (hx : L2.IsT P w s.heap k x) (hu : A.units < cLine) {K : Nat} (few : K < 10 * SetTable.turns t.mask)
    (emp : way t.mask (thash P w k) K ∉ t.place.toList) (full : ∀ c, c < K → way t.mask (thash P w k) c ∈ t.place.toList) {Q : SetFound → Shared → Prop}
    (yes : k ∈ L.map (·.2) → ∀ i, Q (.there (some i)) s) (no : k ∉ L.map (·.2) → ∀ j, Q (.free j false) s) :
    ∀ (f c : Nat) (stand : Option SetTable.Probe), stand.getD (t.probeStart (thash P w k)) = nth t.mask (way0 P w t k) c → c ≤ K → K < f + c →
      (∀ (i : Nat) p, L[i]? = some p → p.2 = k → ∃ c', c ≤ c' ∧ c' < K ∧ t.place.toList[i]? = some (way t.mask (thash P w k) c')) →
      wpAny (model P w) A (setSearchFrom a (.ref x) (thash P w k) false f stand) Q E s := by
  intro f
  induction f with
  | zero =>
    intro c stand _ h1 h2
    omega
  | succ f ih =>
    intro c stand est cK fK ahead
    obtain ⟨o, ho, _, hd⟩ := R.ob
    have step : ∀ q, (nth t.mask (nth t.mask (way0 P w t k) c) q).j = way t.mask (thash P w k) (c + q) := fun q => congrArg SetTable.Probe.j (nth_add t.mask c _ q).symm
    have ent : ∀ (i : Nat) p, L[i]? = some p → ((es[i]?.map (·.1)).getD 0) = thash P w p.2 := fun i p hp => by rw [R.entry hp]; rfl
    have sp := go_spec t R.tab.ris R.tab.dm (fun i => (es[i]?.map (·.1)).getD 0) (thash P w k) (10 * SetTable.turns t.mask) (K - c) (nth t.mask (way0 P w t k) c) (no_dummy _ _ _ rfl) (by omega)
      (fun q hq => by rw [step]; exact full _ (by omega)) (by rw [step, Nat.add_sub_cancel' cK]; exact emp)
    -- an entry ahead, seen from behind step q
    have later : ∀ (q : Nat) (i0 : Nat) p0, (∀ (k' i' : Nat), k' < q → t.place.toList[i']? = some (nth t.mask (nth t.mask (way0 P w t k) c) k').j → ((es[i']?.map (·.1)).getD 0) ≠ thash P w k) → L[i0]? = some p0 → p0.2 = k →
        ∃ c', c + q ≤ c' ∧ c' < K ∧ t.place.toList[i0]? = some (way t.mask (thash P w k) c') := fun q i0 p0 none_ h0 e0 => by
      obtain ⟨c', b1, b2, b3⟩ := ahead i0 p0 h0 e0
      refine ⟨c', Nat.le_of_not_lt fun lt => ?_, b2, b3⟩
      refine none_ (c' - c) i0 (by omega) (by rw [step, Nat.add_sub_cancel' b1]; exact b3) ?_
      rw [ent i0 p0 h0, e0]
    rw [setSearchFrom_succ]
    refine wpAny_bind (wpAny_setState_of ho hd R.fits ?_)
    dsimp only
    refine wp_if_neg R.gw ?_
    try refine wpAny_bind (wpAny_pure ?_)
    rcases sp with ⟨q, i, qK, at_, _, none_, met⟩ | ⟨none_, met⟩
    · have met2 : t.probe (fun i => (es[i]?.map (·.1)).getD 0) (thash P w k) (stand.getD (t.probeStart (thash P w k))) = some (.candidate (way t.mask (thash P w k) (c + q)) i (nth t.mask (way0 P w t k) (c + (q + 1)))) := by
        rw [est, ← step, nth_add t.mask c (way0 P w t k) (q + 1)]
        exact met
      rw [met2]
      dsimp only
      rw [step] at at_
      have iL : i < L.length := by
        have z := (List.getElem?_eq_some_iff.mp at_).1
        have y := R.tab.sz
        rw [List.length_map] at y
        rw [Array.length_toList] at z
        omega
      obtain ⟨p, hp⟩ : ∃ p, L[i]? = some p := ⟨_, List.getElem?_eq_getElem iL⟩
      have pL := List.mem_of_getElem? hp
      have live : t.slot (way t.mask (thash P w k) (c + q)) = .live i := slot_live R.tab.ris at_
      have go : wpAny (model P w) A (searchRest a (.ref x) (thash P w k) false f es t (way t.mask (thash P w k) (c + q)) i (nth t.mask (way0 P w t k) (c + (q + 1)))) Q E s := by
        unfold searchRest
        rw [R.entry hp]
        dsimp only
        refine wpAny_bind (wpAny_holding (wpAny_eqBool_tuple hu (R.tup p pL) hx (wpAny_bind (wpAny_setState_of ho hd R.fits ?_))))
        dsimp only
        refine wp_if_neg (by simp) ?_
        try refine wpAny_bind (wpAny_pure ?_)
        rw [sameMem]
        dsimp only
        simp only [if_true, live, R.entry hp]
        refine wpAny_bind (wpAny_isSame_ref_self (wpAny_bind (wpAny_pure ?_)))
        simp only [if_true]
        by_cases e : p.2 = k
        · exact wp_if_pos (by simp [e]) (wpAny_pure (yes (List.mem_map.mpr ⟨p, pL, e⟩) i))
        · refine wp_if_neg (by simp [e]) (ih (c + (q + 1)) _ rfl (by omega) (by omega) fun i0 p0 h0 e0 => ?_)
          obtain ⟨c', b1, b2, b3⟩ := later q i0 p0 none_ h0 e0
          refine ⟨c', ?_, b2, b3⟩
          rcases Nat.lt_or_eq_of_le b1 with lt | eq
          · omega
          · rw [← eq] at b3
            have z := slot_live R.tab.ris b3
            rw [live] at z
            injection z with z
            rw [← z, hp] at h0
            cases h0
            exact absurd e0 e
      by_cases led : t.led = true
      · refine wp_if_neg (by simp [led]) ?_
        try refine wpAny_bind (wpAny_pure ?_)
        exact go
      · refine wp_if_pos (by simp [led]) (wpAny_bind (seen_tup hx (fun y hy => ?_) ?_))
        · obtain ⟨en, hen, rfl⟩ := List.mem_map.mp hy
          have m : en ∈ es.toList := by
            have z : en ∈ es ∧ en.1 = thash P w k := by simpa using hen
            simpa using z.1
          rw [R.rows] at m
          obtain ⟨p2, m2, rfl⟩ := List.mem_map.mp m
          exact ⟨p2.2, p2.1, rfl, R.tup p2 m2⟩
        · refine wp_if_neg (by decide) ?_
          try refine wpAny_bind (wpAny_pure ?_)
          exact go
    · have met2 : t.probe (fun i => (es[i]?.map (·.1)).getD 0) (thash P w k) (stand.getD (t.probeStart (thash P w k))) = some (.empty (nth t.mask (nth t.mask (way0 P w t k) c) (K - c)).j none) := by
        rw [est]
        exact met
      rw [met2]
      dsimp only
      refine wpAny_pure (no (fun m => ?_) _)
      obtain ⟨p0, m0, e0⟩ := List.mem_map.mp m
      obtain ⟨i0, h0⟩ := List.mem_iff_getElem?.mp m0
      obtain ⟨c', b1, b2, _⟩ := later (K - c) i0 p0 none_ h0 e0
      omega
theorem find_tup (R : SetTR P w s.heap a L es ep t) {x : Addr} {k : List Int} (hx : L2.IsT P w s.heap k x) (hu : A.units < cLine) {Q : Option Nat → Shared → Prop} (yes : k ∈ L.map (·.2) → ∀ i, Q (some i) s) (no : k ∉ L.map (·.2) → Q none s) :
    wpAny (model P w) A (setFind a (.ref x) (thash P w k)) Q E s := by
  obtain ⟨o, ho, _, hd⟩ := R.ob
  have room := R.room
  obtain ⟨K, few, emp, full⟩ := R.tab.first (by rw [List.length_map]; omega) (thash P w k)
  have small : K < 100000 := by
    have : 10 * SetTable.turns t.mask ≤ 1420 := by
      unfold SetTable.turns
      rcases R.tab.mok with e | e | e <;> omega
    omega
  show wpAny _ _ (setFindIn a (.ref x) (thash P w k) (99999 + 1)) Q E s
  unfold setFindIn
  refine wpAny_bind (wpAny_setState_of ho hd R.fits ?_)
  dsimp only
  refine wp_if_neg (by simp [byScan, Value.scannable]) ?_
  try refine wpAny_bind (wpAny_pure ?_)
  refine wpAny_bind ?_
  unfold setSearch
  refine ask_from R hx hu few emp full (fun m i => ?_) (fun m j => ?_) 100000 0 none rfl (Nat.zero_le _) (by omega) fun i p hp e => ?_
  · exact wpAny_pure (yes m i)
  · exact wpAny_pure (no m)
  · have hi : (L.map fun p => thash P w p.2)[i]? = some (thash P w k) := by rw [List.getElem?_map, hp, ← e]; rfl
    have il : i < t.place.toList.length := by
      have z := (List.getElem?_eq_some_iff.mp hp).1
      have y := R.tab.sz
      rw [List.length_map] at y
      rw [Array.length_toList]
      omega
    obtain ⟨c, hc, ec⟩ := R.tab.before emp hi (List.getElem?_eq_getElem il)
    exact ⟨c, Nat.zero_le _, hc, by rw [List.getElem?_eq_getElem il, ec]⟩
end
end Pm
namespace Pm
open PySem PySem.Spec PyProof.Rows L2 SX
section
variable {P : Program} {w : World} {A : Around} {E : Value → Shared → Prop} {s : Shared} {a : Addr} {L : List (Addr × List Int)} {es : Array (Int × Value)} {ep : Nat} {t : SetTable}
theorem in_tup (R : SetTR P w s.heap a L es ep t) {x : Addr} {k : List Int} (hx : L2.IsT P w s.heap k x) (hu : A.units + 1 < cLine) {Q : Value → Shared → Prop}
    (h : ∀ tk, Q (.bool (decide (k ∈ L.map (·.2)))) { s with toks := tk }) : wpAny (model P w) A (compareOp .In (.ref x) (.ref a)) Q E s := by
  obtain ⟨o, ho, hex, hd⟩ := R.ob
  have hT : s.TypeIs (.ref a) "set" := ⟨o, ho, hex.1⟩
  show wpAny _ _ (do return .bool (← contains (.ref a) (.ref x))) Q E s
  refine wpAny_bind ?_
  unfold contains
  try with_reducible refine wpAny_holding ?_
  refine wpAny_bind (wpAny_specialOf hT F.slot_set_contains.lookup ?_)
  refine wp_if_neg (by rw [beq_builtin_none]; exact Bool.false_ne_true) ?_
  refine wpAny_bind (wpAny_callSpecialUnlessNone?_slot (name := Str.ofString "__contains__") hT F.slot_set_contains (wpAny_call_entry F.slot_set_contains hT entry_set_contains ?_ (F.args_set_contains_2 _ _)))
  unfold Builtin.«frozenset.__contains__» Builtin.Frozenset.oneOther
  simp only [List.isEmpty_nil, bind_assoc]
  unfold Builtin.Frozenset.addrOf Builtin.Frozenset.withSetAsKey setContains
  iterate 2
    refine wpAny_bind (wpAny_pure ?_)
    try dsimp only
  refine wpAny_bind (wpAny_tryCatch (wpAny_holding ?_))
  refine wpAny_bind (wpAny_pyHash_tuple (by simpa using hu) hx ?_)
  have R2 : SetTR P w ({ s with toks := s.toks + (k.length + 1) } : Shared).heap a L es ep t := R
  have done : ∀ r : Option Nat, r.isSome = decide (k ∈ L.map (·.2)) → wpAny (model P w) A (ret (Value.bool r.isSome)) (fun f s' => f = .done (.ret (.bool (decide (k ∈ L.map (·.2))))) ∧ s' = { s with toks := s.toks + (k.length + 1) }) E { s with toks := s.toks + (k.length + 1) } := fun r e => wpAny_pure ⟨by rw [e], rfl⟩
  refine wpAny_bind (find_tup (s := { s with toks := s.toks + (k.length + 1) }) R2 hx (by simpa using hu) (fun m i => ?_) (fun m => ?_))
  · refine wpAny_pure ?_
    show wpAny _ _ (ret (Value.bool true)) _ _ _
    rw [show (true : Bool) = decide (k ∈ L.map (·.2)) from (decide_eq_true m).symm]
    exact wpAny_pure ⟨_, rfl, wpAny_truthy_bool (wpAny_pure (h _))⟩
  · refine wpAny_pure ?_
    show wpAny _ _ (ret (Value.bool false)) _ _ _
    rw [show (false : Bool) = decide (k ∈ L.map (·.2)) from (decide_eq_false m).symm]
    exact wpAny_pure ⟨_, rfl, wpAny_truthy_bool (wpAny_pure (h _))⟩
end
section
variable {X : Cx}
/-- t in d, d a set of tuples of ints -/
def rInT (K : PySem.W.Frag) (P : Program) (w : World) : V → V → Hp → VK → Prop := fun x y H Q => ∃ (t d : Addr) (k : List Int) (L : List (Addr × List Int)), x = .ref t ∧ y = .ref d ∧ SqT K H t (k.map V.int) ∧ H d = some (SetTO P w d L) ∧ (∀ p ∈ L, SqT K H p.1 (p.2.map V.int)) ∧ Q (.bl (decide (k ∈ L.map (·.2)))) H
theorem op_inT (hu : X.A.units + 1 < cLine) : OpR X (compareOp .In) (rInT X.K X.prog X.w) := by
  intro pins s σ H x y v u Q I rx ry h
  obtain ⟨t, d, k, L, rfl, rfl, ht, hd, hL, q⟩ := h
  cases rx
  cases ry
  have R0 : SetT0 X.prog X.w s.heap d L := (I.hok d _ hd).1
  obtain ⟨es, ep, tb, R⟩ := R0.full fun p hp => I.isT (hL p hp)
  exact in_tup R (I.isT ht) hu fun tk => ⟨.bl _, H, I.tok _, rfl, q⟩
/-- set(), to be filled with tuples of ints -/
def rSet0T (P : Program) (w : World) : List V → Hp → VK → Prop := fun xs H Q => xs = [] ∧ ∀ p, H p = none → Q (.ref p) (upd H p (SetTO P w p []))
theorem cr_set0T : CallR X (.type "set") (rSet0T X.prog X.w) := by
  intro pins s σ H xs us Q I r h
  obtain ⟨rfl, q⟩ := h
  cases r
  refine setR_new fun new => ?_
  have R : SetTR X.prog X.w (s.heap.push { cls := .type "set", dict := none, data := .set #[] 0 (.fresh 0 0 (!X.w.params.followText "set-order")) }) s.heap.objs.size [] #[] 0 (.fresh 0 0 (!X.w.params.followText "set-order")) := setTR_fresh (Heap.get?_push_size _ rfl)
  exact ⟨.ref _, upd H s.heap.objs.size (SetTO X.prog X.w s.heap.objs.size []), I.laid (t' := s.toks) (fun b u e => Heap.get?_push_of_some _ e) (Nat.le_refl _) (setTO_new R.t0), rfl, q _ (I.hok.fresh (Nat.le_refl _))⟩
/-- d.add(t) -/
def rAddT (K : PySem.W.Frag) (P : Program) (w : World) : V → List V → Hp → VK → Prop := fun x xs H Q => ∃ (d t : Addr) (k : List Int) (L : List (Addr × List Int)), x = .ref d ∧ xs = [.ref t] ∧ H d = some (SetTO P w d L) ∧ (∀ p ∈ L, SqT K H p.1 (p.2.map V.int)) ∧ SqT K H t (k.map V.int) ∧ L.length + 1 < 64 ∧
  ∀ L', (k ∈ L.map (·.2) → L' = L) → (k ∉ L.map (·.2) → L'.Perm ((t, k) :: L)) → Q .non (upd H d (SetTO P w d L'))
theorem call_addT {pins : List (Addr × Obj)} {σ : L2.St} {H : Hp} {s : Shared} {Q : VK} {x : V} {xs : List V} {u : Value} {us : List Value} (hu : X.A.units + 1 < cLine) (I : L2.Inv X pins σ H s) (rx : RelV x u) (rxs : Vals xs us) (h : rAddT X.K X.prog X.w x xs H Q) :
    wpAny (model X.prog X.w) X.A (call (.builtin "set.add") (u :: us)) (EP X pins σ Q) X.xe s := by
  obtain ⟨d, t, k, L, rfl, rfl, hd, hL, ht, few, q⟩ := h
  cases rx
  match rxs with
  | .cons ry .nil =>
    cases ry
    have R0 : SetT0 X.prog X.w s.heap d L := (I.hok d _ hd).1
    obtain ⟨es, ep, tb, R⟩ := R0.full fun p hp => I.isT (hL p hp)
    have hk : L2.IsT X.prog X.w s.heap k t := I.isT ht
    have hT : s.TypeIs (.ref d) "set" := by
      obtain ⟨o, ho, hx, _⟩ := R.ob
      exact ⟨o, ho, hx.1⟩
    refine wpAny_call_entry F.slot_set_add hT F.entry_set_add ?_ (F.args_set_add_2 _ _)
    unfold Builtin.«set.add» Builtin.Frozenset.oneOther
    simp only [bind_assoc, List.isEmpty_nil]
    unfold setAdd Builtin.Frozenset.addrOf
    iterate 2
      refine wpAny_bind (wpAny_pure ?_)
      try dsimp only
    refine wpAny_bind (wpAny_holding (wpAny_bind (wpAny_pyHash_tuple (by simpa using hu) hk ?_)))
    refine add_at (s := { s with toks := s.toks + (k.length + 1) }) R hk (by simpa using hu) few fun b h' L' es' ep' t' sb R2 c1 c2 => ?_
    show wpAny _ _ (ret Value.none) _ _ _
    have there : ∃ u, h'.get? d = some u := by
      obtain ⟨o, ho, _⟩ := R2.ob
      exact ⟨o, ho⟩
    exact wpAny_pure ⟨_, rfl, .non, _, I.write (e := d) (t' := s.toks + (k.length + 1)) (by rw [hd]; trivial) (.inl rfl) (fun b u hb q => (sb.2 b hb).trans q) there (setTO_new R2.t0), rfl, q L' c1 c2⟩
def tAddT (K : PySem.W.Frag) (P : Program) (w : World) (to : TE) (t : TA) : TE := fun σ H Q => to σ H fun x H1 => (∃ d L, x = V.ref d ∧ H1 d = some (SetTO P w d L) ∧ (∀ p ∈ L, SqT K H1 p.1 (p.2.map V.int))) ∧ t σ H1 fun xs H2 => rAddT K P w x xs H2 Q
variable {o e : Expr} {es : List Expr} {to : TE} {t : TA} {apos cpos : Pos}
theorem pe_addT (hu : X.A.units + 1 < cLine) (ho : PE X o to) (ha : PA X (e :: es) t)
    (hbase : attributeBase o "add" X.env (eval o X.env) = eval o X.env := by rfl)
    (hfew : ((backTo cpos (starEach (e :: es) X.env)).all (fun x => !x.1) && (backToKw cpos (keywordEach [] X.env)).all (fun x => x.1.isSome)
      && decide ((e :: es).length + ([] : List Keyword).length + (if ([] : List Keyword).isEmpty then 0 else 1) < 30)) = true := by rfl)
    (hline : (apos.endLine == cpos.line) = true := by rfl) (hs : starEach (e :: es) X.env = (false, eval e X.env) :: starEach es X.env := by rfl) (hplain : (backTo cpos (starEach es X.env)).any (·.1) = false := by rfl) :
    PE X (.Call (.Attribute o "add" apos) (e :: es) [] cpos) (tAddT X.K X.prog X.w to t) := by
  refine ⟨fun pins s σ H Q I h => ?_⟩
  refine wpAny_Call_method_late hbase hfew hline rfl (thn (ho.run pins s σ H _ I h) fun v s1 ⟨x, H1, I1, r1, ⟨d, L, ex, hd, hL⟩, q1⟩ => ?_)
  subst ex
  cases r1
  have R0 : SetT0 X.prog X.w s1.heap d L := (I1.hok d _ hd).1
  obtain ⟨es', ep, tb, R⟩ := R0.full fun p hp => I1.isT (hL p hp)
  obtain ⟨ob, hob, hex, hdat⟩ := R.ob
  have hT : s1.TypeIs (.ref d) "set" := ⟨ob, hob, hex.1⟩
  refine ⟨"set", "set.add", F.plainAttrs_set, F.slot_set_add, F.type_set_add, hT, (fun _ z => ?_), ?_⟩
  · cases z
    exact ⟨ob, hob, hex.2.1⟩
  have hA := ha.run cpos pins s1 σ H1 _ I1 q1
  rw [hs] at hA ⊢
  refine Calls.callWith_builtin (by show (false || (backTo cpos (starEach es X.env)).any (·.1)) = false; rw [hplain] <;> rfl) (Calls.evalArgs_plain ?_)
  exact thn hA fun us s2 ⟨vs, H2, I2, r2, q2⟩ => call_addT (x := .ref d) hu I2 rfl r2 q2
end
end Pm
namespace Pm
open PySem PySem.Spec PyProof.Rows L2 SX
/-! ### sorted of triples (int, int, text), no two of them with the same ints -/
/-- v is a tuple of the ints i, j and a text -/
def IsTrip (h : Heap) (v : Value) (i j : Int) (z : Str) : Prop := ∃ a o t u y n, v = .ref a ∧ h.get? a = some o ∧ o.cls = .type "tuple" ∧ o.data = .seq #[.int i t, .int j u, .str z y] n
theorem IsTrip.keeps {h h' : Heap} {v : Value} {i j : Int} {z : Str} (p : IsTrip h v i j z) (k : ∀ b o, h.get? b = some o → o.cls = .type "tuple" → h'.get? b = some o) : IsTrip h' v i j z := by
  obtain ⟨a, o, t, u, y, n, e, ho, hc, hd⟩ := p
  exact ⟨a, o, t, u, y, n, e, k _ _ ho hc, hc, hd⟩
section
variable {prog : Program} {w : World} {A : Around} {E : Value → Shared → Prop} {s : Shared}
theorem trip_cmp {vs : List Value} {k : Value → Int × Int} {tx : Value → Str} (hp : ∀ v ∈ vs, IsTrip s.heap v (k v).1 (k v).2 (tx v)) (hd : ∀ v ∈ vs, ∀ u ∈ vs, k v = k u → v = u) :
    SrtO.Cmp prog w A s (tuples' true) (fun p => p.1 ∈ vs) (SrtO.lt2 fun v u => SrtO.lexB (k v) (k u)) := by
  intro p q hm hm'
  have h1 := hp _ hm
  have h2 := hp _ hm'
  have same : (k p.1).1 = (k q.1).1 → (k p.1).2 = (k q.1).2 → tx p.1 = tx q.1 := fun a b => by rw [hd _ hm _ hm' (Prod.ext a b)]
  show wpAny (model prog w) A (keyLt' (tuples' true) p.1 q.1) (fun r s' => s' = s ∧ r = SrtO.lexB (k p.1) (k q.1)) (fun _ _ => False) s
  unfold SrtO.lexB
  generalize (k p.1).1 = x at h1 same ⊢
  generalize (k p.1).2 = y at h1 same ⊢
  generalize (k q.1).1 = x' at h2 same ⊢
  generalize (k q.1).2 = y' at h2 same ⊢
  generalize tx p.1 = z at h1 same
  generalize tx q.1 = z' at h2 same
  obtain ⟨a, o, t, u, y0, n, e, ho, hc, hd⟩ := h1
  obtain ⟨a', o', t', u', y0', n', e', ho', hc', hd'⟩ := h2
  rw [e, e']
  refine PySem.W.kat_lt ho hd ho' hd' ?_
  show PySem.W.KatLex prog w A true (decide (3 < 3)) _ [(.int x t, .int x' t'), (.int y u, .int y' u'), (.str z y0, .str z' y0')] 0 s
  refine PySem.W.kat_cons (SeqAt.EqAt.int_int x t x' t' prog w _ _ ?_)
  refine PySem.W.kat_go (fun e1 => ?_) (fun e1 => ?_)
  · have ex : x = x' := by simpa using e1
    refine PySem.W.kat_yes (PySem.W.kat_cons (SeqAt.EqAt.int_int y u y' u' prog w _ _ ?_))
    refine PySem.W.kat_go (fun e2 => ?_) (fun e2 => ?_)
    · have ey : y = y' := by simpa using e2
      have ez : z = z' := same ex ey
      have e3 : (if x = x' then decide (y < y') else decide (x < x')) = false := by
        rw [if_pos ex, ey]
        exact decide_eq_false (Int.lt_irrefl _)
      refine PySem.W.kat_yes (PySem.W.kat_cons (SeqAt.EqAt.str_str z y0 z' y0' prog w _ _ ?_))
      refine PySem.W.kat_go (fun _ => ?_) (fun e4 => ?_)
      · exact PySem.W.kat_yes (PySem.W.kat_nil ⟨rfl, e3.symm⟩)
      · rw [ez] at e4
        simp at e4
    · have e3 : (if x = x' then decide (y < y') else decide (x < x')) = decide (y < y') := if_pos ex
      refine PySem.W.kat_no (PySem.W.kat_one _ _ (PyProof.Rows.lt_int ?_))
      exact (show s = s ∧ decide (y < y') = (if x = x' then decide (y < y') else decide (x < x')) from ⟨rfl, e3.symm⟩)
  · have ex : ¬ x = x' := by simpa using e1
    have e3 : (if x = x' then decide (y < y') else decide (x < x')) = decide (x < x') := if_neg ex
    exact PySem.W.kat_no (oneLt_int ⟨rfl, e3.symm⟩)
theorem firsts3 {h : Heap} : ∀ {vs : List Value}, (∀ v ∈ vs, ∃ x y z, IsTrip h v x y z) → ∃ fs : List Value, PySem.W.KatTups h vs fs ∧ fs.length = vs.length ∧ ∀ f ∈ fs, ∃ x t, f = Value.int x t
  | [], _ => ⟨[], PySem.W.KatTups.nil, rfl, fun _ hm => by simp at hm⟩
  | v :: vs, hp => by
    obtain ⟨fs, h1, h2, h3⟩ := firsts3 (vs := vs) fun v' hm => hp v' (List.mem_cons_of_mem _ hm)
    obtain ⟨x, y, z, a, o, t, u, y0, n, e, ho, hc, hd⟩ := hp v (List.mem_cons_self ..)
    subst e
    refine ⟨.int x t :: fs, PySem.W.KatTups.cons ho hc hd rfl h1, by rw [List.length_cons, List.length_cons, h2], fun f hm => ?_⟩
    rcases List.mem_cons.mp hm with rfl | hm
    · exact ⟨x, t, rfl⟩
    · exact h3 f hm
theorem trips_sortable {a : Addr} {vs : List Value} {k : Value → Int × Int} {tx : Value → Str} (h0 : 0 < vs.length) (hp : ∀ v ∈ vs, IsTrip s.heap v (k v).1 (k v).2 (tx v)) (hd : ∀ v ∈ vs, ∀ u ∈ vs, k v = k u → v = u)
    (ha : ∀ o, s.heap.get? a = some o → o.cls ≠ .type "tuple") : SrtO.SortableO prog w A s a vs fun v u => SrtO.lexB (k v) (k u) := by
  intro h' keep
  have hp' : ∀ v ∈ vs, IsTrip h' v (k v).1 (k v).2 (tx v) := fun v hm => (hp v hm).keeps fun b o e c => keep b o (fun z => by subst z; exact ha o e c) e
  obtain ⟨fs, h1, h2, h3⟩ := firsts3 fun v hm => ⟨_, _, _, hp' v hm⟩
  refine ⟨tuples' true, fun Q E hq => ?_, trip_cmp hp' hd⟩
  refine PySem.W.kat_kind (T := .type "int") h1 (by omega) (fun f hm => ?_) (by rfl) ?_
  · obtain ⟨x, t, rfl⟩ := h3 f hm
    exact PySem.W.Looks.now
  · have e : (Value.type "int" != Value.type "tuple") = true := by first | decide +kernel | rfl | decide
    rw [e]
    exact hq
theorem sorted_trips {l : Addr} {vs : List Value} {k : Value → Int × Int} {tx : Value → Str} {Q : Value → Shared → Prop} (hl : s.heap.IsList l vs.toArray) (hz : vs.length ≤ sizeLine) (hp : ∀ v ∈ vs, IsTrip s.heap v (k v).1 (k v).2 (tx v)) (hd : ∀ v ∈ vs, ∀ u ∈ vs, k v = k u → v = u)
    (h : ∀ (h' : Heap) (d : Addr) (out : List Value), SrtO.Srtd (fun v u => SrtO.lexB (k v) (k u)) out → SrtO.Stb (fun v u => SrtO.lexB (k v) (k u)) out vs → (∀ b o, s.heap.get? b = some o → h'.get? b = some o) → s.heap.objs.size ≤ d → (∃ n, h'.get? d = some (seqObj "list" out.toArray n)) → Q (.ref d) { s with heap := h' }) :
    wpAny (model prog w) A (call (.builtin "sorted") [.ref l]) Q E s := by
  refine SrtO.sorted_ord (SrtO.swo_lex k) hl hz (fun h2 h₁ a ha kk => ?_) fun out hs hb => ?_
  · refine trips_sortable (s := { s with heap := h₁ }) (tx := tx) (by omega) (fun v hm => (hp v hm).keeps fun b o e _ => (kk b o e).2) hd fun o e => ?_
    have e' : some o = some (seqObj "list" vs.toArray 0) := e.symm.trans ha
    cases e'
    intro c
    exact absurd (Value.type.inj c) (by decide)
  · exact h _ _ out hs hb (fun b o e => sortedAll_old e) (Nat.le_succ _) (sortedAll_at s.heap vs out.toArray)
end
/-- sorted(xs), xs a list of triples at the addresses of L, each with its ints and its text; no two with the same ints -/
abbrev Trip := Addr × (Int × Int) × Str
def TripO (p : Trip) : HO := .tup [.int p.2.1.1, .int p.2.1.2, .str p.2.2]
def rSortedTr (K : PySem.W.Frag) : List V → Hp → VK → Prop := fun vs H Q => ∃ (a : Addr) (L : List Trip), vs = [V.ref a] ∧ SqL K H a (L.map fun p => V.ref p.1) ∧ (∀ p ∈ L, H p.1 = some (TripO p)) ∧ (L.map fun p => p.2.1).Nodup ∧
  ∀ (M : List Trip) (d : Addr), M.Perm L → M.Pairwise (fun p q => SrtO.lexB q.2.1 p.2.1 = false) → H d = none → Q (.ref d) (upd H d (.lst (M.map fun p => V.ref p.1)))
theorem vals_refs : ∀ {L : List Trip} {us : List Value}, Vals (L.map fun p => V.ref p.1) us → us = L.map fun p => Value.ref p.1
  | [], _, .nil => rfl
  | p :: L, _, .cons r t => by
    have e := vals_refs t
    cases r
    rw [e]
    rfl
theorem cr_sortedTr {X : Cx} : CallR X (.builtin "sorted") (rSortedTr X.K) := by
  intro pins s σ H vs us Q I r h
  obtain ⟨a, L, rfl, hs, hx, nd, q⟩ := h
  obtain ⟨its, rv, hl, hz⟩ := I.list hs
  obtain ⟨u, rfl, ru⟩ := vals1 r
  obtain rfl : u = Value.ref a := ru
  -- what stands behind an address
  let find : Value → Option Trip := fun v => L.find? fun p => Value.ref p.1 == v
  let k : Value → Int × Int := fun v => ((find v).map (·.2.1)).getD (0, 0)
  let tx : Value → Str := fun v => ((find v).map (·.2.2)).getD Str.empty
  have addr : ∀ p ∈ L, ∀ p' ∈ L, p.1 = p'.1 → p = p' := fun p hp p' hp' e => by
    have h1 := hx p hp
    rw [e, hx p' hp'] at h1
    obtain ⟨p1, ⟨pi, pj⟩, pz⟩ := p
    obtain ⟨p1', ⟨pi', pj'⟩, pz'⟩ := p'
    have e : p1 = p1' := e
    subst e
    unfold TripO at h1
    simp only [Option.some.injEq, HO.tup.injEq, List.cons.injEq, V.int.injEq, V.str.injEq, and_true] at h1
    obtain ⟨a, b, c⟩ := h1
    rw [a, b, c]
  have found : ∀ p ∈ L, find (.ref p.1) = some p := fun p hp => by
    show L.find? _ = _
    cases e : L.find? (fun q => Value.ref q.1 == Value.ref p.1) with
    | none =>
      rw [List.find?_eq_none] at e
      exact absurd (beq_self_eq_true _) (e p hp)
    | some q =>
      have m := List.mem_of_find?_eq_some e
      have y := List.find?_some e
      have y : q.1 = p.1 := by simpa using y
      rw [addr q m p hp y]
  have kof : ∀ p ∈ L, k (.ref p.1) = p.2.1 := fun p hp => by
    show ((find (.ref p.1)).map (·.2.1)).getD (0, 0) = _
    rw [found p hp]
    rfl
  have txof : ∀ p ∈ L, tx (.ref p.1) = p.2.2 := fun p hp => by
    show ((find (.ref p.1)).map (·.2.2)).getD Str.empty = _
    rw [found p hp]
    rfl
  have eits : its = L.map fun p => Value.ref p.1 := vals_refs rv
  have inits : ∀ v ∈ its, ∃ p ∈ L, v = Value.ref p.1 := fun v hv => by
    rw [eits] at hv
    obtain ⟨p, hp, e⟩ := List.mem_map.mp hv
    exact ⟨p, hp, e.symm⟩
  refine sorted_trips (k := k) (tx := tx) hl.isList (by rw [← rv.length]; exact hz) (fun v hv => ?_) (fun v hv u hu e => ?_) fun h' d out h1 h2 kp hd hn => ?_
  · obtain ⟨p, hp, rfl⟩ := inits v hv
    rw [kof p hp, txof p hp]
    obtain ⟨_, its2, r2, o, ho, hc, n, hd⟩ := I.hok _ _ (hx p hp)
    match its2, r2, hd with
    | _, .cons ri (.cons rj (.cons rz .nil)), hd =>
      obtain ⟨t1, rfl⟩ := ri
      obtain ⟨t2, rfl⟩ := rj
      obtain ⟨t3, rfl⟩ := rz
      exact ⟨p.1, o, t1, t2, t3, n, rfl, ho, hc, hd⟩
  · obtain ⟨p, hp, rfl⟩ := inits v hv
    obtain ⟨p', hp', rfl⟩ := inits u hu
    rw [kof p hp, kof p' hp'] at e
    obtain ⟨i, hi⟩ := List.mem_iff_getElem?.mp hp
    obtain ⟨j, hj⟩ := List.mem_iff_getElem?.mp hp'
    obtain ⟨hi1, hi2⟩ := List.getElem?_eq_some_iff.mp hi
    obtain ⟨hj1, hj2⟩ := List.getElem?_eq_some_iff.mp hj
    have nd2 := List.pairwise_iff_getElem.mp nd
    have ij : i = j := by
      rcases Nat.lt_trichotomy i j with c | c | c
      · exact absurd (by rw [List.getElem_map, List.getElem_map, hi2, hj2, e]) (nd2 i j (by simpa using hi1) (by simpa using hj1) c)
      · exact c
      · exact absurd (by rw [List.getElem_map, List.getElem_map, hi2, hj2, e]) (nd2 j i (by simpa using hj1) (by simpa using hi1) c)
    subst ij
    rw [hi] at hj
    cases hj
    rfl
  · obtain ⟨n, hn⟩ := hn
    let g : Value → Trip := fun v => (find v).getD (0, (0, 0), Str.empty)
    have gof : ∀ p ∈ L, g (.ref p.1) = p := fun p hp => by
      show (find (.ref p.1)).getD _ = p
      rw [found p hp]
      rfl
    have pm : (out.map g).Perm L := by
      have y := h2.perm.map g
      rw [eits, List.map_map] at y
      have e : L.map (g ∘ fun p => Value.ref p.1) = L := (List.map_congr_left fun p hp => gof p hp).trans (List.map_id L)
      rw [e] at y
      exact y
    have outin : ∀ v ∈ out, ∃ p ∈ L, v = Value.ref p.1 := fun v hv => inits v (h2.perm.mem_iff.mp hv)
    have eo : out = (out.map g).map fun p => Value.ref p.1 := by
      rw [List.map_map]
      refine (List.map_id out).symm.trans (List.map_congr_left fun v hv => ?_)
      obtain ⟨p, hp, rfl⟩ := outin v hv
      show _ = Value.ref (g (.ref p.1)).1
      rw [gof p hp]
      rfl
    have pw : (out.map g).Pairwise (fun p q => SrtO.lexB q.2.1 p.2.1 = false) := by
      refine List.pairwise_map.mpr (h1.imp_of_mem fun {v u} hv hu e => ?_)
      obtain ⟨p, hp, rfl⟩ := outin v hv
      obtain ⟨p', hp', rfl⟩ := outin u hu
      rw [gof p hp, gof p' hp']
      have e : SrtO.lexB (k (.ref p'.1)) (k (.ref p.1)) = false := e
      rw [kof p hp, kof p' hp'] at e
      exact e
    have vb : Vals ((out.map g).map fun p => V.ref p.1) out := by
      conv => rhs; rw [eo]
      generalize out.map g = M
      induction M with
      | nil => exact .nil
      | cons p M ih => exact .cons rfl ih
    refine ⟨.ref d, upd H d (.lst ((out.map g).map fun p => V.ref p.1)), I.laid (t' := s.toks) kp hd ⟨?_, out, n, vb, hn⟩, rfl, q _ d pm pw (I.hok.fresh hd)⟩
    rw [List.length_map, pm.length_eq]
    rw [List.length_map] at hz
    exact hz
end Pm
namespace Pm
open PySem PySem.Spec PyProof.Rows L2 SX
/-! ### conditions -/
/-- an offset and the signs -/
abbrev Cnd := (Int × Int) × List Nat
def CondO (c : Cnd) : HO := .tup [.int c.1.1, .int c.1.2, .str (S c.2)]
def refC (ks : List (Addr × Cnd)) : List V := ks.map fun q => V.ref q.1
def placeB (p : Int × Int) : Bool := (decide (-3 ≤ p.1) && decide (p.1 ≤ 3)) && ((decide (-3 ≤ p.2) && decide (p.2 ≤ 3)) && (decide (p.1 ≠ 0) || decide (p.2 ≠ 0)))
def badAt (i : Nat) (seen : List (Int × Int)) (c : Cnd) : Bool := decide (8 < i) || !placeB c.1 || decide (c.1 ∈ seen) || !diffB 35 c.2
def fstBad : Nat → List (Int × Int) → List Cnd → Option Nat
  | _, _, [] => none
  | i, seen, c :: r => if badAt i seen c then some i else fstBad (i + 1) (c.1 :: seen) r
structure UTx (K : PySem.W.Frag) (mg : Str → Option Value) : Prop where
  reach : ∃ u, mg "REACH" = some u ∧ RelV (.int 3) u
  most : ∃ u, mg "MOST_CONDITIONS" = some u ∧ RelV (.int 8) u
section
variable {P : Program} {w : World} {K : PySem.W.Frag} {mg : Str → Option Value} {base : Heap} {C CI : Addr}
theorem scEInvalidRule : FnScope ["self", "part"] ["self", "part"] (defScope cInvalidRuleInit) := ⟨rfl, rfl, rfl, by decide +kernel, rfl, by decide +kernel, by decide +kernel⟩
theorem okEInvalidRule {f C : Addr} {fd : FuncData} (F : Fun K "__init__" "InvalidRule.__init__" cInvalidRuleInit f fd) (T : OexC K C) (nx : PySem.W.findIn K (.ref C) "part" = some none) : FnOk P w K mg base CX0 1 f fd ["self", "part"] (spE1 C "part") := by
  refine F.ok scEInvalidRule (fun vs H Q E h => ?_) (fun cdv A outer s H vs Q E hr h => ?_)
  · obtain ⟨a, v, rfl, _⟩ := h
    rfl
  · obtain ⟨a, v, rfl, ha, k⟩ := h
    refine ⟨_, pss_one (ps_ost (pv 0) (pv 1)), ?_⟩
    refine ⟨_, rfl, _, rfl, a, C, rfl, T, nx, .inl ⟨ha, fun dx nd ne => ?_⟩⟩
    refine k _ dx upd_same (by rw [upd_ne ne, upd_same]) nd ne fun b o nb e => ?_
    rw [upd_ne nb, upd_ne (ne_of_none e nd)]
    exact e

def spPlace : Sp := fun vs H Q _ => ∃ dx dy, vs = [.int dx, .int dy] ∧ Q (.bl (placeB (dx, dy))) H
theorem scPlace : FnScope ["dx", "dy"] ["dx", "dy"] (defScope gIsPlace) := ⟨rfl, rfl, rfl, by decide +kernel, rfl, by decide +kernel, by decide +kernel⟩
theorem ok_place {f : Addr} {fd : FuncData} (F : Fun K "_is_place" "_is_place" gIsPlace f fd) (U : UTx K mg) : FnOk P w K mg base CX0 1 f fd ["dx", "dy"] spPlace := by
  refine F.ok scPlace (fun vs H Q E h => ?_) (fun cdv A outer s H vs Q E hr h => ?_)
  · obtain ⟨dx, dy, rfl, _⟩ := h
    rfl
  · obtain ⟨dx, dy, rfl, k⟩ := h
    obtain ⟨ur, hR, rR⟩ := U.reach
    refine ⟨_, pss_one (ps_ret (pe_and (pe_chain op_le op_le (pe_un un_neg (pe_glob (by rfl) hR rR)) (pv 0) (pe_glob (by rfl) hR rR)) (pe_and (pe_chain op_le op_le (pe_un un_neg (pe_glob (by rfl) hR rR)) (pv 1) (pe_glob (by rfl) hR rR))
      (pe_one (pe_or (pe_cmpR op_ne (pv 0) pe_int (nomark _)) (pe_one (pe_cmpR op_ne (pv 1) pe_int (nomark _)))))))), ?_⟩
    have q : ∀ b, placeB (dx, dy) = b → Q (.bl b) H := fun b e => by
      rw [e] at k
      exact k
    refine ⟨3, rfl, _, rfl, _, _, rfl, rfl, _, rfl, ite2 (fun a => ?_) (fun a => ?_)⟩
    · have a : -3 ≤ dx := of_decide_eq_true a
      refine ⟨_, _, rfl, rfl, _, rfl, ite2 (fun b => ?_) (fun b => ?_)⟩
      · have b : dx ≤ 3 := of_decide_eq_true b
        refine ⟨3, rfl, _, rfl, _, _, rfl, rfl, _, rfl, ite2 (fun c => ?_) (fun c => ?_)⟩
        · have c : -3 ≤ dy := of_decide_eq_true c
          refine ⟨_, _, rfl, rfl, _, rfl, ite2 (fun d => ?_) (fun d => ?_)⟩
          · have d : dy ≤ 3 := of_decide_eq_true d
            refine ⟨_, rfl, rfl, _, rfl, ?_⟩
            by_cases e : dx = 0
            · refine iteFe (by simp [e]) ⟨_, rfl, rfl, q _ ?_⟩
              unfold placeB
              simp [a, b, c, d, e]
            · refine iteTe (by simp [e]) (q _ ?_)
              unfold placeB
              simp [a, b, c, d, e]
          · have d : ¬ dy ≤ 3 := fun z => d (decide_eq_true z)
            exact q false (by unfold placeB; simp [d])
        · have c : ¬ -3 ≤ dy := fun z => c (decide_eq_true z)
          exact ⟨_, rfl, iteF (q false (by unfold placeB; simp [c]))⟩
      · have b : ¬ dx ≤ 3 := fun z => b (decide_eq_true z)
        exact q false (by unfold placeB; simp [b])
    · have a : ¬ -3 ≤ dx := fun z => a (decide_eq_true z)
      exact ⟨_, rfl, iteF (q false (by unfold placeB; simp [a]))⟩
end
end Pm
namespace Pm
open PySem PySem.Spec PyProof.Rows L2 SX
theorem hash_S : ("#" : Str) = S [35] := by decide +kernel
theorem walkS' {K : PySem.W.Frag} {a : Addr} {xs : List V} : Walk (ItS K a) xs.length (fun H => SqL K H a xs) (fun i H v H' => ∃ T x, v = .ref T ∧ H T = none ∧ H' = upd H T (.tup [.int ((i : Int) + 1), x]) ∧ xs[i]? = some x) := walkS
theorem refC_at {ks : List (Addr × Cnd)} {i : Nat} {x : V} (h : (refC ks)[i]? = some x) : ∃ t c, ks[i]? = some (t, c) ∧ x = .ref t := by
  unfold refC at h
  rw [List.getElem?_map] at h
  cases e : ks[i]? with
  | none =>
    rw [e] at h
    cases h
  | some q =>
    rw [e] at h
    cases h
    exact ⟨q.1, q.2, rfl, rfl⟩
/-- conditions in the heap: their list and each -/
structure CndsAt (H : Hp) (a : Addr) (ks : List (Addr × Cnd)) : Prop where
  lst : H a = some (.lst (refC ks))
  each : ∀ q ∈ ks, H q.1 = some (CondO q.2)
theorem CndsAt.same {H H' : Hp} {a : Addr} {ks : List (Addr × Cnd)} (h : CndsAt H a ks) (s : Same H H') : CndsAt H' a ks := ⟨s _ _ h.lst, fun q hq => s _ _ (h.each q hq)⟩
/-- the search, step by step -/
theorem fst_step {i : Nat} {seen : List (Int × Int)} {c : Cnd} {r : List Cnd} : fstBad i seen (c :: r) = if badAt i seen c then some i else fstBad (i + 1) (c.1 :: seen) r := rfl
def seenOf (cs : List Cnd) (i : Nat) : List (Int × Int) := ((cs.take i).map (·.1)).reverse
theorem seen_succ {cs : List Cnd} {i : Nat} {c : Cnd} (h : cs[i]? = some c) : seenOf cs (i + 1) = c.1 :: seenOf cs i := by
  unfold seenOf
  rw [List.take_add_one, h]
  simp
section
variable {P : Program} {w : World} {K : PySem.W.Frag} {mg : Str → Option Value} {base : Heap} {C CI : Addr}
def spCheck (CI : Addr) : Sp := fun vs H Q E => ∃ a ks, vs = [.ref a] ∧ CndsAt H a ks ∧ ks.length ≤ 1000 ∧ (∀ q ∈ ks, q.2.2.length ≤ 1000) ∧
  (∀ p, fstBad 1 [] (ks.map (·.2)) = some p → Lets E CI [("part", .int (p : Int))] H) ∧ (fstBad 1 [] (ks.map (·.2)) = none → ∀ H', Same H H' → Q .non H')
abbrev nCheck : List Str := ["conditions", "earlier", "part", "dx", "dy", "signs"]
theorem scCheck : FnScope nCheck ["conditions"] (defScope gCheckConditions) := ⟨rfl, rfl, rfl, by decide +kernel, rfl, by decide +kernel, by decide +kernel⟩
theorem ok_check {f g d e : Addr} {fd gd dd ed : FuncData} (F : Fun K "_check_conditions" "_check_conditions" gCheckConditions f fd) (G : Cl P w K mg base CX0 1 "_is_place" ["dx", "dy"] spPlace g gd) (D : Cl P w K mg base CX0 2 "are_different_signs" ["signs", "besides"] spDiff d dd)
    (Ex : EMk P w K mg base CI "InvalidRule" ["self", "part"] (spE1 CI "part") e ed) (T : PTxt K mg C) (R : STxt K mg) (U : UTx K mg) : FnOk P w K mg base (L2.CX P w) 3 f fd ["conditions"] (spCheck CI) := by
  refine F.okX scCheck (fun vs H Q E h => ?_) (fun cdv A outer s H vs Q E hr h => ?_)
  · obtain ⟨a, ks, rfl, _⟩ := h
    rfl
  · obtain ⟨a, ks, rfl, hc, few, each, bad, good⟩ := h
    have hr1 : Room 1 _ := hr.mono (by decide)
    have hr2 : Room 2 _ := hr
    have hu := hu_of hr
    obtain ⟨mc, cr, _, ⟨uE, hE⟩⟩ := T.cr
    obtain ⟨um, hM, rM⟩ := U.most
    refine ⟨_, (pss_cons (ps_set (i := 1) scCheck.nd rfl (.inl rfl) (pe_callTy0 cr_set0T (by rfl) R.set (by decide +kernel)))
      (pss_one (ps_for (passes_of rfl) rfl (pi_enumS (by rfl) T.enum (pa_cons (pv 0) pa_nil) (pk_cons pe_int pk_nil)) (pg_tup rfl (pgs_cons (pg_name (i := 2) scCheck.nd rfl (.inl rfl)) (pgs_cons (pg_tup rfl (pgs_cons (pg_name (i := 3) scCheck.nd rfl (.inl rfl)) (pgs_cons (pg_name (i := 4) scCheck.nd rfl (.inl rfl)) (pgs_cons (pg_name (i := 5) scCheck.nd rfl (.inl rfl)) pgs_nil)))) pgs_nil))) (pss_cons (ps_if (PW.pt (pw_or (pt_cmpR op_gt (pv 2) (pe_glob (by rfl) hM rM) (nomark _)) (pw_or (pt_not (pt_val (pe_call G.ok hr1 (by rfl) G.gl G.kp G.bd .nil pass0 (pa_cons (pv 3) (pa_cons (pv 4) pa_nil))))) (pw_or1 (pt_cmpR (op_inT hu) (pe_tup (pa_cons (pv 3) (pa_cons (pv 4) pa_nil))) (pv 1) (by rfl)))))) (pss_one (ps_raise rfl (takes_of rfl rfl rfl rfl) (pmk_oex Ex.T Ex.at_ Ex.ty Ex.ok hr2 Ex.bd .nil pass0 (by rfl) Ex.gl (pa_cons (pv 2) pa_nil)))) pss_nil)
        (pss_cons (ps_if (pt_not (pt_val (pe_call D.ok hr (by rfl) D.gl D.kp D.bd .nil pass0 (pa_cons (pv 5) (pa_cons (ClX.pe_cval (pe_glob (v := .ref C) (by rfl) T.gC rfl)) pa_nil))))) (pss_one (ps_raise rfl (takes_of rfl rfl rfl rfl) (pmk_oex Ex.T Ex.at_ Ex.ty Ex.ok hr2 Ex.bd .nil pass0 (by rfl) Ex.gl (pa_cons (pv 2) pa_nil)))) pss_nil)
        (pss_one (ps_expr (pe_addT hu (pv 1) (pa_cons (pe_tup (pa_cons (pv 3) (pa_cons (pv 4) pa_nil))) pa_nil))))))))), ?_⟩
    refine ⟨rfl, fun D0 nD0 => ?_⟩
    have s0 := same_upd (o := SetTO P w D0 []) nD0
    have hD0 : (upd H D0 (SetTO P w D0 [])) D0 = some (SetTO P w D0 []) := upd_same
    refine ⟨_, rfl, a, _, rfl, rfl, SqL.of (s0 _ _ hc.lst), for_it walkS (fun i σ G => ∃ y2 y3 y4 y5 L, σ = [some (.ref a), some (.ref D0), y2, y3, y4, y5] ∧ Same H G ∧ (∀ b o, b ≠ D0 → upd H D0 (SetTO P w D0 []) b = some o → G b = some o) ∧ G D0 = some (SetTO P w D0 L) ∧ (∀ p ∈ L, G p.1 = some (.tup (p.2.map V.int))) ∧
      (∀ c : Int × Int, [c.1, c.2] ∈ L.map (·.2) ↔ c ∈ seenOf (ks.map (·.2)) i) ∧ L.length ≤ i ∧ i ≤ 8 ∧ fstBad 1 [] (ks.map (·.2)) = fstBad (i + 1) (seenOf (ks.map (·.2)) i) ((ks.map (·.2)).drop i)) ⟨_, _, _, _, [], rfl, s0, fun _ _ _ e => e, hD0, (fun p hp => nomatch hp), (fun c => ⟨fun z => (nomatch z), fun z => (nomatch z)⟩), Nat.le_refl _, by decide, rfl⟩ (fun i σ G _ ⟨_, _, _, _, _, _, sG, _⟩ => SqL.of (sG _ _ hc.lst)) ?_ ?_⟩
    · rintro i x σ G G' hi ⟨y2, y3, y4, y5, L, rfl, sG, oG, hD, hL, hk, ll, i8, ef⟩ ⟨T1, x1, rfl, nT, rfl, gx⟩
      obtain ⟨t, c, hti, rfl⟩ := refC_at gx
      have mq : (t, c) ∈ ks := List.mem_of_getElem? hti
      have s1 := same_upd (o := .tup [.int ((i : Int) + 1), .ref t]) nT
      have s2 := sG.trans s1
      have ht := s2 _ _ (hc.each _ mq)
      have hci : (ks.map (·.2))[i]? = some c := by
        rw [List.getElem?_map, hti]
        rfl
      have edr : (ks.map (·.2)).drop i = c :: (ks.map (·.2)).drop (i + 1) := by
        obtain ⟨h1, h2⟩ := List.getElem?_eq_some_iff.mp hci
        rw [List.drop_eq_getElem_cons h1, h2]
      rw [edr, fst_step] at ef
      have isbad : badAt (i + 1) (seenOf (ks.map (·.2)) i) c = true → fstBad 1 [] (ks.map (·.2)) = some (i + 1) := fun e => by rw [ef, if_pos e]
      refine ⟨T1, _, rfl, SqT.of upd_same, rfl, _, _, rfl, _, _, rfl, t, _, rfl, SqT.of ht, rfl, _, _, rfl, _, _, rfl, _, _, rfl, rfl, rfl, ?_⟩
      refine ⟨_, rfl, _, _, rfl, rfl, _, rfl, ?_⟩
      by_cases b1 : 8 < i + 1
      · have hb := isbad (by unfold badAt; simp [b1])
        refine iteTe (decide_eq_true (by omega)) (iteT ?_)
        refine ⟨_, rfl, by show 1 ≤ 1000; decide, fun x nx => ⟨x, _, rfl, upd_same, fun H2 d h1 h2 nd ne sb => ⟨rfl, d, _, h1, h2, ?_, ?_⟩⟩⟩
        · rwa [upd_ne ne] at nd
        · exact bad _ hb d _ (back s2 (by rwa [upd_ne ne] at nd)) upd_same (s2.trans (on_way nx nd ne sb))
      refine iteFe (decide_eq_false (by omega)) ⟨_, rfl, _, rfl, _, _, rfl, _, rfl, ?_⟩
      cases b2 : placeB c.1 with
      | false =>
        have hb := isbad (by unfold badAt; simp [b2])
        refine iteTe rfl (iteT ?_)
        refine ⟨_, rfl, by show 1 ≤ 1000; decide, fun x nx => ⟨x, _, rfl, upd_same, fun H2 d h1 h2 nd ne sb => ⟨rfl, d, _, h1, h2, ?_, ?_⟩⟩⟩
        · rwa [upd_ne ne] at nd
        · exact bad _ hb d _ (back s2 (by rwa [upd_ne ne] at nd)) upd_same (s2.trans (on_way nx nd ne sb))
      | true =>
      refine iteFe rfl ⟨_, rfl, _, rfl, by show 2 ≤ sizeLine; decide, fun p np => ?_⟩
      have s3 := s2.trans (same_upd (o := .tup [.int c.1.1, .int c.1.2]) np)
      have hD2 : upd (upd G T1 (.tup [.int ((i : Int) + 1), .ref t])) p (.tup [.int c.1.1, .int c.1.2]) D0 = some (SetTO P w D0 L) := by
        rw [upd_ne (ne_of_none (s1 _ _ hD) np)]
        exact s1 _ _ hD
      have hL2 : ∀ q ∈ L, upd (upd G T1 (.tup [.int ((i : Int) + 1), .ref t])) p (.tup [.int c.1.1, .int c.1.2]) q.1 = some (.tup (q.2.map V.int)) := fun q hq => same_upd np _ _ (s1 _ _ (hL q hq))
      refine ⟨_, rfl, p, D0, [c.1.1, c.1.2], L, rfl, rfl, SqT.of upd_same, hD2, fun q hq => SqT.of (hL2 q hq), _, rfl, ?_⟩
      by_cases b3 : c.1 ∈ seenOf (ks.map (·.2)) i
      · have hb := isbad (by unfold badAt; simp [b3])
        refine iteTe (decide_eq_true ((hk c.1).mpr b3)) ?_
        refine ⟨_, rfl, by show 1 ≤ 1000; decide, fun x nx => ⟨x, _, rfl, upd_same, fun H2 d h1 h2 nd ne sb => ⟨rfl, d, _, h1, h2, ?_, ?_⟩⟩⟩
        · rwa [upd_ne ne] at nd
        · exact bad _ hb d _ (back s3 (by rwa [upd_ne ne] at nd)) upd_same (s3.trans (on_way nx nd ne sb))
      refine iteFe (decide_eq_false fun z => b3 ((hk c.1).mp z)) ?_
      refine ⟨_, rfl, C, mc, _, uE, rfl, cr, hE, c.2, 35, (by rw [hash_S]; rfl), each _ mq, fun G4 s4 => ⟨_, rfl, ?_⟩⟩
      cases b4 : diffB 35 c.2 with
      | false =>
        have hb := isbad (by unfold badAt; simp [b4])
        have s5 := s3.trans s4
        refine iteT ?_
        refine ⟨_, rfl, by show 1 ≤ 1000; decide, fun x nx => ⟨x, _, rfl, upd_same, fun H2 d h1 h2 nd ne sb => ⟨rfl, d, _, h1, h2, ?_, ?_⟩⟩⟩
        · rwa [upd_ne ne] at nd
        · exact bad _ hb d _ (back s5 (by rwa [upd_ne ne] at nd)) upd_same (s5.trans (on_way nx nd ne sb))
      | true =>
      refine iteF ?_
      refine ⟨_, rfl, ⟨D0, L, rfl, s4 _ _ hD2, fun q hq => SqT.of (s4 _ _ (hL2 q hq))⟩, _, rfl, _, rfl, by show 2 ≤ sizeLine; decide, fun p2 np2 => ?_⟩
      have s6 := same_upd (o := .tup [.int c.1.1, .int c.1.2]) np2
      have hD3 := s6 _ _ (s4 _ _ hD2)
      have new : [c.1.1, c.1.2] ∉ L.map (·.2) := fun z => b3 ((hk c.1).mp z)
      refine ⟨D0, p2, [c.1.1, c.1.2], L, rfl, rfl, hD3, fun q hq => SqT.of (s6 _ _ (s4 _ _ (hL2 q hq))), SqT.of upd_same, by omega, fun L' _ c2 => ?_⟩
      have pm := c2 new
      have s7 : ∀ b o, b ≠ D0 → upd G4 p2 (.tup [.int c.1.1, .int c.1.2]) b = some o → upd (upd G4 p2 (.tup [.int c.1.1, .int c.1.2])) D0 (SetTO P w D0 L') b = some o := fun b o nb e => by
        rw [upd_ne nb]
        exact e
      have sAll : Same G (upd G4 p2 (.tup [.int c.1.1, .int c.1.2])) := ((s1.trans (same_upd np)).trans s4).trans s6
      have np2D : p2 ≠ D0 := Ne.symm (ne_of_none (s4 _ _ hD2) np2)
      refine ⟨_, _, _, _, L', rfl, fun b o e => ?_, fun b o nb e => s7 b o nb (sAll _ _ (oG b o nb e)), upd_same, fun q hq => ?_, fun d => ?_, ?_, by omega, ?_⟩
      · exact s7 b o (ne_of_none e nD0) (sAll _ _ (sG _ _ e))
      · rcases List.mem_cons.mp (pm.mem_iff.mp hq) with z | z
        · subst z
          exact s7 _ _ np2D upd_same
        · refine s7 _ _ (fun y => ?_) (sAll _ _ (hL q z))
          have y2 := hL q z
          rw [y, hD] at y2
          cases y2
      · rw [(pm.map (·.2)).mem_iff, seen_succ hci, List.map_cons, List.mem_cons, List.mem_cons, hk d]
        constructor
        · rintro (z | z)
          · simp only [List.cons.injEq, and_true] at z
            exact .inl (Prod.ext z.1 z.2)
          · exact .inr z
        · rintro (z | z)
          · rw [z]
            exact .inl rfl
          · exact .inr z
      · rw [pm.length_eq, List.length_cons]
        omega
      · rw [ef, if_neg (by unfold badAt; simp [b1, b2, b3, b4]), seen_succ hci]
    · rintro σ G ⟨y2, y3, y4, y5, L, rfl, sG, oG, hD, hL, hk, ll, i8, ef⟩
      refine good ?_ G sG
      rw [ef, show (refC ks).length = (ks.map (·.2)).length by unfold refC; rw [List.length_map, List.length_map], List.drop_length]
      rfl
end
end Pm
namespace Pm
open PySem PySem.Spec PyProof.Rows L2 SX
/-- from top to bottom, then from left to right -/
def fl (p : Int × Int) : Int × Int := (p.2, p.1)
def Ord (cs : List Cnd) : Prop := cs.Pairwise fun p q => SrtO.lexB (fl q.1) (fl p.1) = false
def ascC (c : Cnd) : Cnd := (c.1, asc c.2)
def unS (s : Str) : List Nat := s.cps.toList
theorem S_unS (s : Str) : S (unS s) = s := by
  obtain ⟨a⟩ := s
  rfl
theorem unS_S (z : List Nat) : unS (S z) = z := by
  unfold unS
  simp
section
variable {P : Program} {w : World} {K : PySem.W.Frag} {mg : Str → Option Value} {base : Heap} {C CI : Addr}
def spNeed (CI : Addr) : Sp := fun vs H Q E => ∃ n c, vs = [.int n, .int c] ∧ (¬ (0 ≤ n ∧ n ≤ c) → Lets E CI [("part", .int 0)] H) ∧ (0 ≤ n ∧ n ≤ c → Q .non H)
theorem scNeed : FnScope ["need", "count"] ["need", "count"] (defScope gCheckNeed) := ⟨rfl, rfl, rfl, by decide +kernel, rfl, by decide +kernel, by decide +kernel⟩
theorem ok_need {f e : Addr} {fd ed : FuncData} (F : Fun K "_check_need" "_check_need" gCheckNeed f fd) (Ex : EMk P w K mg base CI "InvalidRule" ["self", "part"] (spE1 CI "part") e ed) : FnOk P w K mg base (L2.CX P w) 3 f fd ["need", "count"] (spNeed CI) := by
  refine F.okX scNeed (fun vs H Q E h => ?_) (fun cdv A outer s H vs Q E hr h => ?_)
  · obtain ⟨n, c, rfl, _⟩ := h
    rfl
  · obtain ⟨n, c, rfl, bad, good⟩ := h
    have hr2 : Room 2 _ := hr
    refine ⟨_, (pss_one (ps_if (pt_not (pt_chain op_le op_le pe_int (pv 0) (pv 1))) (pss_one (ps_raise rfl (takes_of rfl rfl rfl rfl) (pmk_oex Ex.T Ex.at_ Ex.ty Ex.ok hr2 Ex.bd .nil pass0 (by rfl) Ex.gl (pa_cons pe_int pa_nil)))) pss_nil)), ?_⟩
    have out : ¬ (0 ≤ n ∧ n ≤ c) → ∀ x, H x = none → ∀ H2 d, H2 x = some (exo x CI (some d)) → H2 d = some (exd d [("part", .int 0)]) → upd H x (exo x CI none) d = none → d ≠ x → SameBut x (upd H x (exo x CI none)) H2 → E (.ref CI) (some d) (upd (del H2 x) d (.xd [("part", .int 0)])) := fun nb x nx H2 d h1 h2 nd ne sb => by
      exact bad nb d _ (by rwa [upd_ne ne] at nd) upd_same (on_way nx nd ne sb)
    refine ⟨_, rfl, _, _, rfl, rfl, _, rfl, ite2 (fun a => ?_) (fun a => ?_)⟩
    · have a : 0 ≤ n := of_decide_eq_true a
      refine ⟨_, rfl, _, _, rfl, rfl, _, rfl, ?_⟩
      by_cases b : n ≤ c
      · exact iteFe (by rw [decide_eq_true b]; rfl) (good ⟨a, b⟩)
      · refine iteTe (by rw [decide_eq_false b]; rfl) ⟨by show 1 ≤ 1000; decide, fun x nx => ⟨x, _, rfl, upd_same, fun H2 d h1 h2 nd ne sb => ⟨rfl, d, _, h1, h2, ?_, ?_⟩⟩⟩
        · rwa [upd_ne ne] at nd
        · exact out (fun z => b z.2) x nx H2 d h1 h2 nd ne sb
    · have a : ¬ 0 ≤ n := fun z => a (decide_eq_true z)
      refine ⟨_, rfl, iteT ⟨by show 1 ≤ 1000; decide, fun x nx => ⟨x, _, rfl, upd_same, fun H2 d h1 h2 nd ne sb => ⟨rfl, d, _, h1, h2, ?_, ?_⟩⟩⟩⟩
      · rwa [upd_ne ne] at nd
      · exact out (fun z => a z.1) x nx H2 d h1 h2 nd ne sb
def spInOrder : Sp := fun vs H Q _ => ∃ a ks, vs = [.ref a] ∧ CndsAt H a ks ∧ ks.length ≤ 1000 ∧ (∀ q ∈ ks, q.2.2.length ≤ 1000) ∧ (ks.map fun q => q.2.1).Nodup ∧
  ∀ p ms H', Same H H' → H p = none → CndsAt H' p ms → (ms.map (·.2)).Perm ((ks.map (·.2)).map ascC) → Ord (ms.map (·.2)) → Q (.ref p) H'
abbrev nInOrder : List Str := ["conditions", "dx", "dy", "signs", "flipped"]
theorem scInOrder : FnScope nInOrder ["conditions"] (defScope gInOrder) := ⟨rfl, rfl, rfl, by decide +kernel, rfl, by decide +kernel, by decide +kernel⟩
theorem ok_inorder {f g : Addr} {fd gd : FuncData} (F : Fun K "_in_order" "_in_order" gInOrder f fd) (G : Cl P w K mg base CX0 1 "in_ascii_order" ["signs"] spAsc g gd) (R : STxt K mg) : FnOk P w K mg base CX0 2 f fd ["conditions"] spInOrder := by
  refine F.ok scInOrder (fun vs H Q E h => ?_) (fun cdv A outer s H vs Q E hr h => ?_)
  · obtain ⟨a, ks, rfl, _⟩ := h
    rfl
  · obtain ⟨a, ks, rfl, hc, few, each, nd, k⟩ := h
    refine ⟨_, (pss_cons (ps_set (i := 4) scInOrder.nd rfl (.inl rfl) (pe_callB cr_sortedTr (by rfl) R.srt (by decide +kernel) (pa_cons (pe_lc (own := [("dx", 1), ("dy", 2), ("signs", 3)]) (g := (gTup K 3 (gCons (gName 1) (gCons (gName 2) (gCons (gName 3) gNil))))) (tt := tYes) rfl scInOrder.nd (pi_list (pv 0)) (blkOk_by (own := [("dx", 1), ("dy", 2), ("signs", 3)]) (N := nInOrder) (sc := defScope gInOrder) (by decide +kernel)) (fun _ _ _ _ _ => (pg_tup rfl (pgs_cons (pg_name (i := 1) scInOrder.nd rfl (.inl rfl)) (pgs_cons (pg_name (i := 2) scInOrder.nd rfl (.inl rfl)) (pgs_cons (pg_name (i := 3) scInOrder.nd rfl (.inl rfl)) pgs_nil))))) (fun _ _ _ _ _ => pts_nil) (fun _ _ _ _ _ => (pe_tup (pa_cons (pv 2) (pa_cons (pv 1) (pa_cons (pe_call G.ok hr (by rfl) G.gl G.kp G.bd .nil pass0 (pa_cons (pv 3) pa_nil)) pa_nil)))))) pa_nil)))
      (pss_one (ps_ret (pe_lc (own := [("dy", 2), ("dx", 1), ("signs", 3)]) (g := (gTup K 3 (gCons (gName 2) (gCons (gName 1) (gCons (gName 3) gNil))))) (tt := tYes) rfl scInOrder.nd (pi_list (pv 4)) (blkOk_by (own := [("dy", 2), ("dx", 1), ("signs", 3)]) (N := nInOrder) (sc := defScope gInOrder) (by decide +kernel)) (fun _ _ _ _ _ => (pg_tup rfl (pgs_cons (pg_name (i := 2) scInOrder.nd rfl (.inl rfl)) (pgs_cons (pg_name (i := 1) scInOrder.nd rfl (.inl rfl)) (pgs_cons (pg_name (i := 3) scInOrder.nd rfl (.inl rfl)) pgs_nil))))) (fun _ _ _ _ _ => pts_nil) (fun _ _ _ _ _ => (pe_tup (pa_cons (pv 1) (pa_cons (pv 2) (pa_cons (pv 3) pa_nil))))))))), ?_⟩
    refine ⟨.ref a, rfl, a, rfl, ⟨_, SqL.of hc.lst⟩, fun D nD => lc_list (K := K) (a := a) (xs := refC ks) (fun i G => ∃ ts : List Trip, Same H G ∧ G D = some (.lst (ts.map fun p => V.ref p.1)) ∧ (∀ p ∈ ts, G p.1 = some (TripO p)) ∧ ts.map (·.2) = (ks.take i).map fun q => (fl q.2.1, S (asc q.2.2))) ⟨[], same_upd nD, upd_same, (fun p hp => nomatch hp), rfl⟩ (fun i G _ ⟨ts, sm, _⟩ => SqL.of (sm _ _ hc.lst)) ?_ ?_⟩
    · rintro i x G hx ⟨ts, sm, hD, ht, et⟩
      obtain ⟨t, c, hi, rfl⟩ := refC_at hx
      have mq := List.mem_of_getElem? hi
      have htc := sm _ _ (hc.each _ mq)
      have li : i < ks.length := (List.getElem?_eq_some_iff.mp hi).1
      refine ⟨t, _, rfl, SqT.of htc, rfl, _, _, rfl, _, _, rfl, _, _, rfl, rfl, rfl, ?_⟩
      refine tyes (iteT ⟨_, rfl, _, rfl, _, rfl, c.2, rfl, each _ mq, fun G2 s2 => ⟨by show 3 ≤ sizeLine; decide, fun T nT => ?_⟩⟩)
      have s3 := s2.trans (same_upd (o := .tup [.int c.1.2, .int c.1.1, .str (S (asc c.2))]) nT)
      have nDT : D ≠ T := ne_of_none (s2 _ _ hD) nT
      refine ⟨ts.map fun p => V.ref p.1, s3 _ _ hD, ?_, ts ++ [(T, fl c.1, S (asc c.2))], fun b o e => ?_, ?_, fun p hp => ?_, ?_⟩
      · have := congrArg List.length et
        rw [List.length_map, List.length_map, List.length_take] at this
        rw [List.length_map]
        exact small1000 (by omega)
      · rw [upd_ne (ne_of_none e nD)]
        exact s3 _ _ (sm _ _ e)
      · rw [upd_same, List.map_append]
        rfl
      · have pD : ∀ q : Trip, upd G2 T (.tup [.int c.1.2, .int c.1.1, .str (S (asc c.2))]) q.1 = some (TripO q) → q.1 ≠ D := fun q e y => by
          rw [y, s3 _ _ hD] at e
          cases e
        rcases List.mem_append.mp hp with z | z
        · have y := s3 _ _ (ht p z)
          rw [upd_ne (pD p y)]
          exact y
        · rw [List.mem_singleton.mp z]
          rw [upd_ne nDT.symm]
          exact upd_same
      · rw [List.map_append, et, List.take_add_one, hi, List.map_append]
        rfl
    · rintro G ⟨ts, sm, hD, ht, et⟩
      rw [show (refC ks).length = ks.length from List.length_map _, List.take_of_length_le (Nat.le_refl _)] at et
      have ndt : (ts.map fun p => p.2.1).Nodup := by
        have e : ts.map (fun p => p.2.1) = (ks.map fun q => q.2.1).map fl := by
          have y := congrArg (List.map Prod.fst) et
          rw [List.map_map, List.map_map] at y
          rw [List.map_map]
          exact y
        rw [e]
        exact List.pairwise_map.mpr (nd.imp fun ne e => ne (Prod.ext (congrArg Prod.snd e) (congrArg Prod.fst e)))
      refine ⟨D, ts, rfl, SqL.of hD, ht, ndt, fun M d pm pw nd2 => ?_⟩
      have sM := same_upd (o := .lst (M.map fun p => V.ref p.1)) nd2
      have hM : ∀ p ∈ M, upd G d (.lst (M.map fun p => V.ref p.1)) p.1 = some (TripO p) := fun p hp => sM _ _ (ht p (pm.mem_iff.mp hp))
      have hd : upd G d (.lst (M.map fun p => V.ref p.1)) d = some (.lst (M.map fun p => V.ref p.1)) := upd_same
      generalize upd G d (.lst (M.map fun p => V.ref p.1)) = G1 at sM hM hd
      have s01 := sm.trans sM
      refine ⟨.ref d, rfl, d, rfl, ⟨_, SqL.of hd⟩, fun D2 nD2 => lc_list (K := K) (a := d) (xs := M.map fun p => V.ref p.1) (fun i G => ∃ ms : List (Addr × Cnd), Same G1 G ∧ G D2 = some (.lst (refC ms)) ∧ (∀ q ∈ ms, G q.1 = some (CondO q.2)) ∧ ms.map (·.2) = (M.take i).map fun p => (fl p.2.1, unS p.2.2)) ⟨[], same_upd nD2, upd_same, (fun p hp => nomatch hp), rfl⟩ (fun i G _ ⟨ms, sm, _⟩ => SqL.of (sm _ _ hd)) ?_ ?_⟩
      · rintro i x G2 hx ⟨ms, sm2, hD2, hms, em⟩
        rw [List.getElem?_map] at hx
        obtain ⟨p, hi, rfl⟩ : ∃ p, M[i]? = some p ∧ x = V.ref p.1 := by
          cases e : M[i]? with
          | none =>
            rw [e] at hx
            cases hx
          | some p =>
            rw [e] at hx
            cases hx
            exact ⟨p, rfl, rfl⟩
        have mp := List.mem_of_getElem? hi
        have htc := sm2 _ _ (hM p mp)
        refine ⟨p.1, _, rfl, SqT.of htc, rfl, _, _, rfl, _, _, rfl, _, _, rfl, rfl, rfl, ?_⟩
        refine tyes (iteT ⟨_, rfl, _, rfl, _, rfl, by show 3 ≤ sizeLine; decide, fun T nT => ?_⟩)
        have s3 := same_upd (o := .tup [.int p.2.1.2, .int p.2.1.1, .str p.2.2]) nT
        have nDT : D2 ≠ T := ne_of_none hD2 nT
        refine ⟨refC ms, s3 _ _ hD2, ?_, ms ++ [(T, fl p.2.1, unS p.2.2)], fun b o e => ?_, ?_, fun q hq => ?_, ?_⟩
        · have e1 := congrArg List.length em
          have e2 := pm.length_eq
          have e3 := congrArg List.length et
          rw [List.length_map, List.length_map, List.length_take] at e1
          rw [List.length_map, List.length_map] at e3
          rw [show (refC ms).length = ms.length from List.length_map _]
          exact small1000 (by omega)
        · rw [upd_ne (ne_of_none e nD2)]
          exact s3 _ _ (sm2 _ _ e)
        · rw [upd_same]
          unfold refC
          rw [List.map_append]
          rfl
        · rcases List.mem_append.mp hq with z | z
          · have y := s3 _ _ (hms q z)
            rw [upd_ne (fun e => ?_)]
            · exact y
            · rw [e, s3 _ _ hD2] at y
              cases y
          · rw [List.mem_singleton.mp z]
            rw [upd_ne nDT.symm, upd_same]
            show _ = some (HO.tup [.int (fl p.2.1).1, .int (fl p.2.1).2, .str (S (unS p.2.2))])
            rw [S_unS]
            rfl
        · rw [List.map_append, em, List.take_add_one, hi, List.map_append]
          rfl
      · rintro G2 ⟨ms, sm2, hD2, hms, em⟩
        rw [List.length_map, List.take_of_length_le (Nat.le_refl _)] at em
        have sAll := s01.trans sm2
        refine k D2 ms G2 sAll (back s01 nD2) ⟨hD2, hms⟩ ?_ ?_
        · rw [em]
          have y := pm.map fun p : Trip => ((fl p.2.1, unS p.2.2) : Cnd)
          have e : (ts.map fun p : Trip => ((fl p.2.1, unS p.2.2) : Cnd)) = (ks.map (·.2)).map ascC := by
            have z := congrArg (List.map fun x : (Int × Int) × Str => ((fl x.1, unS x.2) : Cnd)) et
            rw [List.map_map, List.map_map] at z
            rw [List.map_map]
            refine z.trans (List.map_congr_left fun q _ => ?_)
            show ((fl (fl q.2.1), unS (S (asc q.2.2))) : Cnd) = ascC q.2
            rw [unS_S]
            rfl
          rw [e] at y
          exact y
        · unfold Ord
          rw [em]
          exact List.pairwise_map.mpr (pw.imp fun {p q} e => e)
end
end Pm
namespace Pm
open PySem PySem.Spec PyProof.Rows L2 SX NdefX
/-! ### a def whose first statement is super().m(e, ..) -/
/-- a def of the text that closes over __class__ (the class at D), its first parameter self -/
structure FunS (prog : Program) (K : PySem.W.Frag) (x qual : Str) (st : Stmt) (D f cc cda : Addr) (fd : FuncData) : Prop where
  ex : ∃ (oc : Value) (od : Option Addr) (dV kV doc pm : Value) (an : Option Addr) (ct : Value) (osl : Array (Option Value)),
    fd = PySem.W.fnX x qual (defArgs st) (defBody st) (defScope st) [("__class__", cc)] dV kV doc pm an (.ref cda) ct ∧ K.lookup f = some ⟨oc, od, .func fd, osl⟩ ∧ PySem.W.codeIn K (.ref cda) qual = true
  cell : ∃ (cl : Value) (cld : Option Addr) (csl : Array (Option Value)), K.lookup cc = some ⟨cl, cld, .cell (some (.ref D)), csl⟩
  code : ∃ (ccl : Value) (cdd : Option Addr) (vs : Array Value) (ccs : Array (Option Value)) (file : Str) (tf : Tok), K.lookup cda = some ⟨ccl, cdd, .fields vs, ccs⟩ ∧ vs[2]? = some (.str file tf) ∧ ((prog.main.file : Str) == file) = true
  cls : ∃ cd, PySem.W.clsIn K D = some cd
  top : (prog.main.scope.names.lookup ("super" : Str)).isSome = false
  any : PySem.W.nsIn K cStatics "thirdparty.any" = some none
  arg : ∃ ar : Arg, ((defArgs st).posonlyargs ++ (defArgs st).args).head? = some ar ∧ ar.arg = "self"
/-- the class C of self: below D; super() finds m at g -/
structure SupM (K : PySem.W.Frag) (C D : Addr) (m : Str) (g : Addr) : Prop where
  sub : PySem.W.mroIn K C (.ref D) = some true
  at_ : PySem.W.ks_superIn K C D m = some (some (.ref g))
  ty : PySem.W.typeIn K (.ref g) = some (.type "function")
  fi : PySem.W.fnIn K g = true
section
variable {CX CXf : CXT} {P : Program} {w : World} {K : PySem.W.Frag} {mg : Str → Option Value} {base : Heap} {N ps ps2 : List Str} {D f g C cc cda : Addr} {k j : Nat} {x qual m : Str} {st : Stmt} {fd gd : FuncData} {sp sp2 : Sp} {p0 p1 apos pos pos2 : Pos} {e : Expr} {es : List Expr} {rest : List Stmt} {pl : Sem Bool}
abbrev supNF (x qual : Str) (st : Stmt) (cc cda : Addr) : NF := ⟨x, qual, defArgs st, defBody st, defScope st, [("__class__", cc)], cda⟩
abbrev supCx (CX : CXT) (P : Program) (w : World) (K : PySem.W.Frag) (mg : Str → Option Value) (base : Heap) (N : List Str) (x qual : Str) (st : Stmt) (f cc cda : Addr) (A : Around) (outer : List Env) (s : Shared) (H : Hp) (E : XK) : Cx := ncx CX P w K mg base N (supNF x qual st cc cda) f A outer s H E
theorem supfn_of (F : FunS P K x qual st D f cc cda fd) (S : NScope N ps ["__class__"] (defScope st)) (gm : mg "super" = none) (ks : (defScope st).names.lookup ("super" : Str) = some .globalImplicit)
    (p0s : ps[0]? = some ("self" : Str)) (hat : (m == ("__class__" : Str)) = false)
    (hb : defBody st = .Expr (.Call (.Attribute (.Call (.Name "super" p0) [] [] p1) m apos) (e :: es) [] pos) pos2 :: rest)
    (hM : SupM K C D m g) (G : FnOk P w K mg base CXf j g gd ps2 sp2) (bG : Binds K gd ps2 [])
    (len : ∀ vs H Q E, sp vs H Q E → vs.length = ps.length)
    (hbody : ∀ (A : Around) (outer : List Env) (s : Shared) (H : Hp) (vs : List V) (Q : VK) (E : XK), Room k (A.deeper (envF (supNF x qual st cc cda) f s.heap.objs.size)) → sp vs H Q E →
      ∃ (t : TA) (u : TS) (xa dx : Addr) (fs : List (Str × V)) (E2 : XK), vs[0]? = some (.ref xa) ∧ H xa = some (.ins C dx fs) ∧ Room j (A.deeper (envF (supNF x qual st cc cda) f s.heap.objs.size)) ∧
        (∀ σ, PassesAt CXf (supCx CX P w K mg base N x qual st f cc cda A outer s H E) σ E2) ∧
        PA (supCx CX P w K mg base N x qual st f cc cda A outer s H E) (e :: es) t ∧ PSs (supCx CX P w K mg base N x qual st f cc cda A outer s H E) rest u ∧
        t (startF N vs [some (.ref D)]) H (fun us H1 => sp2 (.ref xa :: us) H1 (fun _ H2 => u { nx := fun _ H' => Q .non H', rt := Q } (startF N vs [some (.ref D)]) H2) E2))
    (ht : ∀ env : Env, eval (.Call (.Attribute (.Call (.Name "super" p0) [] [] p1) m apos) (e :: es) [] pos) env = (do
      let ov ← attributeBase (.Call (.Name "super" p0) [] [] p1) m env (eval (.Call (.Name "super" p0) [] [] p1) env)
      standAt apos.atName
      let (f, first) ← holding [ov] (getMethod ov m pl)
      callWith pos f first (backTo pos (starEach (e :: es) env)) []) := by intro _; rfl)
    (hst : ∀ env : Env, starEach (e :: es) env = (false, eval e env) :: starEach es env := by intro _; rfl) (hpl : ∀ env : Env, (backTo pos (starEach es env)).any (·.1) = false := by intro _; rfl)
    (hi : ∀ env : Env, env.scope = defScope st → interactive env = false := by intro _ z; unfold interactive; rw [z]; rfl)
    (hsw : ∀ env : Env, swapsWith (.Call (.Attribute (.Call (.Name "super" p0) [] [] p1) m apos) (e :: es) [] pos) none pos2.line env = pure false := by intro _; rfl) :
    FnOk P w K mg base CX (k + 1) f fd ps sp := by
  obtain ⟨oc, od, dV, kV, doc, pm, an, ct, osl, rfl, lk, hcd⟩ := F.ex
  obtain ⟨cl, cld, csl, lc⟩ := F.cell
  obtain ⟨ccl, cdd, cvs, ccs, file, tf, lcode, hvs, hfile⟩ := F.code
  obtain ⟨cdD, hD⟩ := F.cls
  obtain ⟨ar, har, hself⟩ := F.arg
  refine ⟨len, fun A outer s H args us vs Q E hr e0 hbind r hsp => ?_⟩
  have hl := len _ _ _ _ hsp
  have KX : K.In s.heap := e0.mod.kin.keeps fun b o e => (e0.bs b o e).1
  have lim : s.heap.NoLimit := e0.mod.nolimit.keeps fun b o e => (e0.bs b o e).1
  refine codeAny_call_function hr.depth (KX _ _ lk) rfl S.co S.gen rfl (PySem.W.codeRec_of KX hcd) (hbind _ _ _ _ ?_)
  refine wpAny_newFunctionEnv S.nocell (fun ⟨n, _⟩ hy => S.par n (List.of_mem_zip hy).1) (fun h₁ hns hsb => ⟨lim.fresh _ hsb, ?_⟩) S.kind
  show codeAny _ _ (.func (defBody st) (envF (supNF x qual st cc cda) f s.heap.objs.size)) _ _
  refine ks_codeAny_funcAt ?_
  have kp : ∀ b o, s.heap.get? b = some o → h₁.get? b = some o := fun b o e => hsb.extBut b o (Nat.ne_of_lt (Heap.lt_size e)) (Heap.get?_push_of_some _ e)
  obtain ⟨t, u, xa, dx, fs, E2, hv0, hxa, hrj, hx, ha, hrest, asked⟩ := hbody A outer s H vs Q E (hr.deeper _) hsp
  have one : ∀ {y : Str} {c : Addr}, List.lookup y [(("__class__" : Str), cc)] = some c → y = "__class__" ∧ c = cc := fun {y c} z => by
    simp only [List.lookup] at z
    split at z
    · rename_i q
      exact ⟨eq_of_beq q, (Option.some.inj z).symm⟩
    · cases z
  have hcc : s.heap.IsCell cc (some (.ref D)) := ⟨_, KX _ _ lc, rfl⟩
  have C0 : CellsAt (supNF x qual st cc cda).cl ["__class__"] [some (.ref D)] s.heap H := by
    refine ⟨rfl, fun y c z => ?_, fun y y' c z z' => (one z).1.trans (one z').1.symm, fun i y hi => ?_⟩
    · rw [(one z).2]
      exact ⟨(e0.bs _ _ (e0.mod.kin _ _ lc)).2, _, hcc⟩
    · match i, hi with
      | 0, hi =>
        cases hi
        refine ⟨cc, by simp [List.lookup], fun v hv => ?_⟩
        have hv : (some (V.ref D) : Option V) = some v := by simpa using hv
        cases hv
        exact ⟨.ref D, rfl, hcc⟩
  have I : L2.Inv (supCx CX P w K mg base N x qual st f cc cda A outer s H E) [] (startF N vs [some (.ref D)]) H { s with heap := h₁, toks := s.toks + (ps.zip us).length } := inv_startN S hr.hd e0 hl r C0 hns kp
  generalize { s with heap := h₁, toks := s.toks + (ps.zip us).length } = s1 at I ⊢
  have KX1 : K.In s1.heap := I.kIn
  rw [hb]
  refine ks_wpAt_execs_cons (ks_wpAt_Expr_any (ks_wpAt_MethodCall (pl := pl) ?_ (ht _)) (hi _ rfl) (hsw _))
  -- super()
  have kc : (defScope st).names.lookup ("__class__" : Str) = some .free := S.frk _ List.mem_cons_self
  refine ks_wpAt_super_base (env := envF (supNF x qual st cc cda) f s.heap.objs.size) ks kc hat rfl (KX1 _ _ lk) rfl har rfl (KX1 _ _ lcode) rfl hvs hfile F.top ?_
  obtain ⟨mb, hb1, hb2⟩ := I.mod.blt
  have X := supCx CX P w K mg base N x qual st f cc cda A outer s H E
  refine PySem.W.ks_loadName_global S.kind ks (Calls.loadGlobal_builtin (I.mod.glob.keeps I.bk) gm (hb1.keeps I.bk) ((hb2 "super" (by decide)).trans (by first | boot_by_name | rfl | kernel_rfl)) ⟨rfl, ?_⟩)
  refine wpAny_loadName_free (c := cc) S.kind kc (by simp [List.lookup]) ⟨_, KX1 _ _ lc, rfl⟩ ?_
  rw [hself]
  obtain ⟨m0, hn0, hl0⟩ := I.loc
  have pre0 : N[0]? = some ("self" : Str) := by
    have y := congrArg (fun l => l[0]?) S.pre
    have p0 : 0 < ps.length := (List.getElem?_eq_some_iff.mp p0s).1
    rw [List.getElem?_take_of_lt (by omega), List.getElem?_append_left p0] at y
    exact y.trans p0s
  have st0 : (startF N vs [some (.ref D)])[0]? = some (some (.ref xa)) := by
    have v0 : 0 < vs.length := (List.getElem?_eq_some_iff.mp hv0).1
    unfold startF
    rw [List.getElem?_append_left (by rw [List.length_map]; exact v0), List.getElem?_map, hv0]
    rfl
  obtain ⟨u0, ru0, lu0⟩ := hl0 0 "self" (.ref xa) pre0 st0 (.inl (S.par _ (List.mem_of_getElem? p0s)))
  obtain rfl : u0 = Value.ref xa := ru0
  have ld : m0 ("self" : Str) = some (.ref xa) := by
    rcases lu0 with ⟨_, z⟩ | ⟨z, _⟩
    · exact z
    · rcases z with z | z
      · have := (S.par _ (List.mem_of_getElem? p0s)).symm.trans z
        cases this
      · have := (S.par _ (List.mem_of_getElem? p0s)).symm.trans z
        cases this
  refine wpAny_loadName_local S.kind (S.par _ (List.mem_of_getElem? p0s)) hn0 ld ?_
  obtain ⟨oD, hD1, hD2⟩ : ∃ oD, s1.heap.get? D = some oD ∧ oD.data = .cls cdD := by
    have hD' := hD
    unfold PySem.W.clsIn at hD'
    split at hD'
    · rename_i c d cd' sl ho
      cases hD'
      exact ⟨_, KX1 _ _ ho, rfl⟩
    · cases hD'
  obtain ⟨mA, O, _, _, _, _⟩ := ins_get I.hok hxa
  obtain ⟨odd, J, _⟩ := O.look
  obtain ⟨hh, gg, dd, tt, oss⟩ := s1
  refine ks_wpAny_isType_cls hD1 hD2 ⟨rfl, ?_⟩
  refine ks_wpAny_call_super hD1 hD2 J.at_ J.cls (fun c z => ?_) (PySem.W.looks_mroIn KX1 hM.sub) (fun h' hso k' => ?_)
  · have y := J.no
    unfold PySem.W.notCls at y
    rw [z] at y
    exact Bool.noConfusion y
  have I2 : L2.Inv (supCx CX P w K mg base N x qual st f cc cda A outer s H E) [] (startF N vs [some (.ref D)]) H ⟨h', gg, dd, tt, oss⟩ := I.kept (t' := tt) k'
  have KX2 : K.In h' := I2.kIn
  have J2 : ∃ ox odx, PySem.W.InstAt h' xa ox C odx := by
    obtain ⟨mA, O, _, _, _, _⟩ := ins_get I2.hok hxa
    obtain ⟨od2, J2, _⟩ := O.look
    exact ⟨_, _, J2⟩
  obtain ⟨ox2, odx2, J2⟩ := J2
  cases hc : PySem.W.clsIn K C with
  | none =>
    have z := hM.at_
    unfold PySem.W.ks_superIn at z
    rw [hc] at z
    cases z
  | some cd =>
    have hm := hM.at_
    unfold PySem.W.ks_superIn at hm
    rw [hc] at hm
    obtain ⟨of, hof, hofc⟩ : ∃ of, h'.get? g = some of ∧ of.cls = .type "function" := by
      have ht' : (K.lookup g).map (·.cls) = some (.type "function") := hM.ty
      cases z : K.lookup g with
      | none => rw [z] at ht'; cases ht'
      | some of => rw [z] at ht'; exact ⟨of, KX2 _ _ z, Option.some.inj ht'⟩
    refine ks_wpAny_getMethod_super hso (PySem.W.looks_opaque KX2 F.any) (l₀ := cd.mro) (fun A Q E s k q => wpAny_bind ((PySem.W.looks_clsIn KX2 hc) A _ E s k (wpAny_pure q))) rfl KX2 hm hof hofc (PySem.W.ks_ne KX2 J2 hc) hat ?_
    have I3 := ClX.met_new (g := g) (C := xa) I2
    refine ClX.callwith_cm (X := supCx CX P w K mg base N x qual st f cc cda A outer s H E) I3 (ClX.base_none I2 (Nat.le_refl _)) hM.fi (thn (ha.run pos _ _ _ H _ I3 asked) fun us2 s3 ⟨vs2, H2, I4, rv2, q2⟩ => ⟨⟨ClX.pin_at I4, I4.kIn⟩, ?_⟩) (hst _) (hpl _)
    have l2 : (Value.ref xa :: us2).length = ps2.length := by
      rw [← G.len _ _ _ _ q2, List.length_cons, List.length_cons, rv2.length]
    have bnd := bG s3 (.ref xa :: us2) I4.kIn (by rw [List.append_nil]; exact l2)
    rw [List.append_nil] at bnd
    refine thn (Q := EP (supCx CX P w K mg base N x qual st f cc cda A outer s H E) ((h'.objs.size, PySem.W.methodObj (.ref g) (.ref xa)) :: []) (startF N vs [some (.ref D)]) (fun _ H2 => u { nx := fun _ H' => Q .non H', rt := Q } (startF N vs [some (.ref D)]) H2))
      (wpAny_call (PySem.W.method_call (ClX.pin_at I4) (codeAny_mono (G.run (A.deeper (envF (supNF x qual st cc cda) f s.heap.objs.size)) (supCx CX P w K mg base N x qual st f cc cda A outer s H E).stack s3 H2 ⟨.ref xa :: us2, []⟩ (.ref xa :: us2) (.ref xa :: vs2) _ E2 hrj I4.env0 bnd (.cons rfl rv2) q2) fun r s' z => ?_))) fun _ s4 z => ?_
    · cases r with
      | error er => exact hx _ _ H2 s3 er s' I4 z
      | ok fl =>
        cases fl with
        | ret u => exact I4.after z
        | next => exact z.elim
        | brk => exact z.elim
        | cont => exact z.elim
    · obtain ⟨v5, H5, I5, _, q5⟩ := ClX.unpinE z
      refine wpAt_of_wpAny (wpAny_mono (hrest.run [] _ _ H5 _ I5 q5) (fun fl s' hs => ?_) fun e s' hs => hs)
      have fin : ∀ {σ' : L2.St} {H' : Hp} {v : V} {u : Value}, L2.Inv (supCx CX P w K mg base N x qual st f cc cda A outer s H E) [] σ' H' s' → L2.RelV v u → Q v H' → CE outer P w H s Q u s' :=
        fun {σ' H' v u} J rv q => ⟨v, H', J.os, J.bare, J.base, J.hok, rv, q⟩
      cases fl with
      | ret u =>
        obtain ⟨v, σ', H', J, rv, q⟩ := hs
        exact fin J rv q
      | next =>
        obtain ⟨σ', H', J, q⟩ := hs
        exact fin (v := V.non) (u := Value.none) J rfl q
      | brk =>
        obtain ⟨_, _, _, q⟩ := hs
        exact False.elim q
      | cont =>
        obtain ⟨_, _, _, q⟩ := hs
        exact False.elim q
end
end Pm
namespace Pm
open PySem PySem.Spec PyProof.Rows L2 SX NdefX
/-! ### rules -/
structure RCls (K : PySem.W.Frag) (C : Addr) : Prop where
  cl : L2.Cls K C
  nS : NoAttr K C "stone"
  nC : NoAttr K C "_conditions"
  nN : NoAttr K C "need"
def faultR (st : List Nat) (cs : List Cnd) : Option Nat := if stoneB st then fstBad 1 [] cs else some 0
theorem fst_none : ∀ {cs : List Cnd} {i : Nat} {seen : List (Int × Int)}, fstBad i seen cs = none → (cs.map (·.1)).Nodup ∧ (∀ c ∈ cs, c.1 ∉ seen) ∧ (∀ c ∈ cs, placeB c.1 = true ∧ diffB 35 c.2 = true) ∧ (cs ≠ [] → i + cs.length ≤ 9)
  | [], _, _, _ => ⟨List.nodup_nil, (fun c m => nomatch m), (fun c m => nomatch m), fun z => absurd rfl z⟩
  | c :: r, i, seen, h => by
    rw [fst_step] at h
    split at h
    · cases h
    rename_i nb
    obtain ⟨h1, h2, h3, h4⟩ := fst_none h
    unfold badAt at nb
    simp only [Bool.or_eq_true, Bool.not_eq_true', decide_eq_true_eq, not_or, Bool.not_eq_false] at nb
    obtain ⟨⟨⟨a, b⟩, c1⟩, d⟩ := nb
    refine ⟨List.nodup_cons.mpr ⟨fun m => ?_, h1⟩, fun x m => ?_, fun x m => ?_, fun _ => ?_⟩
    · obtain ⟨x, mx, e⟩ := List.mem_map.mp m
      exact h2 x mx (by rw [e]; exact List.mem_cons_self)
    · rcases List.mem_cons.mp m with e | m
      · rw [e]
        exact c1
      · exact fun y => h2 x m (List.mem_cons_of_mem _ y)
    · rcases List.mem_cons.mp m with e | m
      · rw [e]
        exact ⟨b, d⟩
      · exact h3 x m
    · by_cases e : r = []
      · rw [e, List.length_singleton]
        omega
      · have := h4 e
        rw [List.length_cons]
        omega
section
variable {P : Program} {w : World} {K : PySem.W.Frag} {mg : Str → Option Value} {base : Heap} {C CI : Addr}
/-- an error that leaves a constructor: the object at r is lost -/
def LetsB (r : Addr) (E : XK) (C : Addr) (fs : List (Str × V)) (H : Hp) : Prop := ∀ d H', H d = none → H' d = some (.xd fs) → SameBut r H H' → E (.ref C) (some d) H'
theorem LetsB.lets {r : Addr} {E : XK} {C : Addr} {fs : List (Str × V)} {H : Hp} (h : LetsB r E C fs H) : Lets E C fs H := fun d H' nd hd sg => h d H' nd hd (same_sb sg)
def spRuleInit (CI : Addr) (K : PySem.W.Frag) : Sp := fun vs H Q E => ∃ r dx C st a ks, vs = [.ref r, .str (S st), .ref a] ∧ RCls K C ∧ H r = some (.ins C dx []) ∧ CndsAt H a ks ∧ st.length ≤ 1000 ∧ ks.length ≤ 1000 ∧ (∀ q ∈ ks, q.2.2.length ≤ 1000) ∧
  (∀ p, faultR st (ks.map (·.2)) = some p → LetsB r E CI [("part", .int (p : Int))] H) ∧
  (faultR st (ks.map (·.2)) = none → ∀ H' l ms, SameBut r H H' → H l = none → H' r = some (.ins C dx [("stone", .str (S st)), ("_conditions", .ref l)]) → CndsAt H' l ms → (ms.map (·.2)).Perm ((ks.map (·.2)).map ascC) → Ord (ms.map (·.2)) → Q .non H')
theorem scRuleInit : FnScope ["self", "stone", "conditions"] ["self", "stone", "conditions"] (defScope cRuleInit) := ⟨rfl, rfl, rfl, by decide +kernel, rfl, by decide +kernel, by decide +kernel⟩
theorem ok_ruleinit {f i c o e : Addr} {fd di dc do_ ed : FuncData} (F : Fun K "__init__" "Rule.__init__" cRuleInit f fd) (Is : Cl P w K mg base CX0 1 "is_stone" ["sign"] spStone i di) (Ck : Cl P w K mg base (L2.CX P w) 3 "_check_conditions" ["conditions"] (spCheck CI) c dc) (Io : Cl P w K mg base CX0 2 "_in_order" ["conditions"] spInOrder o do_)
    (Ex : EMk P w K mg base CI "InvalidRule" ["self", "part"] (spE1 CI "part") e ed) : FnOk P w K mg base (L2.CX P w) 4 f fd ["self", "stone", "conditions"] (spRuleInit CI K) := by
  refine F.okX scRuleInit (fun vs H Q E h => ?_) (fun cdv A outer s H vs Q E hr h => ?_)
  · obtain ⟨r, dx, C, st, a, ks, rfl, _⟩ := h
    rfl
  · obtain ⟨r, dx, C, st, a, ks, rfl, T, hr0, hc, fs, few, each, bad, good⟩ := h
    have hr1 : Room 1 _ := hr.mono (by decide)
    have hr2 : Room 2 _ := hr.mono (by decide)
    refine ⟨_, (pss_cons (ps_if (pt_not (pt_val (pe_call Is.ok hr1 (by rfl) Is.gl Is.kp Is.bd .nil pass0 (pa_cons (pv 1) pa_nil)))) (pss_one (ps_raise rfl (takes_of rfl rfl rfl rfl) (pmk_oex Ex.T Ex.at_ Ex.ty Ex.ok hr2 Ex.bd .nil pass0 (by rfl) Ex.gl (pa_cons pe_int pa_nil)))) pss_nil)
      (pss_cons (ps_expr (pe_callS (E := fun _ => E) Ck.ok hr (by rfl) Ck.gl Ck.kp Ck.bd (fun σ pins H s e s' I c => passes_call (takes_of rfl rfl rfl rfl) (fun _ _ _ _ z => z) pins σ H s e s' I c) (pa_cons (pv 2) pa_nil)))
      (pss_cons (ps_fld (pv 0) (pv 1) rfl)
      (pss_one (ps_fld (pv 0) (pe_call Io.ok hr2 (by rfl) Io.gl Io.kp Io.bd .nil pass0 (pa_cons (pv 2) pa_nil)) rfl))))), ?_⟩
    refine ⟨_, rfl, st, rfl, fs, _, rfl, ?_⟩
    cases e0 : stoneB st with
    | false =>
      refine iteT ⟨by show 1 ≤ 1000; decide, fun x nx => ⟨x, _, rfl, upd_same, fun H2 d h1 h2 nd ne sb => ⟨rfl, d, _, h1, h2, ?_, ?_⟩⟩⟩
      · rwa [upd_ne ne] at nd
      · exact bad 0 (by unfold faultR; rw [e0]; rfl) d _ (by rwa [upd_ne ne] at nd) upd_same (same_sb (on_way nx nd ne sb))
    | true =>
      have ef : faultR st (ks.map (·.2)) = fstBad 1 [] (ks.map (·.2)) := by unfold faultR; rw [e0]; rfl
      refine iteF ?_
      refine ⟨_, rfl, a, ks, rfl, hc, few, each, fun p hp => (bad p (ef.trans hp)).lets, fun hn H1 s1 => ?_⟩
      have nd : (ks.map fun q => q.2.1).Nodup := by
        have y := (fst_none hn).1
        rw [List.map_map] at y
        exact y
      refine ⟨_, rfl, _, rfl, r, C, dx, [], rfl, s1 _ _ hr0, T.cl, T.nS, by show 0 < 1000; decide, ?_⟩
      have ner : ∀ b o, b ≠ r → H b = some o → upd H1 r (.ins C dx [("stone", V.str (S st))]) b = some o := fun b o nb e => by
        rw [upd_ne nb]
        exact s1 _ _ e
      have nar : a ≠ r := ne_of hc.lst hr0 (by intro z; cases z)
      have hc2 : CndsAt (upd H1 r (.ins C dx [("stone", V.str (S st))])) a ks := ⟨ner _ _ nar hc.lst, fun q hq => ner _ _ (ne_of (hc.each q hq) hr0 (by intro z; cases z)) (hc.each q hq)⟩
      refine ⟨_, rfl, a, ks, rfl, hc2, few, each, nd, fun l ms H2 s2 nl hm pm od => ?_⟩
      have hr2' : H2 r = some (.ins C dx [("stone", V.str (S st))]) := s2 _ _ upd_same
      refine ⟨_, rfl, r, C, dx, _, rfl, hr2', T.cl, T.nC, by show 1 < 1000; decide, ?_⟩
      have nl0 : H l = none := by
        cases z : H l with
        | none => rfl
        | some o =>
          have y : l ≠ r := fun e => by
            rw [e, upd_same] at nl
            cases nl
          have y2 := (ner _ _ y z).symm.trans nl
          cases y2
      have nlr : l ≠ r := ne_of hm.lst hr2' (by intro z; cases z)
      refine good (ef.trans hn) _ l ms (fun b o nb e => ?_) nl0 (by rw [upd_same]; rfl) ⟨?_, fun q hq => ?_⟩ pm od
      · rw [upd_ne nb]
        exact s2 _ _ (ner _ _ nb e)
      · rw [upd_ne nlr]
        exact hm.lst
      · rw [upd_ne (ne_of (hm.each q hq) hr2' (by intro z; cases z))]
        exact hm.each q hq
end
end Pm
namespace Pm
open PySem PySem.Spec PyProof.Rows L2 SX NdefX
/-- what a rule with a need refuses -/
def faultC (st : List Nat) (cs : List Cnd) (n : Int) : Option Nat := match faultR st cs with
  | some p => some p
  | none => if 0 ≤ n ∧ n ≤ (cs.length : Int) then none else some 0
def faultS (cs : List Cnd) (n : Int) : Option Nat := match fstBad 1 [] cs with
  | some p => some p
  | none => if 0 ≤ n ∧ n ≤ (cs.length : Int) then none else some 0
section
variable {P : Program} {w : World} {K : PySem.W.Frag} {mg : Str → Option Value} {base : Heap} {C CI D : Addr}
def spCountInit (CI C : Addr) (K : PySem.W.Frag) : Sp := fun vs H Q E => ∃ r dx st a ks n, vs = [.ref r, .str (S st), .ref a, .int n] ∧ H r = some (.ins C dx []) ∧ CndsAt H a ks ∧ st.length ≤ 1000 ∧ ks.length ≤ 1000 ∧ (∀ q ∈ ks, q.2.2.length ≤ 1000) ∧
  (∀ p, faultC st (ks.map (·.2)) n = some p → LetsB r E CI [("part", .int (p : Int))] H) ∧
  (faultC st (ks.map (·.2)) n = none → ∀ H' l ms, SameBut r H H' → H l = none → H' r = some (.ins C dx [("stone", .str (S st)), ("_conditions", .ref l), ("need", .int n)]) → CndsAt H' l ms → (ms.map (·.2)).Perm ((ks.map (·.2)).map ascC) → Ord (ms.map (·.2)) → Q .non H')
abbrev nCountInit : List Str := ["self", "stone", "conditions", "need", "__class__"]
theorem scCountInit : NScope nCountInit ["self", "stone", "conditions", "need"] ["__class__"] (defScope cCountRuleInit) := nscope_by (by decide +kernel)
theorem ok_countinit {f cc cda g c : Addr} {fd gd dc : FuncData} (F : FunS P K "__init__" "CountRule.__init__" cCountRuleInit C f cc cda fd) (gm : mg "super" = none) (hM : SupM K C C "__init__" g) (G : FnOk P w K mg base (L2.CX P w) 4 g gd ["self", "stone", "conditions"] (spRuleInit CI K)) (bG : Binds K gd ["self", "stone", "conditions"] [])
    (Nd : Cl P w K mg base (L2.CX P w) 3 "_check_need" ["need", "count"] (spNeed CI) c dc) (L : LTxt K mg) (T : RCls K C) : FnOk P w K mg base (L2.CX P w) 5 f fd ["self", "stone", "conditions", "need"] (spCountInit CI C K) := by
  refine supfn_of (k := 4) (j := 4) F scCountInit gm rfl rfl rfl rfl hM G bG (fun vs H Q E h => ?_) (fun A outer s H vs Q E hr h => ?_)
  · obtain ⟨r, dx, st, a, ks, n, rfl, _⟩ := h
    rfl
  · obtain ⟨r, dx, st, a, ks, n, rfl, hr0, hc, fs, few, each, bad, good⟩ := h
    have hr3 : Room 3 _ := hr.mono (by decide)
    refine ⟨_, _, r, dx, [], E, rfl, hr0, hr, fun σ pins H s e s' I c => passes_call (takes_of rfl rfl rfl rfl) (fun _ _ _ _ z => z) pins σ H s e s' I c, (pa_cons (pv 1) (pa_cons (pv 2) pa_nil)), (pss_cons (ps_expr (pe_callS (E := fun _ => E) Nd.ok hr3 (by rfl) Nd.gl Nd.kp Nd.bd (fun σ pins H s e s' I c => passes_call (takes_of rfl rfl rfl rfl) (fun _ _ _ _ z => z) pins σ H s e s' I c) (pa_cons (pv 3) (pa_cons (pe_callB call_len_seq (by rfl) L.len PySem.boot_len (pa_cons (pv 2) pa_nil)) pa_nil))))
      (pss_one (ps_fld (pv 0) (pv 3) rfl))), ?_⟩
    refine ⟨_, rfl, _, rfl, r, dx, C, st, a, ks, rfl, T, hr0, hc, fs, few, each, fun p hp => bad p (by unfold faultC; rw [hp]), fun hn H1 l ms s1 nl hr1 hm pm od => ?_⟩
    have nar : a ≠ r := ne_of hc.lst hr0 (by intro z; cases z)
    have len : (refC ks).length = (ks.map (·.2)).length := by unfold refC; rw [List.length_map, List.length_map]
    refine ⟨_, rfl, _, rfl, a, _, rfl, .inl (SqL.of (s1 _ _ nar hc.lst)), n, _, rfl, fun nb => ?_, fun ok => ?_⟩
    · have lt : LetsB r E CI [("part", .int 0)] H := bad 0 (by
        unfold faultC
        rw [hn]
        show (if _ then _ else _) = _
        rw [if_neg (by rw [← len]; exact nb)])
      intro d H' nd hd sg
      have nd0 : H d = none := by
        cases z : H d with
        | none => rfl
        | some o =>
          have y : d ≠ r := fun e => by
            rw [e, hr1] at nd
            cases nd
          rw [s1 _ _ y z] at nd
          cases nd
      exact lt d H' nd0 hd (sb_trans s1 (same_sb sg))
    · refine ⟨_, rfl, _, rfl, r, C, dx, _, rfl, hr1, T.cl, T.nN, by show 2 < 1000; decide, ?_⟩
      have nlr : l ≠ r := ne_of hm.lst hr1 (by intro z; cases z)
      refine good (by unfold faultC; rw [hn]; exact if_pos (by rw [← len]; exact ok)) _ l ms (fun b o nb e => ?_) nl (by rw [upd_same]; rfl) ⟨?_, fun q hq => ?_⟩ pm od
      · rw [upd_ne nb]
        exact s1 _ _ nb e
      · rw [upd_ne nlr]
        exact hm.lst
      · rw [upd_ne (ne_of (hm.each q hq) hr1 (by intro z; cases z))]
        exact hm.each q hq
end
end Pm
namespace Pm
open PySem PySem.Spec PyProof.Rows L2 SX NdefX
theorem emp_S : ("" : Str) = S [] := by decide +kernel
def alphaL : List Nat := unS alphaS
theorem alphaL_S : S alphaL = alphaS := S_unS _
theorem alphaL_len : alphaL.length = 26 := by decide +kernel
/-- pairs of ints in the heap -/
def PairO (p : Int × Int) : HO := .tup [.int p.1, .int p.2]
structure PairsAt (H : Hp) (a : Addr) (ps : List (Addr × (Int × Int))) : Prop where
  lst : H a = some (.lst (ps.map fun q => V.ref q.1))
  each : ∀ q ∈ ps, H q.1 = some (PairO q.2)
def wideC (p : Int × Int) : Cnd := (p, alphaL)
section
variable {P : Program} {w : World} {K : PySem.W.Frag} {mg : Str → Option Value} {base : Heap} {C CI D : Addr}
def spSameInit (CI C : Addr) (K : PySem.W.Frag) : Sp := fun vs H Q E => ∃ r dx a ps n, vs = [.ref r, .ref a, .int n] ∧ H r = some (.ins C dx []) ∧ PairsAt H a ps ∧ ps.length ≤ 1000 ∧
  (∀ p, faultS (ps.map fun q => wideC q.2) n = some p → LetsB r E CI [("part", .int (p : Int))] H) ∧
  (faultS (ps.map fun q => wideC q.2) n = none → ∀ H' l ms, SameBut r H H' → H l = none → H' r = some (.ins C dx [("stone", .str ""), ("need", .int n), ("_conditions", .ref l)]) → CndsAt H' l ms → (ms.map (·.2)).Perm ((ps.map fun q => wideC q.2).map ascC) → Ord (ms.map (·.2)) → Q .non H')
abbrev nSameInit : List Str := ["self", "places", "need", "conditions", "dx", "dy"]
theorem scSameInit : FnScope nSameInit ["self", "places", "need"] (defScope cSameRuleInit) := ⟨rfl, rfl, rfl, by decide +kernel, rfl, by decide +kernel, by decide +kernel⟩
theorem ok_sameinit {f c o d : Addr} {fd dc do_ dd : FuncData} (F : Fun K "__init__" "SameRule.__init__" cSameRuleInit f fd) (Ck : Cl P w K mg base (L2.CX P w) 3 "_check_conditions" ["conditions"] (spCheck CI) c dc) (Io : Cl P w K mg base CX0 2 "_in_order" ["conditions"] spInOrder o do_)
    (Nd : Cl P w K mg base (L2.CX P w) 3 "_check_need" ["need", "count"] (spNeed CI) d dd) (L : LTxt K mg) (Tx : PTxt K mg D) (T : RCls K C) : FnOk P w K mg base (L2.CX P w) 5 f fd ["self", "places", "need"] (spSameInit CI C K) := by
  refine F.okX scSameInit (fun vs H Q E h => ?_) (fun cdv A outer s H vs Q E hr h => ?_)
  · obtain ⟨r, dx, a, ps, n, rfl, _⟩ := h
    rfl
  · obtain ⟨r, dx, a, ps, n, rfl, hr0, hp, few, bad, good⟩ := h
    obtain ⟨uS, hS, rS⟩ := Tx.stones
    have hr2 : Room 2 _ := hr.mono (by decide)
    have hr3 : Room 3 _ := hr.mono (by decide)
    refine ⟨_, (pss_cons (ps_setLc (i := 3) (own := [("dx", 4), ("dy", 5)]) (g := (gTup K 2 (gCons (gName 4) (gCons (gName 5) gNil)))) (tt := tYes) rfl scSameInit.nd rfl rfl (sw_true rfl rfl rfl (by decide +kernel)) (pi_list (pv 1)) (blkOk_by (own := [("dx", 4), ("dy", 5)]) (N := nSameInit) (sc := defScope cSameRuleInit) (by decide +kernel)) (fun _ _ _ _ _ => (pg_tup rfl (pgs_cons (pg_name (i := 4) scSameInit.nd rfl (.inl rfl)) (pgs_cons (pg_name (i := 5) scSameInit.nd rfl (.inl rfl)) pgs_nil)))) (fun _ _ _ _ _ => pts_nil) (fun _ _ _ _ _ => (pe_tup (pa_cons (pv 4) (pa_cons (pv 5) (pa_cons (pe_glob (by rfl) hS rS) pa_nil))))))
      (pss_cons (ps_expr (pe_callS (E := fun _ => E) Ck.ok hr3 (by rfl) Ck.gl Ck.kp Ck.bd (fun σ pins H s e s' I c => passes_call (takes_of rfl rfl rfl rfl) (fun _ _ _ _ z => z) pins σ H s e s' I c) (pa_cons (pv 3) pa_nil)))
      (pss_cons (ps_expr (pe_callS (E := fun _ => E) Nd.ok hr3 (by rfl) Nd.gl Nd.kp Nd.bd (fun σ pins H s e s' I c => passes_call (takes_of rfl rfl rfl rfl) (fun _ _ _ _ z => z) pins σ H s e s' I c) (pa_cons (pv 2) (pa_cons (pe_callB call_len_seq (by rfl) L.len PySem.boot_len (pa_cons (pv 3) pa_nil)) pa_nil))))
      (pss_cons (ps_fld (pv 0) pe_str rfl)
      (pss_cons (ps_fld (pv 0) (pv 2) rfl)
      (pss_one (ps_fld (pv 0) (pe_call Io.ok hr2 (by rfl) Io.gl Io.kp Io.bd .nil pass0 (pa_cons (pv 3) pa_nil)) rfl))))))), ?_⟩
    refine ⟨.ref a, rfl, a, rfl, ⟨_, SqL.of hp.lst⟩, fun D nD => lc_list (K := K) (a := a) (xs := ps.map fun q => V.ref q.1) (fun i G => ∃ ks : List (Addr × Cnd), Same H G ∧ G D = some (.lst (refC ks)) ∧ (∀ q ∈ ks, G q.1 = some (CondO q.2)) ∧ ks.map (·.2) = (ps.take i).map fun q => wideC q.2) ⟨[], same_upd nD, upd_same, (fun p hp => nomatch hp), rfl⟩ (fun i G _ ⟨ts, sm, _⟩ => SqL.of (sm _ _ hp.lst)) ?_ ?_⟩
    · rintro i x G hx ⟨ks, sm, hD, hks, ek⟩
      rw [List.getElem?_map] at hx
      obtain ⟨q, hi, rfl⟩ : ∃ q, ps[i]? = some q ∧ x = V.ref q.1 := by
        cases e : ps[i]? with
        | none =>
          rw [e] at hx
          cases hx
        | some p =>
          rw [e] at hx
          cases hx
          exact ⟨p, rfl, rfl⟩
      have htc := sm _ _ (hp.each q (List.mem_of_getElem? hi))
      have li : i < ps.length := (List.getElem?_eq_some_iff.mp hi).1
      refine ⟨q.1, _, rfl, SqT.of htc, rfl, _, _, rfl, _, _, rfl, rfl, rfl, ?_⟩
      refine tyes (iteT ⟨_, rfl, _, rfl, by show 3 ≤ sizeLine; decide, fun T nT => ?_⟩)
      have s3 := same_upd (o := .tup [.int q.2.1, .int q.2.2, .str alphaS]) nT
      have nDT : D ≠ T := ne_of_none hD nT
      refine ⟨refC ks, s3 _ _ hD, ?_, ks ++ [(T, wideC q.2)], fun b o e => ?_, ?_, fun p hp => ?_, ?_⟩
      · have := congrArg List.length ek
        rw [List.length_map, List.length_map, List.length_take] at this
        rw [show (refC ks).length = ks.length from List.length_map _]
        exact small1000 (by omega)
      · rw [upd_ne (ne_of_none e nD)]
        exact s3 _ _ (sm _ _ e)
      · rw [upd_same]
        unfold refC
        rw [List.map_append]
        rfl
      · rcases List.mem_append.mp hp with z | z
        · have y := s3 _ _ (hks p z)
          rw [upd_ne (fun e => ?_)]
          · exact y
          · rw [e, s3 _ _ hD] at y
            cases y
        · rw [List.mem_singleton.mp z]
          rw [upd_ne nDT.symm, upd_same]
          show _ = some (HO.tup [.int q.2.1, .int q.2.2, .str (S alphaL)])
          rw [alphaL_S]
      · rw [List.map_append, ek, List.take_add_one, hi, List.map_append]
        rfl
    · rintro G ⟨ks, sm, hD, hks, ek⟩
      rw [List.length_map, List.take_of_length_le (Nat.le_refl _)] at ek
      have lk : ks.length = ps.length := by
        have := congrArg List.length ek
        rwa [List.length_map, List.length_map] at this
      have hcG : CndsAt G D ks := ⟨hD, hks⟩
      have each : ∀ q ∈ ks, q.2.2.length ≤ 1000 := fun q hq => by
        have m : q.2 ∈ ks.map (·.2) := List.mem_map.mpr ⟨q, hq, rfl⟩
        rw [ek] at m
        obtain ⟨p, _, e⟩ := List.mem_map.mp m
        rw [← e]
        show alphaL.length ≤ 1000
        rw [alphaL_len]
        decide
      have back2 : ∀ {G2 : Hp}, Same H G2 → ∀ p, faultS (ps.map fun q => wideC q.2) n = some p → Lets E CI [("part", .int (p : Int))] G2 := fun {G2} sg p e d H' nd hd s => bad p e d H' (back sg nd) hd (same_sb (sg.trans s))
      refine ⟨_, rfl, D, ks, rfl, hcG, by omega, each, fun p hf => back2 sm p (by unfold faultS; rw [← ek, hf]), fun hn G1 s1 => ?_⟩
      have len : (refC ks).length = (ps.map fun q => wideC q.2).length := by
        unfold refC
        rw [List.length_map, List.length_map, lk]
      have hn2 : fstBad 1 [] (ps.map fun q => wideC q.2) = none := by rw [← ek]; exact hn
      refine ⟨_, rfl, _, rfl, D, _, rfl, .inl (SqL.of (s1 _ _ hD)), n, _, rfl, fun nb => back2 (sm.trans s1) 0 ?_, fun ok => ?_⟩
      · unfold faultS
        rw [hn2]
        exact if_neg (by rw [← len]; exact nb)
      have sG1 := sm.trans s1
      have hrG := sG1 _ _ hr0
      refine ⟨_, rfl, r, C, dx, [], rfl, hrG, T.cl, T.nS, by show 0 < 1000; decide, ?_⟩
      refine ⟨_, rfl, _, rfl, r, C, dx, _, rfl, upd_same, T.cl, T.nN, by show 1 < 1000; decide, ?_⟩
      have hcU : CndsAt (upd (upd G1 r (.ins C dx [("stone", .str "")])) r (.ins C dx [("stone", .str ""), ("need", .int n)])) D ks := by
        refine ⟨?_, fun q hq => ?_⟩
        · have ne := ne_of (s1 _ _ hD) hrG (by intro z; cases z)
          rw [upd_ne ne, upd_ne ne]
          exact s1 _ _ hD
        · have y := s1 _ _ (hks q hq)
          have ne := ne_of y hrG (by intro z; cases z)
          rw [upd_ne ne, upd_ne ne]
          exact y
      have nd : (ks.map fun q => q.2.1).Nodup := by
        have y := (fst_none hn).1
        rw [List.map_map] at y
        exact y
      refine ⟨_, rfl, D, ks, rfl, hcU, by omega, each, nd, fun l ms H2 s2 nl hm pm od => ?_⟩
      have hr2' : H2 r = some (.ins C dx [("stone", .str ""), ("need", .int n)]) := s2 _ _ upd_same
      refine ⟨_, rfl, r, C, dx, _, rfl, hr2', T.cl, T.nC, by show 2 < 1000; decide, ?_⟩
      have sbU : SameBut r H (upd (upd G1 r (.ins C dx [("stone", .str "")])) r (.ins C dx [("stone", .str ""), ("need", .int n)])) := fun b o nb e => by
        rw [upd_ne nb, upd_ne nb]
        exact sG1 _ _ e
      have nl0 : H l = none := by
        cases z : H l with
        | none => rfl
        | some o =>
          have y : l ≠ r := fun e => by
            have nl2 : upd (upd G1 r (.ins C dx [("stone", .str "")])) r (.ins C dx [("stone", .str ""), ("need", .int n)]) l = none := nl
            rw [e, upd_same] at nl2
            cases nl2
          have y2 := (sbU l _ y z).symm.trans nl
          cases y2
      have nlr : l ≠ r := ne_of hm.lst hr2' (by intro z; cases z)
      refine good (by unfold faultS; rw [hn2]; exact if_pos (by rw [← len]; exact ok)) _ l ms (fun b o nb e => ?_) nl0 (by rw [upd_same]; rfl) ⟨?_, fun q hq => ?_⟩ (by rw [← ek]; exact pm) od
      · rw [upd_ne nb]
        exact s2 _ _ (sbU b o nb e)
      · rw [upd_ne nlr]
        exact hm.lst
      · rw [upd_ne (ne_of (hm.each q hq) hr2' (by intro z; cases z))]
        exact hm.each q hq
end
end Pm
namespace Pm
open PySem PySem.Spec PyProof.Rows L2 SX NdefX
def lows : List Str := ["lays", "conditions", "KIND", "slack", "clashes", "fits", "written", "_condition_words"]
/-- a rule at r: kind 0 all, 1 count, 2 same -/
def RuleAt (C : Addr) (H : Hp) (r : Addr) (κ : Nat) (st : List Nat) (need : Int) (ms : List Cnd) : Prop := ∃ dx fs l ks, H r = some (.ins C dx fs) ∧ fs.lookup ("stone" : Str) = some (.str (S st)) ∧ fs.lookup ("_conditions" : Str) = some (.ref l) ∧ (κ ≠ 0 → fs.lookup ("need" : Str) = some (.int need)) ∧
  (∀ m ∈ lows, fs.lookup m = none) ∧ CndsAt H l ks ∧ ks.map (·.2) = ms
theorem RuleAt.same {C : Addr} {H H' : Hp} {r : Addr} {κ : Nat} {st : List Nat} {need : Int} {ms : List Cnd} (h : RuleAt C H r κ st need ms) (s : Same H H') : RuleAt C H' r κ st need ms := by
  obtain ⟨dx, fs, l, ks, a, b, c, d, e, f, g⟩ := h
  exact ⟨dx, fs, l, ks, s _ _ a, b, c, d, e, f.same s, g⟩
def laysB (κ : Nat) (st z : List Nat) : Bool := if κ = 2 then stoneB z else decide (z = st)
def condsOf (κ : Nat) (z : List Nat) (ms : List Cnd) : List Cnd := if κ = 2 then ms.map fun c => (c.1, z) else ms
def slackOf (κ : Nat) (need : Int) (ms : List Cnd) : Int := if κ = 0 then 0 else (ms.length : Int) - need
section
variable {P : Program} {w : World} {K : PySem.W.Frag} {mg : Str → Option Value} {base : Heap} {C CI CW D : Addr} {κ : Nat}
def spLenR (C : Addr) (κ : Nat) : Sp := fun vs H Q _ => ∃ r st need ms, vs = [.ref r] ∧ RuleAt C H r κ st need ms ∧ Q (.int (ms.length : Int)) H
theorem scLenR : FnScope ["self"] ["self"] (defScope cRuleLen) := ⟨rfl, rfl, rfl, by decide +kernel, rfl, by decide +kernel, by decide +kernel⟩
theorem ok_lenR {f : Addr} {fd : FuncData} (F : Fun K "__len__" "Rule.__len__" cRuleLen f fd) (T : RCls K C) (L : LTxt K mg) : FnOk P w K mg base CX0 1 f fd ["self"] (spLenR C κ) := by
  refine F.ok scLenR (fun vs H Q E h => ?_) (fun cdv A outer s H vs Q E hr h => ?_)
  · obtain ⟨r, st, need, ms, rfl, _⟩ := h
    rfl
  · obtain ⟨r, st, need, ms, rfl, ⟨dx, fs, l, ks, hr0, h1, h2, h3, h4, hc, ek⟩, k⟩ := h
    refine ⟨_, (pss_one (ps_ret (pe_callB call_len_seq (by rfl) L.len PySem.boot_len (pa_cons (pe_fld (pv 0) rfl) pa_nil)))), ?_⟩
    refine ⟨_, rfl, r, C, dx, fs, _, rfl, hr0, T.cl, T.nC, h2, l, _, rfl, .inl (SqL.of hc.lst), ?_⟩
    rw [← ek, List.length_map] at k
    rw [show (refC ks).length = ks.length from List.length_map _]
    exact k
end
end Pm
namespace Pm
open PySem PySem.Spec PyProof.Rows L2 SX NdefX
theorem hu65r {A : Around} {k : Nat} (hr : Room k A) : A.units + 65 < cLine := by
  have := hr.un
  omega
structure BTx (mg : Str → Option Value) : Prop where
  bool : mg "bool" = none
  tup : mg "tuple" = none
  str : mg "str" = none
/-- offsets as data -/
def dP (c : Int × Int) : PyData := .tuple [.int c.1, .int c.2]
theorem dP_eqv (c d : Int × Int) : PyData.eqv (dP c) (dP d) = decide (c = d) := by
  obtain ⟨x, y⟩ := c
  obtain ⟨u, v⟩ := d
  simp [dP, PyData.eqv, PyData.eqvAll]
  rfl
theorem dP_shaped (c : Int × Int) : SeqAt.shaped (dP c) = true := by
  simp [dP, SeqAt.shaped, PyData.canLay0, PyData.canLayAll0, PyData.depth, PyData.depthAll]
theorem dPs_lay : ∀ M : List (Int × Int), PyData.canLayAll0 (M.map dP) = true
  | [] => rfl
  | c :: M => by simp [PyData.canLayAll0, dP, PyData.canLay0, dPs_lay M]
theorem dPs_depth : ∀ M : List (Int × Int), PyData.depthAll (M.map dP) ≤ 1
  | [] => by simp [PyData.depthAll]
  | c :: M => by
    have := dPs_depth M
    simp [PyData.depthAll, dP, PyData.depth]
    omega
theorem dPs_shaped (M : List (Int × Int)) : SeqAt.shaped (.list (M.map dP)) = true := by
  have := dPs_depth M
  simp [SeqAt.shaped, PyData.canLay0, dPs_lay M, PyData.depth]
  omega
theorem dPs_any (M : List (Int × Int)) (c : Int × Int) : ((M.map dP).any fun z => PyData.eqv z (dP c)) = decide (c ∈ M) := by
  rw [List.any_map]
  rw [Bool.eq_iff_iff, List.any_eq_true, decide_eq_true_eq]
  constructor
  · rintro ⟨d, hd, e⟩
    have e : PyData.eqv (dP d) (dP c) = true := e
    rw [dP_eqv, decide_eq_true_eq] at e
    rw [← e]
    exact hd
  · intro h
    exact ⟨c, h, by show PyData.eqv (dP c) (dP c) = true; rw [dP_eqv]; simp⟩
section
variable {P : Program} {w : World} {K : PySem.W.Frag} {mg : Str → Option Value} {base : Heap} {C CI CW D : Addr} {κ : Nat}
def spIsI : Sp := fun vs H Q _ => ∃ n, vs = [.int n] ∧ Q (.bl true) H
theorem scIsI : FnScope ["_law_value"] ["_law_value"] (defScope lIsInt) := ⟨rfl, rfl, rfl, by decide +kernel, rfl, by decide +kernel, by decide +kernel⟩
theorem ok_isI {f : Addr} {fd : FuncData} (F : Fun K "_law_is_int" "_law_is_int" lIsInt f fd) (L : LTxt K mg) (B : BTx mg) : FnOk P w K mg base CX0 1 f fd ["_law_value"] spIsI := by
  refine F.ok scIsI (fun vs H Q E h => ?_) (fun cdv A outer s H vs Q E hr h => ?_)
  · obtain ⟨n, rfl, _⟩ := h
    rfl
  · obtain ⟨n, rfl, q⟩ := h
    refine ⟨_, (pss_one (ps_ret (pe_and (pe_callB call_isi (by rfl) L.isi (by decide +kernel) (pa_cons (pv 0) (pa_cons (pe_bltn (v := .ty "int") (by rfl) L.int (by decide +kernel) rfl) pa_nil))) (pe_one (pe_not (pe_callB call_isi (by rfl) L.isi (by decide +kernel) (pa_cons (pv 0) (pa_cons (pe_bltn (v := .ty "bool") (by rfl) B.bool (by decide +kernel) rfl) pa_nil)))))))), ?_⟩
    refine ⟨_, rfl, .int n, .ty "int", .type "int", .type "int", true, rfl, .ty _, .base (.int n), kit_ty (by decide +kernel), true, rfl, ?_⟩
    exact ⟨_, rfl, .int n, .ty "bool", .type "int", .type "bool", false, rfl, .ty _, .base (.int n), kit_ty (by decide +kernel), false, rfl, q⟩
def spOffset : Sp := fun vs H Q _ => ∃ b l, vs = [.ref b] ∧ BagL H b l ∧ ∀ t p H', placeB p = true → SameBut b H H' → BagL H' b l → H t = none → H' t = some (PairO p) → Q (.ref t) H'
theorem scOffset : FnScope ["_law_bag_here", "_law_spot"] ["_law_bag_here"] (defScope lOffset) := ⟨rfl, rfl, rfl, by decide +kernel, rfl, by decide +kernel, by decide +kernel⟩
theorem spots : ∀ n : Int, 0 ≤ n → n < 8 → ∃ v : Int, atI [V.int 16, V.int 17, V.int 18, V.int 23, V.int 24, V.int 29, V.int 30, V.int 31] n = some (.int v) ∧ 0 ≤ v ∧ v < 48 := by
  intro n h0 h1
  obtain ⟨j, rfl⟩ : ∃ j : Nat, n = (j : Int) := ⟨n.toNat, by omega⟩
  have hj : j < 8 := by omega
  match j, hj with
  | 0, _ => exact ⟨16, rfl, by decide, by decide⟩
  | 1, _ => exact ⟨17, rfl, by decide, by decide⟩
  | 2, _ => exact ⟨18, rfl, by decide, by decide⟩
  | 3, _ => exact ⟨23, rfl, by decide, by decide⟩
  | 4, _ => exact ⟨24, rfl, by decide, by decide⟩
  | 5, _ => exact ⟨29, rfl, by decide, by decide⟩
  | 6, _ => exact ⟨30, rfl, by decide, by decide⟩
  | 7, _ => exact ⟨31, rfl, by decide, by decide⟩
theorem bag_sb {H H' : Hp} {b l : Addr} (h : BagL H b l) (s : Same H H') : BagL H' b l := by
  obtain ⟨ns, i, p, q, hb, hl, r⟩ := h
  exact ⟨ns, i, p, q, s _ _ hb, s _ _ hl, r⟩
theorem sb_none {b t : Addr} {H H' : Hp} {l : Addr} (hb : BagL H b l) (hb2 : BagL H' b l) (s : SameBut b H H') (h : H' t = none) : H t = none := by
  obtain ⟨xs, e⟩ := bag_b hb
  refine but_back e s (fun z => ?_) h
  obtain ⟨ys, e2⟩ := bag_b hb2
  rw [z, e2] at h
  cases h
theorem ok_offset {f t : Addr} {fd td : FuncData} (F : Fun K "_law_offset" "_law_offset" lOffset f fd) (T : Cl P w K mg base CX0 1 "_law_take" tkNames spTake t td) (L : LTxt K mg) : FnOk P w K mg base CX0 2 f fd ["_law_bag_here"] spOffset := by
  refine F.ok scOffset (fun vs H Q E h => ?_) (fun cdv A outer s H vs Q E hr h => ?_)
  · obtain ⟨b, l, rfl, _⟩ := h
    rfl
  · obtain ⟨b, l, rfl, hb, k⟩ := h
    refine ⟨_, pss_cons (ps_set (i := 1) scOffset.nd rfl (.inl rfl) (pe_call T.ok hr (by rfl) T.gl T.kp T.bd .nil pass0 (pa_cons (pv 0) (pa_cons pe_int pa_nil)))) (C8.pss_cut (ps_if (pt_cmpR op_gt (pe_call T.ok hr (by rfl) T.gl T.kp T.bd .nil pass0 (pa_cons (pv 0) (pa_cons pe_int pa_nil))) pe_int (nomark _)) (pss_one (ps_set (i := 1) scOffset.nd rfl (.inl rfl) (pe_ix ix_list (pe_lst (pa_cons pe_int (pa_cons pe_int (pa_cons pe_int (pa_cons pe_int (pa_cons pe_int (pa_cons pe_int (pa_cons pe_int (pa_cons pe_int pa_nil))))))))) (pe_op op_mod (pe_callTy call_int1 (by rfl) L.int (by decide +kernel) (pa_cons (pv 1) pa_nil)) pe_int) (fun _ _ => rfl)))) pss_nil) (pss_cons (ps_set (i := 1) scOffset.nd rfl (.inl rfl) (pe_op op_add (pv 1) (pe_callTy call_int1 (by rfl) L.int (by decide +kernel) (pa_cons (pe_cmpR op_gt (pv 1) pe_int (nomark _)) pa_nil))))
      (pss_one (ps_ret (pe_tup (pa_cons (pe_op op_sub (pe_op op_mod (pe_callTy call_int1 (by rfl) L.int (by decide +kernel) (pa_cons (pv 1) pa_nil)) pe_int) pe_int) (pa_cons (pe_op op_sub (pe_op op_fdiv (pv 1) pe_int) pe_int) pa_nil))))))), ?_⟩
    refine ⟨_, rfl, b, l, 48, rfl, hb, by decide, by decide, fun n H1 n0 n1 u1 b1 => ?_⟩
    refine ⟨fun σ G => ∃ m : Int, σ = [some (.ref b), some (.int m)] ∧ 0 ≤ m ∧ m < 48 ∧ SameBut b H G ∧ BagL G b l, ?_, ?_⟩
    · refine ⟨_, rfl, b, l, 3, rfl, b1, by decide, by decide, fun m H2 m0 m1 u2 b2 => ⟨_, _, rfl, rfl, _, rfl, ite2 (fun _ => ?_) (fun _ => ⟨n, rfl, n0, n1, but_same (u1.trans u2), b2⟩)⟩⟩
      refine ⟨by show 8 ≤ sizeLine; decide, fun p np => ⟨_, rfl, .inl ⟨_, rfl, _, _, rfl, rfl, (by show (0 : Int) < 8; decide), ?_⟩⟩⟩
      obtain ⟨v, ev, v0, v1⟩ := spots _ (Int.emod_nonneg n (show (8 : Int) ≠ 0 by decide)) (Int.emod_lt_of_pos n (show (0 : Int) < 8 by decide))
      refine ⟨p, _, _, _, rfl, rfl, SqL.of upd_same, ev, v, rfl, v0, v1, fun a o na e => ?_, ?_⟩
      · have y := but_same (u1.trans u2) a o na e
        rw [upd_ne (ne_of_none y np)]
        exact y
      · exact bag_upd b2 np
    · rintro σ G ⟨m, rfl, m0, m1, sG, bG⟩
      refine ⟨_, rfl, _, rfl, _, _, rfl, rfl, .inr ⟨_, rfl, _, _, rfl, rfl, ?_⟩⟩
      have spot : ∃ v : Int, m + (if decide (23 < m) = true then 1 else 0) = v ∧ 0 ≤ v ∧ v < 49 ∧ v ≠ 24 := by
        refine ⟨_, rfl, ?_⟩
        by_cases c : 23 < m
        · rw [decide_eq_true c]
          simp
          omega
        · rw [decide_eq_false c]
          simp
          omega
      obtain ⟨v, ev, v0, v1, v24⟩ := spot
      refine ⟨_, rfl, .inl ⟨_, rfl, _, _, rfl, rfl, (by show (0 : Int) < 7; decide), _, _, rfl, rfl, _, rfl, _, _, rfl, rfl, ⟨by decide, by decide⟩, _, _, rfl, rfl, (by show 2 ≤ sizeLine; decide), fun t nt => ?_⟩⟩
      have y := k t (v % 7 - 3, v / 7 - 3) _ ?_ (fun a o na e => ?_) (bag_upd (o := PairO (v % 7 - 3, v / 7 - 3)) bG nt) (sb_none hb bG sG nt) upd_same
      · rw [← ev] at y
        exact y
      · unfold placeB
        have h1 := Int.emod_nonneg v (show (7 : Int) ≠ 0 by decide)
        have h2 := Int.emod_lt_of_pos v (show (0 : Int) < 7 by decide)
        have h3 : 0 ≤ v / 7 := Int.ediv_nonneg v0 (by decide)
        have h4 : v / 7 < 7 := Int.ediv_lt_of_lt_mul (by decide) (by omega)
        simp only [Bool.and_eq_true, Bool.or_eq_true, decide_eq_true_eq]
        refine ⟨⟨by omega, by omega⟩, ⟨by omega, by omega⟩, ?_⟩
        by_cases z : v % 7 = 3
        · right
          omega
        · left
          omega
      · have y := sG a o na e
        rw [upd_ne (ne_of_none y nt)]
        exact y
end
end Pm
namespace Pm
open PySem PySem.Spec PyProof.Rows L2 SX NdefX
/-- drawn signs of a condition -/
structure Sgn (y : List Nat) : Prop where
  ne : y ≠ []
  nd : y.Nodup
  all : ∀ c ∈ y, c = 35 ∨ Let c
  few : y.length ≤ 3
theorem Sgn.diff {y : List Nat} (h : Sgn y) : diffB 35 y = true := by
  unfold diffB
  rw [decide_eq_true h.ne, decide_eq_true h.nd, Bool.true_and, Bool.true_and, List.all_eq_true]
  intro c m
  rcases h.all c m with e | e
  · rw [decide_eq_true e]
    rfl
  · rw [decide_eq_true e, Bool.or_true]
theorem pal_at {z : List Nat} (h : Pal z) {n : Int} (n0 : 0 ≤ n) (n3 : n < 3) : ∃ c, atI z n = some c ∧ Let c := by
  obtain ⟨j, rfl⟩ : ∃ j : Nat, n = (j : Int) := ⟨n.toNat, by omega⟩
  have hj : j < z.length := by rw [h.len]; omega
  exact ⟨z[j], atI_nat (List.getElem?_eq_getElem hj), h.good (List.getElem_mem hj)⟩
theorem CndsAt.sb {H H' : Hp} {b l p : Addr} {ks : List (Addr × Cnd)} (h : CndsAt H p ks) (pb : p ≠ b) (hb : BagL H b l) (s : SameBut b H H') : CndsAt H' p ks := by
  obtain ⟨xs, e⟩ := bag_b hb
  exact ⟨s _ _ pb h.lst, fun q hq => s _ _ (ne_of (h.each q hq) e (by intro z; cases z)) (h.each q hq)⟩
def kindT (κ : Nat) : Str := if κ = 0 then "all" else if κ = 1 then "count" else "same"
structure GoodR (κ : Nat) (hue : Nat) (cs : List Cnd) (need : Int) : Prop where
  k3 : κ < 3
  hue : Let hue
  few : cs.length ≤ 8
  nd : (cs.map (·.1)).Nodup
  each : ∀ c ∈ cs, placeB c.1 = true ∧ Sgn c.2
  n0 : 0 ≤ need
  n1 : need ≤ (cs.length : Int)
  all : κ = 0 → need = (cs.length : Int)
/-- the law's own rule at t, its parts at pl -/
structure RuleT (H : Hp) (t pl : Addr) (κ hue : Nat) (ks : List (Addr × Cnd)) (need : Int) : Prop where
  at_ : H t = some (.tup [.str (kindT κ), .str (S [hue]), .ref pl, .int need])
  cs : CndsAt H pl ks
  good : GoodR κ hue (ks.map (·.2)) need
theorem RuleT.same {H H' : Hp} {t pl : Addr} {κ hue : Nat} {ks : List (Addr × Cnd)} {need : Int} (h : RuleT H t pl κ hue ks need) (s : Same H H') : RuleT H' t pl κ hue ks need := ⟨s _ _ h.at_, h.cs.same s, h.good⟩
section
variable {P : Program} {w : World} {K : PySem.W.Frag} {mg : Str → Option Value} {base : Heap} {C CI CW D : Addr} {κ : Nat}
def spSigns : Sp := fun vs H Q _ => ∃ b l z, vs = [.ref b, .str (S z)] ∧ BagL H b l ∧ Pal z ∧ ∀ y H', Sgn y → But b H H' → BagL H' b l → Q (.str (S y)) H'
theorem scSigns : FnScope ["_law_bag_here", "_law_palette_here", "_law_signs_here", "_law_other"] ["_law_bag_here", "_law_palette_here"] (defScope lSigns) := ⟨rfl, rfl, rfl, by decide +kernel, rfl, by decide +kernel, by decide +kernel⟩
theorem ok_signs {f t : Addr} {fd td : FuncData} (F : Fun K "_law_signs" "_law_signs" lSigns f fd) (T : Cl P w K mg base CX0 1 "_law_take" tkNames spTake t td) : FnOk P w K mg base CX0 2 f fd ["_law_bag_here", "_law_palette_here"] spSigns := by
  refine F.ok scSigns (fun vs H Q E h => ?_) (fun cdv A outer s H vs Q E hr h => ?_)
  · obtain ⟨b, l, z, rfl, _⟩ := h
    rfl
  · obtain ⟨b, l, z, rfl, hb, hz, k⟩ := h
    refine ⟨_, pss_cons (ps_set (i := 2) scSigns.nd rfl (.inl rfl) (pe_ix ix_str (pv 1) (pe_call T.ok hr (by rfl) T.gl T.kp T.bd .nil pass0 (pa_cons (pv 0) (pa_cons pe_int pa_nil))) (fun _ _ => rfl))) (pss_cons (ps_set (i := 3) scSigns.nd rfl (.inl rfl) (pe_ix ix_str (pv 1) (pe_call T.ok hr (by rfl) T.gl T.kp T.bd .nil pass0 (pa_cons (pv 0) (pa_cons pe_int pa_nil))) (fun _ _ => rfl))) (C8.pss_cut (ps_if (PW.pt (pw_and (pt_cmpR op_eq (pe_call T.ok hr (by rfl) T.gl T.kp T.bd .nil pass0 (pa_cons (pv 0) (pa_cons pe_int pa_nil))) pe_int (nomark _)) (pw_and1 (pt_cmpR op_notIn_sign (pv 3) (pv 2) (by rfl))))) (pss_one (ps_set (i := 2) scSigns.nd rfl (.inl rfl) (pe_op op_add_str (pv 3) (pv 2)))) pss_nil) (pss_cons (ps_if (pt_cmpR op_eq (pe_call T.ok hr (by rfl) T.gl T.kp T.bd .nil pass0 (pa_cons (pv 0) (pa_cons pe_int pa_nil))) pe_int (nomark _)) (pss_one (ps_set (i := 2) scSigns.nd rfl (.inl rfl) (pe_op op_add_str (pv 2) pe_str))) pss_nil)
      (pss_one (ps_ret (pv 2)))))), ?_⟩
    have lz : (S z).length ≤ sizeLine := by rw [len_S, hz.len]; exact small_line (by decide)
    refine ⟨_, rfl, _, rfl, b, l, 3, rfl, hb, by decide, by decide, fun n H1 n0 n1 u1 b1 => ?_⟩
    obtain ⟨c, ec, hc⟩ := pal_at hz n0 n1
    refine ⟨_, n, c, rfl, rfl, lz, ec, ?_⟩
    refine ⟨_, rfl, _, rfl, b, l, 3, rfl, b1, by decide, by decide, fun n2 H2 p0 p1 u2 b2 => ?_⟩
    obtain ⟨d, ed, hd⟩ := pal_at hz p0 p1
    refine ⟨_, n2, d, rfl, rfl, lz, ed, ?_⟩
    refine ⟨fun σ G => ∃ y, σ = [some (.ref b), some (.str (S z)), some (.str (S y)), some (.str (S [d]))] ∧ y ≠ [] ∧ y.Nodup ∧ (∀ c ∈ y, Let c) ∧ y.length ≤ 2 ∧ But b H G ∧ BagL G b l, ?_, ?_⟩
    · refine ⟨_, rfl, b, l, 3, rfl, b2, by decide, by decide, fun n3 H3 _ _ u3 b3 => ⟨rfl, _, rfl, ite2 (fun _ => ?_) (fun _ => ⟨[c], rfl, by simp, by simp, by simpa using hc, (by show 1 ≤ 2; decide), (u1.trans u2).trans u3, b3⟩)⟩⟩
      refine ⟨_, rfl, _, rfl, d, S [c], rfl, rfl, _, rfl, ?_⟩
      by_cases e : d = c
      · refine iteFe (by rw [e]; simp) ⟨[c], rfl, by simp, by simp, by simpa using hc, (by show 1 ≤ 2; decide), (u1.trans u2).trans u3, b3⟩
      · refine iteTe (by simp [e]) ⟨_, rfl, _, rfl, _, _, rfl, rfl, (by rw [len_S, len_S]; show 1 + 1 ≤ sizeLine; decide), [d, c], ?_, by simp, by simp [e], ?_, (by show 2 ≤ 2; decide), (u1.trans u2).trans u3, b3⟩
        · exact congrArg (fun x => [some (V.ref b), some (V.str (S z)), some (V.str x), some (V.str (S [d]))]) (S_cat [d] [c])
        · intro x m
          rcases List.mem_cons.mp m with e | m
          · rw [e]
            exact hd
          · rw [List.mem_singleton.mp m]
            exact hc
    · rintro σ G ⟨y, rfl, y0, y1, y2, y3, uG, bG⟩
      refine ⟨_, rfl, b, l, 4, rfl, bG, by decide, by decide, fun n3 H3 _ _ u3 b3 => ⟨rfl, _, rfl, ite2 (fun _ => ?_) (fun _ => ⟨_, rfl, k y H3 ⟨y0, y1, fun c m => .inr (y2 c m), by omega⟩ (uG.trans u3) b3⟩)⟩⟩
      refine ⟨_, rfl, _, _, rfl, rfl, ?_, _, rfl, ?_⟩
      · rw [len_S]
        show y.length + 1 ≤ sizeLine
        exact small_line (by omega)
      · have e : S y ++ ("#" : Str) = S (y ++ [35]) := by rw [hash_S, S_cat]
        have q := k (y ++ [35]) H3 ⟨by simp, ?_, fun c m => ?_, by rw [List.length_append, List.length_singleton]; omega⟩ (uG.trans u3) b3
        · rw [← e] at q
          exact q
        · rw [List.nodup_append]
          refine ⟨y1, by simp, fun a ha c hc e2 => ?_⟩
          have hl := y2 a ha
          rw [e2, List.mem_singleton.mp hc] at hl
          unfold Let at hl
          omega
        · rcases List.mem_append.mp m with m | m
          · exact .inr (y2 c m)
          · exact .inl (List.mem_singleton.mp m)
def spParts : Sp := fun vs H Q _ => ∃ b l z, vs = [.ref b, .str (S z)] ∧ BagL H b l ∧ Pal z ∧ ∀ p ks H', SameBut b H H' → BagL H' b l → H p = none → CndsAt H' p ks → ks.length ≤ 8 → (ks.map fun q => q.2.1).Nodup → (∀ q ∈ ks, placeB q.2.1 = true ∧ Sgn q.2.2) → Q (.ref p) H'
abbrev nParts : List Str := ["_law_bag_here", "_law_palette_here", "_law_many", "_law_parts_here", "_law_k", "_law_offset_here", "_law_signs_here", "_law_part"]
theorem scParts : FnScope nParts ["_law_bag_here", "_law_palette_here"] (defScope lParts) := ⟨rfl, rfl, rfl, by decide +kernel, rfl, by decide +kernel, by decide +kernel⟩
theorem ok_parts {f t o g : Addr} {fd td od gd : FuncData} (F : Fun K "_law_parts" "_law_parts" lParts f fd) (T : Cl P w K mg base CX0 1 "_law_take" tkNames spTake t td) (O : Cl P w K mg base CX0 2 "_law_offset" ["_law_bag_here"] spOffset o od) (Sg : Cl P w K mg base CX0 2 "_law_signs" ["_law_bag_here", "_law_palette_here"] spSigns g gd) (L : LTxt K mg) :
    FnOk P w K mg base CX0 3 f fd ["_law_bag_here", "_law_palette_here"] spParts := by
  refine F.ok scParts (fun vs H Q E h => ?_) (fun cdv A outer s H vs Q E hr h => ?_)
  · obtain ⟨b, l, z, rfl, _⟩ := h
    rfl
  · obtain ⟨b, l, z, rfl, hb, hz, k⟩ := h
    have hr1 : Room 1 _ := hr.mono (by decide)
    refine ⟨_, pss_cons (ps_set (i := 2) scParts.nd rfl (.inl rfl) (pe_call T.ok hr1 (by rfl) T.gl T.kp T.bd .nil pass0 (pa_cons (pv 0) (pa_cons pe_int pa_nil)))) (C8.pss_cut (ps_if (pt_cmpR op_eq (pe_call T.ok hr1 (by rfl) T.gl T.kp T.bd .nil pass0 (pa_cons (pv 0) (pa_cons pe_int pa_nil))) pe_int (nomark _)) (pss_one (ps_set (i := 2) scParts.nd rfl (.inl rfl) pe_int)) pss_nil) (pss_cons (ps_set (i := 3) scParts.nd rfl (.inl rfl) (pe_lst pa_nil))
      (pss_cons (ps_for PassesOwn.never rfl (pi_range1 (by rfl) L.rng (pa_cons (pv 2) pa_nil)) (pg_name (i := 4) scParts.nd rfl (.inl rfl)) (pss_cons (ps_set (i := 5) scParts.nd rfl (.inl rfl) (pe_call O.ok hr (by rfl) O.gl O.kp O.bd .nil pass0 (pa_cons (pv 0) pa_nil)))
        (pss_cons (ps_set (i := 6) scParts.nd rfl (.inl rfl) (pe_call Sg.ok hr (by rfl) Sg.gl Sg.kp Sg.bd .nil pass0 (pa_cons (pv 0) (pa_cons (pv 1) pa_nil))))
        (pss_one (ps_if (pt_cmpR (op_notInD (hu65r hr)) (pv 5) (pe_lc (own := [("_law_part", 7)]) (g := (gName 7)) (tt := tYes) (te := (tTup (tCons (tOp (rIxT K) (tVar 7) (tC (.int 0))) (tCons (tOp (rIxT K) (tVar 7) (tC (.int 1))) tNil)))) rfl scParts.nd (pi_list (pv 3)) (blkOk_by (own := [("_law_part", 7)]) (N := nParts) (sc := defScope lParts) (by decide +kernel)) (fun _ _ _ _ _ => (pg_name (i := 7) scParts.nd rfl (.inl rfl))) (fun _ _ _ _ _ => pts_nil) (fun _ _ _ _ _ => (pe_tup (pa_cons (by exact pe_ix ix_tup (pv 7) pe_int (fun _ _ => rfl)) (pa_cons (by exact pe_ix ix_tup (pv 7) pe_int (fun _ _ => rfl)) pa_nil))))) (by rfl)) (pss_one (ps_expr (pe_bm PySem.F.plainAttrs_list PySem.F.slot_list_append PySem.F.type_list_append mt_append (pv 3) (pa_cons (pe_tup (pa_cons (pe_ix ix_tup (pv 5) pe_int (fun _ _ => rfl)) (pa_cons (pe_ix ix_tup (pv 5) pe_int (fun _ _ => rfl)) (pa_cons (pv 6) pa_nil)))) pa_nil)))) pss_nil)))))
      (pss_one (ps_ret (pv 3)))))), ?_⟩
    refine ⟨_, rfl, b, l, 4, rfl, hb, by decide, by decide, fun n H1 n0 n1 u1 b1 => ?_⟩
    refine ⟨fun σ G => ∃ m : Int, σ = [some (.ref b), some (.str (S z)), some (.int m), none, none, none, none, none] ∧ 0 ≤ m ∧ m ≤ 8 ∧ But b H G ∧ BagL G b l, ?_, ?_⟩
    · exact ⟨_, rfl, b, l, 9, rfl, b1, by decide, by decide, fun n3 H3 _ _ u3 b3 => ⟨rfl, _, rfl, ite2 (fun _ => ⟨8, rfl, by decide, by decide, u1.trans u3, b3⟩) (fun _ => ⟨n, rfl, n0, by omega, u1.trans u3, b3⟩)⟩⟩
    · rintro σ G ⟨m, rfl, m0, m8, uG, bG⟩
      refine ⟨by decide, fun p np => ?_⟩
      have np0 : H p = none := sb_none hb bG (but_same uG) np
      refine ⟨_, rfl, m, rfl, by omega, by omega, for_range (lo := 0) (n := m.toNat) (fun i σ G => ∃ y4 y5 y6 ks, σ = [some (.ref b), some (.str (S z)), some (.int m), some (.ref p), y4, y5, y6, none] ∧ ks.length ≤ i ∧ (ks.map fun q : Addr × Cnd => q.2.1).Nodup ∧ (∀ q ∈ ks, placeB q.2.1 = true ∧ Sgn q.2.2) ∧ (∀ a o, a ≠ b → H a = some o → G a = some o) ∧ BagL G b l ∧ CndsAt G p ks)
        ⟨_, _, _, [], rfl, Nat.le_refl _, List.nodup_nil, (fun q m => nomatch m), fun a o na e => ?_, bag_upd bG np, ⟨upd_same, fun q m => nomatch m⟩⟩ ?_ ?_⟩
      · have y := but_same uG a o na e
        rw [upd_ne (ne_of_none y np)]
        exact y
      · rintro i σ G1 hi ⟨y4, y5, y6, ks, rfl, lk, nd, gk, sG, bG1, hc⟩
        have pb : p ≠ b := fun e => by
          obtain ⟨xs, e2⟩ := bag_b hb
          rw [e, e2] at np0
          cases np0
        refine ⟨_, rfl, b, l, rfl, bG1, fun t c G2 pc s2 b2 nt ht => ?_⟩
        have hc2 := hc.sb pb bG1 s2
        have tb : t ≠ b := fun e => by
          obtain ⟨xs, e2⟩ := bag_b bG1
          rw [e, e2] at nt
          cases nt
        refine ⟨_, rfl, _, rfl, b, l, z, rfl, b2, hz, fun y G3 gy u3 b3 => ?_⟩
        have hc3 := hc2.sb pb b2 (but_same u3)
        have ht3 := (u3 t tb).trans ht
        refine ⟨_, rfl, .ref p, rfl, p, rfl, ⟨_, SqL.of hc3.lst⟩, fun D nD => lc_list (K := K) (a := p) (xs := refC ks) (fun i G => ∃ ps : List (Addr × (Int × Int)), Same G3 G ∧ G D = some (.lst (ps.map fun q => V.ref q.1)) ∧ (∀ q ∈ ps, G q.1 = some (PairO q.2)) ∧ ps.map (·.2) = (ks.take i).map fun q => q.2.1) ⟨[], same_upd nD, upd_same, (fun p hp => nomatch hp), rfl⟩ (fun i G _ ⟨ts, sm, _⟩ => SqL.of (sm _ _ hc3.lst)) ?_ ?_⟩
        · rintro j x G hx ⟨ps, sm, hD, hps, ep⟩
          obtain ⟨t2, c2, hj, rfl⟩ := refC_at hx
          have htc := sm _ _ (hc3.each _ (List.mem_of_getElem? hj))
          have lj : j < ks.length := (List.getElem?_eq_some_iff.mp hj).1
          refine ⟨rfl, tyes (iteT ⟨_, rfl, t2, _, 0, _, rfl, rfl, SqT.of htc, rfl, _, rfl, t2, _, 1, _, rfl, rfl, SqT.of htc, rfl, by show 2 ≤ sizeLine; decide, fun T' nT => ?_⟩)⟩
          have s3 := same_upd (o := .tup [.int c2.1.1, .int c2.1.2]) nT
          have nDT : D ≠ T' := ne_of_none hD nT
          refine ⟨ps.map fun q => V.ref q.1, s3 _ _ hD, ?_, ps ++ [(T', c2.1)], fun a o e => ?_, ?_, fun q hq => ?_, ?_⟩
          · have := congrArg List.length ep
            rw [List.length_map, List.length_map, List.length_take] at this
            rw [List.length_map]
            exact small1000 (by omega)
          · rw [upd_ne (ne_of_none e nD)]
            exact s3 _ _ (sm _ _ e)
          · rw [upd_same, List.map_append]
            rfl
          · rcases List.mem_append.mp hq with y' | y'
            · have y2 := s3 _ _ (hps q y')
              rw [upd_ne (fun e => ?_)]
              · exact y2
              · rw [e, s3 _ _ hD] at y2
                cases y2
            · rw [List.mem_singleton.mp y']
              rw [upd_ne nDT.symm, upd_same]
              rfl
          · rw [List.map_append, ep, List.take_add_one, hj, List.map_append]
            rfl
        · rintro G4 ⟨ps, sm, hD, hps, ep⟩
          rw [show (refC ks).length = ks.length from List.length_map _, List.take_of_length_le (Nat.le_refl _)] at ep
          have dps : DpAll K G4 (ps.map fun q => V.ref q.1) ((ps.map (·.2)).map dP) := by
            clear ep hD
            induction ps with
            | nil => exact .nil
            | cons q ps ih => exact .cons (.tup (SqT.of (hps q List.mem_cons_self)) (.cons (.int _) (.cons (.int _) .nil))) (ih fun q' m => hps q' (List.mem_cons_of_mem _ m))
          refine ⟨dP c, _, .tup (SqT.of (sm _ _ ht3)) (.cons (.int _) (.cons (.int _) .nil)), .lst (SqL.of hD) dps, dP_shaped c, dPs_shaped _, _, rfl, ?_⟩
          rw [dPs_any, ep]
          have sAll : ∀ a o, a ≠ b → H a = some o → G4 a = some o := fun a o na e => sm _ _ ((u3 a na).trans (s2 a o na (sG a o na e)))
          have bG4 := bag_sb b3 sm
          have hc4 := hc3.same sm
          by_cases new : c ∈ ks.map fun q => q.2.1
          · refine iteFe (by rw [decide_eq_true new]; rfl) ?_
            exact ⟨_, _, _, ks, rfl, by omega, nd, gk, sAll, bG4, hc4⟩
          · refine iteTe (by rw [decide_eq_false new]; rfl) ?_
            refine ⟨_, rfl, .inl ⟨rfl, _, SqL.of hc4.lst⟩, _, rfl, t, _, 0, _, rfl, rfl, SqT.of (sm _ _ ht3), rfl, _, rfl, t, _, 1, _, rfl, rfl, SqT.of (sm _ _ ht3), rfl, _, rfl, by show 3 ≤ sizeLine; decide, fun T' nT => ?_⟩
            have s5 := same_upd (o := .tup [.int c.1, .int c.2, .str (S y)]) nT
            have nTb : T' ≠ b := fun e => by
              obtain ⟨xs, e2⟩ := bag_b bG4
              rw [e, e2] at nT
              cases nT
            have npT : p ≠ T' := ne_of_none hc4.lst nT
            have bl : p ≠ l := fun e => by
              obtain ⟨xs, e2⟩ := bag_l hb
              rw [e, e2] at np0
              cases np0
            refine ⟨p, _, _, rfl, rfl, s5 _ _ hc4.lst, ?_, _, _, _, ks ++ [(T', (c, y))], rfl, ?_, ?_, fun q hq => ?_, fun a o na e => ?_, bag_ne (bag_sb bG4 s5) pb bl, ?_, fun q hq => ?_⟩
            · rw [show (refC ks).length = ks.length from List.length_map _]
              exact small1000 (by omega)
            · rw [List.length_append, List.length_singleton]
              omega
            · rw [List.map_append]
              rw [List.nodup_append]
              refine ⟨nd, by simp, fun a ha d hd e2 => ?_⟩
              have hd : d = c := by simpa using hd
              rw [e2, hd] at ha
              exact new ha
            · rcases List.mem_append.mp hq with m' | m'
              · exact gk q m'
              · rw [List.mem_singleton.mp m']
                exact ⟨pc, gy⟩
            · rw [upd_ne (ne_of_none e np0)]
              exact s5 _ _ (sAll a o na e)
            · rw [upd_same]
              unfold refC
              rw [List.map_append]
              rfl
            · rcases List.mem_append.mp hq with m' | m'
              · have y2 := s5 _ _ (hc4.each q m')
                rw [upd_ne (fun e => ?_)]
                · exact y2
                · rw [e, s5 _ _ hc4.lst] at y2
                  cases y2
              · rw [List.mem_singleton.mp m']
                rw [upd_ne npT.symm, upd_same]
                rfl
      · rintro σ G1 ⟨y4, y5, y6, ks, rfl, lk, nd, gk, sG, bG1, hc⟩
        exact ⟨_, rfl, k p ks G1 sG bG1 np0 hc (by omega) nd gk⟩
end
end Pm
namespace Pm
open PySem PySem.Spec PyProof.Rows L2 SX NdefX
theorem kinds_at : ∀ n : Int, 0 ≤ n → n < 3 → ∃ κ : Nat, κ < 3 ∧ n = (κ : Int) ∧ atI [V.str "all", V.str "count", V.str "same"] n = some (.str (kindT κ)) := by
  intro n h0 h1
  obtain ⟨j, rfl⟩ : ∃ j : Nat, n = (j : Int) := ⟨n.toNat, by omega⟩
  have hj : j < 3 := by omega
  match j, hj with
  | 0, _ => exact ⟨0, by decide, rfl, rfl⟩
  | 1, _ => exact ⟨1, by decide, rfl, rfl⟩
  | 2, _ => exact ⟨2, by decide, rfl, rfl⟩
theorem kind_all {κ : Nat} (h : κ < 3) : decide (V.str (kindT κ) = V.str "all") = decide (κ = 0) := by
  match κ, h with
  | 0, _ => decide +kernel
  | 1, _ => decide +kernel
  | 2, _ => decide +kernel
theorem kind_count {κ : Nat} (h : κ < 3) : decide (V.str (kindT κ) = V.str "count") = decide (κ = 1) := by
  match κ, h with
  | 0, _ => decide +kernel
  | 1, _ => decide +kernel
  | 2, _ => decide +kernel
theorem kind_same {κ : Nat} (h : κ < 3) : decide (V.str (kindT κ) = V.str "same") = decide (κ = 2) := by
  match κ, h with
  | 0, _ => decide +kernel
  | 1, _ => decide +kernel
  | 2, _ => decide +kernel
section
variable {P : Program} {w : World} {K : PySem.W.Frag} {mg : Str → Option Value} {base : Heap} {C CI CW D : Addr} {κ : Nat}
def spRule : Sp := fun vs H Q _ => ∃ b l z, vs = [.ref b, .str (S z)] ∧ BagL H b l ∧ Pal z ∧ ∀ t pl κ hue ks need H', SameBut b H H' → BagL H' b l → RuleT H' t pl κ hue ks need → t ≠ b → pl ≠ b → Q (.ref t) H'
abbrev nRule : List Str := ["_law_bag_here", "_law_palette_here", "_law_kind", "_law_hue", "_law_parts_here", "_law_need"]
theorem scRule : FnScope nRule ["_law_bag_here", "_law_palette_here"] (defScope lRule) := ⟨rfl, rfl, rfl, by decide +kernel, rfl, by decide +kernel, by decide +kernel⟩
theorem ok_rule {f t p : Addr} {fd td pd : FuncData} (F : Fun K "_law_rule" "_law_rule" lRule f fd) (T : Cl P w K mg base CX0 1 "_law_take" tkNames spTake t td) (Pa : Cl P w K mg base CX0 3 "_law_parts" ["_law_bag_here", "_law_palette_here"] spParts p pd) (L : LTxt K mg) : FnOk P w K mg base CX0 4 f fd ["_law_bag_here", "_law_palette_here"] spRule := by
  refine F.ok scRule (fun vs H Q E h => ?_) (fun cdv A outer s H vs Q E hr h => ?_)
  · obtain ⟨b, l, z, rfl, _⟩ := h
    rfl
  · obtain ⟨b, l, z, rfl, hb, hz, k⟩ := h
    have hr1 : Room 1 _ := hr.mono (by decide)
    refine ⟨_, (pss_cons (ps_set (i := 2) scRule.nd rfl (.inl rfl) (pe_ix ix_list (pe_lst (pa_cons pe_str (pa_cons pe_str (pa_cons pe_str pa_nil)))) (pe_call T.ok hr1 (by rfl) T.gl T.kp T.bd .nil pass0 (pa_cons (pv 0) (pa_cons pe_int pa_nil))) (fun _ _ => rfl)))
      (pss_cons (ps_set (i := 3) scRule.nd rfl (.inl rfl) (pe_ix ix_str (pv 1) (pe_call T.ok hr1 (by rfl) T.gl T.kp T.bd .nil pass0 (pa_cons (pv 0) (pa_cons pe_int pa_nil))) (fun _ _ => rfl)))
      (pss_cons (ps_set (i := 4) scRule.nd rfl (.inl rfl) (pe_call Pa.ok hr (by rfl) Pa.gl Pa.kp Pa.bd .nil pass0 (pa_cons (pv 0) (pa_cons (pv 1) pa_nil))))
      (pss_cons (ps_set (i := 5) scRule.nd rfl (.inl rfl) (pe_call T.ok hr1 (by rfl) T.gl T.kp T.bd .nil pass0 (pa_cons (pv 0) (pa_cons (pe_op op_add (pe_callB call_len_seq (by rfl) L.len PySem.boot_len (pa_cons (pv 4) pa_nil)) pe_int) pa_nil))))
      (pss_cons (ps_if (pt_cmpR op_eq (pv 2) pe_str (nomark _)) (pss_one (ps_set (i := 5) scRule.nd rfl (.inl rfl) (pe_callB call_len_seq (by rfl) L.len PySem.boot_len (pa_cons (pv 4) pa_nil)))) pss_nil)
      (pss_one (ps_ret (pe_tup (pa_cons (pv 2) (pa_cons (pv 3) (pa_cons (pv 4) (pa_cons (pv 5) pa_nil)))))))))))), ?_⟩
    have lz : (S z).length ≤ sizeLine := by rw [len_S, hz.len]; exact small_line (by decide)
    refine ⟨by show 3 ≤ sizeLine; decide, fun q nq => ?_⟩
    have b0 := bag_upd (o := .lst [.str "all", .str "count", .str "same"]) hb nq
    have qb : q ≠ b := fun e => by
      obtain ⟨xs, e2⟩ := bag_b hb
      rw [e, e2] at nq
      cases nq
    refine ⟨_, rfl, b, l, 3, rfl, b0, by decide, by decide, fun n H1 n0 n1 u1 b1 => ?_⟩
    obtain ⟨κ, k3, rfl, ek⟩ := kinds_at n n0 n1
    refine ⟨q, _, _, _, rfl, rfl, SqL.of ((u1 q qb).trans upd_same), ek, ?_⟩
    refine ⟨_, rfl, _, rfl, b, l, 3, rfl, b1, by decide, by decide, fun n2 H2 p0 p1 u2 b2 => ?_⟩
    obtain ⟨d, ed, hd⟩ := pal_at hz p0 p1
    refine ⟨_, n2, d, rfl, rfl, lz, ed, ?_⟩
    refine ⟨_, rfl, _, rfl, b, l, z, rfl, b2, hz, fun pl ks H3 s3 b3 np hc few nd gd => ?_⟩
    have lk : (refC ks).length = ks.length := List.length_map _
    have plb : pl ≠ b := fun e => by
      obtain ⟨xs, e2⟩ := bag_b b2
      rw [e, e2] at np
      cases np
    refine ⟨_, rfl, _, rfl, pl, _, rfl, .inl (SqL.of hc.lst), _, _, rfl, rfl, b, l, _, rfl, b3, by rw [lk]; omega, by rw [lk]; omega, fun m H4 m0 m1 u4 b4 => ?_⟩
    rw [lk] at m1
    have hc4 := hc.sb plb b3 (but_same u4)
    have s02 : SameBut b H H2 := fun a o na e => but_same (u1.trans u2) a o na (same_upd nq _ _ e)
    have s04 : SameBut b H H4 := fun a o na e => but_same u4 a o na (s3 a o na (s02 a o na e))
    have fin : ∀ (m : Int), 0 ≤ m → m ≤ (ks.length : Int) → (κ = 0 → m = (ks.length : Int)) → 4 ≤ sizeLine ∧ ∀ p, H4 p = none → Q (.ref p) (upd H4 p (.tup [.str (kindT κ), .str (S [d]), .ref pl, .int m])) := fun m m0 m1 m2 => by
      refine ⟨by decide, fun t nt => ?_⟩
      have st := same_upd (o := .tup [.str (kindT κ), .str (S [d]), .ref pl, .int m]) nt
      refine k t pl κ d ks m _ (fun a o na e => st _ _ (s04 a o na e)) (bag_sb b4 st) ⟨upd_same, hc4.same st, ⟨k3, hd, by rw [List.length_map]; exact few, ?_, fun c hcm => ?_, m0, by rw [List.length_map]; exact m1, fun e => by rw [List.length_map]; exact m2 e⟩⟩ (fun e => ?_) plb
      · rw [List.map_map]
        exact nd
      · obtain ⟨q', mq, rfl⟩ := List.mem_map.mp hcm
        exact gd q' mq
      · obtain ⟨xs, e2⟩ := bag_b b4
        rw [e, e2] at nt
        cases nt
    refine ⟨_, rfl, rfl, _, rfl, ?_⟩
    rw [kind_all k3]
    by_cases e0 : κ = 0
    · refine iteTe (decide_eq_true e0) ⟨_, rfl, pl, _, rfl, .inl (SqL.of hc4.lst), ?_⟩
      rw [lk]
      exact ⟨_, rfl, _, rfl, _, rfl, _, rfl, fin _ (by omega) (Int.le_refl _) fun _ => rfl⟩
    · refine iteFe (decide_eq_false e0) ?_
      exact ⟨_, rfl, _, rfl, _, rfl, _, rfl, fin m m0 (by omega) fun e => absurd e e0⟩
/-! ### what the law says of its rule -/
theorem scLetter : FnScope ["_law_text"] ["_law_text"] (defScope lIsLetter) := ⟨rfl, rfl, rfl, by decide +kernel, rfl, by decide +kernel, by decide +kernel⟩
theorem ok_letter {f : Addr} {fd : FuncData} (F : Fun K "_law_is_letter" "_law_is_letter" lIsLetter f fd) (L : LTxt K mg) : FnOk P w K mg base CX0 1 f fd ["_law_text"] spStone := by
  refine F.ok scLetter (fun vs H Q E h => ?_) (fun cdv A outer s H vs Q E hr h => ?_)
  · obtain ⟨z, rfl, _⟩ := h
    rfl
  · obtain ⟨z, rfl, few, k⟩ := h
    refine ⟨_, (pss_one (ps_ret (pe_and (pe_cmpR op_eq (pe_callB call_len_str (by rfl) L.len PySem.boot_len (pa_cons (pv 0) pa_nil)) pe_int (nomark _)) (pe_one (pe_cmpR op_in_sign (pv 0) pe_str (by rfl)))))), ?_⟩
    refine ⟨_, rfl, _, rfl, by rw [len_S]; exact small_line few, rfl, _, rfl, ite2 (fun e => ?_) (fun e => ?_)⟩
    · have e1 : z.length = 1 := by
        have := of_decide_eq_true e
        simp only [V.int.injEq] at this
        rw [len_S] at this
        omega
      obtain ⟨c, rfl⟩ := len_one e1
      refine ⟨_, rfl, c, _, rfl, rfl, ?_⟩
      have y : decide (c ∈ alphaS.cps.toList) = stoneB [c] := decide_eq_decide.mpr (alpha_mem c)
      rw [y]
      exact k
    · have e1 : z.length ≠ 1 := fun y => e (decide_eq_true (by rw [len_S, y]; rfl))
      rw [stoneB_ne e1] at k
      exact k
end
end Pm
namespace Pm
open PySem PySem.Spec PyProof.Rows L2 SX NdefX
/-! ### len of an own object -/
structure OwnF (K : PySem.W.Frag) (C : Addr) (m : Str) (f : Addr) : Prop where
  at_ : PySem.W.findIn K (.ref C) m = some (some (.ref f))
  fn : PySem.W.isFn K (.ref f) = true
section
variable {X : Cx} {CX : CXT} {k : Nat} {f C : Addr} {fd : FuncData} {ps : List Str} {sp : Sp} {E : XK} {pins : List (Addr × Obj)} {σ : L2.St} {H : Hp} {s : Shared} {κ : Nat}
/-- a def called from any place around with the same frames -/
theorem run_inR {A : Around} {Q : VK} {us : List Value} {vs : List V} (F : FnOk X.prog X.w X.K X.mg X.base CX k f fd ps sp) (hr : Room k A) (fr : A.frames = X.A.frames) (hb : Binds X.K fd ps []) (hx : Passes CX X E) (I : L2.Inv X pins σ H s)
    (r : Vals vs us) (h : sp vs H Q E) : wpAny (model X.prog X.w) A (call (.ref f) us) (EP X pins σ Q) X.xe s := by
  have e0 : Env0 X.prog X.w X.K X.mg X.base A X.stack s H := by
    have e := I.env0
    exact ⟨by rw [fr]; exact e.frames, e.mod, e.bs, e.bsz, e.funs, e.frf, e.hok, e.bare⟩
  have hl := F.len _ _ _ _ h
  refine wpAny_call (codeAny_mono (F.run A X.stack s H ⟨us, []⟩ us vs _ E hr e0 (by
    have := hb s us I.kIn (by rw [List.append_nil, ← r.length]; exact hl)
    simpa using this) r h) fun q s' hq => ?_)
  cases q with
  | error e => exact hx pins σ H s e s' I hq
  | ok fl =>
    cases fl with
    | ret u => exact I.after hq
    | next => exact False.elim hq
    | brk => exact False.elim hq
    | cont => exact False.elim hq
def rLenRu (C : Addr) (κ : Nat) : List V → Hp → VK → Prop := fun xs H Q => ∃ r st need ms, xs = [.ref r] ∧ RuleAt C H r κ st need ms ∧ ms.length ≤ 1000 ∧ Q (.int (ms.length : Int)) H
theorem call_lenRu (O : FnOk X.prog X.w X.K X.mg X.base CX0 k f fd ["self"] (spLenR C κ)) (hr : Room (k + 1) X.A) (b : Binds X.K fd ["self"] []) (m : OwnF X.K C "__len__" f) : CallR X (.builtin "len") (rLenRu C κ) := by
  intro pins s σ H xs us Q I r h
  obtain ⟨r0, st, need, ms, rfl, hR, few, q⟩ := h
  rw [Vals.ref1 r]
  have hR0 := hR
  obtain ⟨dx, fs, l, ks, hr0, _⟩ := hR
  obtain ⟨mA, O1, _⟩ := ins_get I.hok hr0
  obtain ⟨od, J, _⟩ := O1.look
  obtain ⟨mm, hF⟩ := I.fr
  refine PySem.W.len_K hF I.ok.mod.kin J m.at_ m.fn ?_
  refine wpAny_mono (run_inR (Q := fun v H' => v = .int (ms.length : Int) ∧ H' = H) (E := E0) (vs := [.ref r0]) O hr.in1 rfl b pass0 I (.cons rfl .nil) ⟨r0, st, need, ms, rfl, hR0, rfl, rfl⟩) (fun v s' z => ?_) fun _ _ z => z
  obtain ⟨v', H', I', rv, rfl, rfl⟩ := z
  obtain ⟨t, rfl⟩ := rv
  exact ⟨⟨by omega, by omega⟩, .int (ms.length : Int), H', I'.tok _, ⟨_, rfl⟩, q⟩
end
/-! ### a good rule has no fault -/
theorem fst_good : ∀ {cs : List Cnd} {i : Nat} {seen : List (Int × Int)}, (cs.map (·.1)).Nodup → (∀ c ∈ cs, c.1 ∉ seen) → (∀ c ∈ cs, placeB c.1 = true ∧ diffB 35 c.2 = true) → i + cs.length ≤ 9 → fstBad i seen cs = none
  | [], _, _, _, _, _, _ => rfl
  | c :: r, i, seen, nd, ns, ok, few => by
    rw [fst_step]
    have h1 : badAt i seen c = false := by
      unfold badAt
      obtain ⟨a, b⟩ := ok c List.mem_cons_self
      rw [a, b, decide_eq_false (ns c List.mem_cons_self), decide_eq_false (by rw [List.length_cons] at few; omega)]
      rfl
    rw [h1]
    rw [List.map_cons, List.nodup_cons] at nd
    refine fst_good nd.2 (fun d m => ?_) (fun d m => ok d (List.mem_cons_of_mem _ m)) (by rw [List.length_cons] at few; omega)
    intro m2
    rcases List.mem_cons.mp m2 with e | e
    · exact nd.1 (e ▸ List.mem_map.mpr ⟨d, m, rfl⟩)
    · exact ns d (List.mem_cons_of_mem _ m) e
theorem stone_good {hue : Nat} (h : Let hue) : stoneB [hue] = true := by
  show decide (Let hue) = true
  exact decide_eq_true h
theorem GoodR.fst {κ hue : Nat} {cs : List Cnd} {need : Int} (h : GoodR κ hue cs need) : fstBad 1 [] cs = none := fst_good h.nd (fun _ _ m => nomatch m) (fun c m => ⟨(h.each c m).1, ((h.each c m).2).diff⟩) (by have := h.few; omega)
theorem GoodR.faultR {κ hue : Nat} {cs : List Cnd} {need : Int} (h : GoodR κ hue cs need) : faultR [hue] cs = none := by
  unfold Pm.faultR
  rw [stone_good h.hue, h.fst]
  rfl
theorem GoodR.faultC {κ hue : Nat} {cs : List Cnd} {need : Int} (h : GoodR κ hue cs need) : faultC [hue] cs need = none := by
  unfold Pm.faultC
  rw [h.faultR]
  exact if_pos ⟨h.n0, h.n1⟩
theorem GoodR.faultS {κ hue : Nat} {cs : List Cnd} {need : Int} (h : GoodR κ hue cs need) : faultS (cs.map fun c => wideC c.1) need = none := by
  unfold Pm.faultS
  have e : fstBad 1 [] (cs.map fun c => wideC c.1) = none := by
    refine fst_good ?_ (fun _ _ m => nomatch m) (fun c m => ?_) (by have := h.few; rw [List.length_map]; omega)
    · rw [List.map_map]
      exact h.nd
    · obtain ⟨d, hd, rfl⟩ := List.mem_map.mp m
      exact ⟨(h.each d hd).1, by show diffB 35 alphaL = true; decide +kernel⟩
  rw [e, List.length_map]
  exact if_pos ⟨h.n0, h.n1⟩
/-! ### pairs of a rule's parts -/
theorem pairMore {ks : List (Addr × Cnd)} {G G3 H0 : Hp} {D T tt : Addr} {c : Cnd} {i : Nat} {ns : List (Addr × (Int × Int))} (lm : ks.length ≤ 1000) (nD : H0 D = none) (sm : Same H0 G) (hD : G D = some (.lst (ns.map fun q => V.ref q.1))) (hns : ∀ q ∈ ns, G q.1 = some (PairO q.2))
    (en : ns.map (·.2) = (ks.take i).map fun q => q.2.1) (hi : ks[i]? = some (tt, c)) (s3 : Same G G3) (nT : G3 T = none) :
    (ns.map fun q => V.ref q.1).length < sizeLine ∧ ∃ ns' : List (Addr × (Int × Int)), Same H0 (upd (upd G3 T (PairO c.1)) D (.lst ((ns.map fun q => V.ref q.1) ++ [.ref T]))) ∧
      upd (upd G3 T (PairO c.1)) D (.lst ((ns.map fun q => V.ref q.1) ++ [.ref T])) D = some (.lst (ns'.map fun q => V.ref q.1)) ∧ (∀ q ∈ ns', upd (upd G3 T (PairO c.1)) D (.lst ((ns.map fun q => V.ref q.1) ++ [.ref T])) q.1 = some (PairO q.2)) ∧ ns'.map (·.2) = (ks.take (i + 1)).map fun q => q.2.1 := by
  have s4 := s3.trans (same_upd (o := PairO c.1) nT)
  have nDT : D ≠ T := ne_of_none (s3 _ _ hD) nT
  have li : i < ks.length := (List.getElem?_eq_some_iff.mp hi).1
  refine ⟨?_, ns ++ [(T, c.1)], fun b o e => ?_, ?_, fun q hq => ?_, ?_⟩
  · have e1 := congrArg List.length en
    rw [List.length_map, List.length_map, List.length_take] at e1
    rw [show (ns.map fun q => V.ref q.1).length = ns.length from List.length_map _]
    exact small1000 (by omega)
  · rw [upd_ne (ne_of_none e nD)]
    exact s4 _ _ (sm _ _ e)
  · rw [upd_same, List.map_append]
    rfl
  · rcases List.mem_append.mp hq with z | z
    · have y := s4 _ _ (hns q z)
      rw [upd_ne (fun e => ?_)]
      · exact y
      · rw [e, s4 _ _ hD] at y
        cases y
    · rw [List.mem_singleton.mp z]
      rw [upd_ne nDT.symm, upd_same]
  · rw [List.map_append, en, List.take_add_one, hi, List.map_append]
    rfl
theorem made_same {C : Addr} {H : Hp} {x dx : Addr} (nx : H x = none) (nd : H dx = none) : Same H (upd (upd H dx (.own x)) x (.ins C dx [])) := fun b o e => by
  rw [upd_ne (ne_of_none e nx), upd_ne (ne_of_none e nd)]
  exact e
theorem made_but {C : Addr} {H H' : Hp} {x dx : Addr} (nx : H x = none) (nd : H dx = none) (s : SameBut x (upd (upd H dx (.own x)) x (.ins C dx [])) H') : Same H H' := fun b o e => by
  have ne : b ≠ x := ne_of_none e nx
  exact s b o ne (made_same nx nd _ _ e)
/-! ### the classes of the three kinds -/
def clsOf (CR CC CS : Addr) (κ : Nat) : Addr := if κ = 0 then CR else if κ = 1 then CC else CS
structure Ctor (P : Program) (w : World) (K : PySem.W.Frag) (mg : Str → Option Value) (base : Heap) (C : Addr) (n : Nat) (ps : List Str) (sp : Sp) (f : Addr) (fd : FuncData) : Prop where
  M : Mk K C f
  ok : FnOk P w K mg base (L2.CX P w) n f fd ps sp
  bd : Binds K fd ps []
  T : RCls K C
/-! ### the law's own rule, good or not -/
structure RuleX (H : Hp) (t pl : Addr) (κ : Nat) (st : List Nat) (ks : List (Addr × Cnd)) (need : Int) : Prop where
  at_ : H t = some (.tup [.str (kindT κ), .str (S st), .ref pl, .int need])
  cs : CndsAt H pl ks
  k3 : κ < 3
  fst : st.length ≤ 1000
  few : ks.length ≤ 1000
  each : ∀ q ∈ ks, q.2.2.length ≤ 1000
theorem RuleX.same {H H' : Hp} {t pl : Addr} {κ : Nat} {st : List Nat} {ks : List (Addr × Cnd)} {need : Int} (h : RuleX H t pl κ st ks need) (s : Same H H') : RuleX H' t pl κ st ks need := ⟨s _ _ h.at_, h.cs.same s, h.k3, h.fst, h.few, h.each⟩
def faultOf (κ : Nat) (st : List Nat) (cs : List Cnd) (need : Int) : Option Nat := if κ = 0 then faultR st cs else if κ = 1 then faultC st cs need else faultS (cs.map fun c => wideC c.1) need
theorem letsB_made {E : XK} {D C : Addr} {fs : List (Str × V)} {H H0 : Hp} {x dx : Addr} (h : Lets E D fs H) (s : Same H H0) (nx : H0 x = none) (nd : H0 dx = none) : LetsB x E D fs (upd (upd H0 dx (.own x)) x (.ins C dx [])) := fun d G n hd sb => h d G (back (s.trans (made_same nx nd)) n) hd (s.trans (made_but nx nd sb))
structure GTx (mg : Str → Option Value) (CR CC CS : Addr) : Prop where
  gR : mg "Rule" = some (.ref CR)
  gC : mg "CountRule" = some (.ref CC)
  gS : mg "SameRule" = some (.ref CS)
section
variable {P : Program} {w : World} {K : PySem.W.Frag} {mg : Str → Option Value} {base : Heap} {C CI CW CE CR CC CS D : Addr} {κ : Nat}
theorem low2 {a b : V} : ∀ m ∈ lows, List.lookup m [(("stone" : Str), a), ("_conditions", b)] = none := by
  intro m hm
  simp only [lows, List.mem_cons, List.not_mem_nil, or_false] at hm
  rcases hm with rfl | rfl | rfl | rfl | rfl | rfl | rfl | rfl <;> rfl
theorem low3 {a b c : V} : ∀ m ∈ lows, List.lookup m [(("stone" : Str), a), ("_conditions", b), ("need", c)] = none := by
  intro m hm
  simp only [lows, List.mem_cons, List.not_mem_nil, or_false] at hm
  rcases hm with rfl | rfl | rfl | rfl | rfl | rfl | rfl | rfl <;> rfl
theorem low3s {a b c : V} : ∀ m ∈ lows, List.lookup m [(("stone" : Str), a), ("need", b), ("_conditions", c)] = none := by
  intro m hm
  simp only [lows, List.mem_cons, List.not_mem_nil, or_false] at hm
  rcases hm with rfl | rfl | rfl | rfl | rfl | rfl | rfl | rfl <;> rfl
def spMadeE (CI CR CC CS : Addr) : Sp := fun vs H Q E => ∃ t pl κ st ks need, vs = [.ref t] ∧ RuleX H t pl κ st ks need ∧ (∀ p, faultOf κ st (ks.map (·.2)) need = some p → Lets E CI [("part", .int (p : Int))] H) ∧
  (faultOf κ st (ks.map (·.2)) need = none → ∀ r st2 ms H', Same H H' → RuleAt (clsOf CR CC CS κ) H' r κ st2 need ms → ms.length = ks.length → Q (.ref r) H')
abbrev nMade : List Str := ["_law_rule_here", "_law_part"]
theorem scMade : FnScope nMade ["_law_rule_here"] (defScope lMade) := ⟨rfl, rfl, rfl, by decide +kernel, rfl, by decide +kernel, by decide +kernel⟩
theorem ok_madeE {f fR fC fS : Addr} {fd dR dC dS : FuncData} (F : Fun K "_law_made" "_law_made" lMade f fd) (L : LTxt K mg) (Gt : GTx mg CR CC CS) (kR : Ctor P w K mg base CR 4 ["self", "stone", "conditions"] (spRuleInit CI K) fR dR)
    (kC : Ctor P w K mg base CC 5 ["self", "stone", "conditions", "need"] (spCountInit CI CC K) fC dC) (kS : Ctor P w K mg base CS 5 ["self", "places", "need"] (spSameInit CI CS K) fS dS) :
    FnOk P w K mg base (L2.CX P w) 7 f fd ["_law_rule_here"] (spMadeE CI CR CC CS) := by
  refine F.okX scMade (fun vs H Q E h => ?_) (fun cdv A outer s H vs Q E hr h => ?_)
  · obtain ⟨t, pl, κ, st, ks, need, rfl, _⟩ := h
    rfl
  · obtain ⟨t, pl, κ, st, ks, need, rfl, hT, bad, k⟩ := h
    have hr5 : Room 5 _ := hr.mono (by decide)
    refine ⟨_, (pss_cons (ps_if (pt_cmpR op_eq (pe_ix ix_tup (pv 0) pe_int (fun _ _ => rfl)) pe_str (nomark _)) (pss_one (ps_ret (pe_makeS (E := fun _ => E) kR.M kR.ok hr5 (by rfl) Gt.gR kR.bd (fun σ pins H s e s' I c => passes_call (takes_of rfl rfl rfl rfl) (fun _ _ _ _ z => z) pins σ H s e s' I c) (pa_cons (pe_ix ix_tup (pv 0) pe_int (fun _ _ => rfl)) (pa_cons (pe_callTy call_list_of (by rfl) L.lst (by decide +kernel) (pa_cons (pe_ix ix_tup (pv 0) pe_int (fun _ _ => rfl)) pa_nil)) pa_nil))))) pss_nil)
      (pss_cons (ps_if (pt_cmpR op_eq (pe_ix ix_tup (pv 0) pe_int (fun _ _ => rfl)) pe_str (nomark _)) (pss_one (ps_ret (pe_makeS (E := fun _ => E) kC.M kC.ok hr (by rfl) Gt.gC kC.bd (fun σ pins H s e s' I c => passes_call (takes_of rfl rfl rfl rfl) (fun _ _ _ _ z => z) pins σ H s e s' I c) (pa_cons (pe_ix ix_tup (pv 0) pe_int (fun _ _ => rfl)) (pa_cons (pe_callTy call_list_of (by rfl) L.lst (by decide +kernel) (pa_cons (pe_ix ix_tup (pv 0) pe_int (fun _ _ => rfl)) pa_nil)) (pa_cons (pe_ix ix_tup (pv 0) pe_int (fun _ _ => rfl)) pa_nil)))))) pss_nil)
      (pss_one (ps_ret (pe_makeS (E := fun _ => E) kS.M kS.ok hr (by rfl) Gt.gS kS.bd (fun σ pins H s e s' I c => passes_call (takes_of rfl rfl rfl rfl) (fun _ _ _ _ z => z) pins σ H s e s' I c) (pa_cons (pe_lc (own := [("_law_part", 1)]) (g := (gName 1)) (tt := tYes) (te := (tTup (tCons (tOp (rIxT K) (tVar 1) (tC (.int 0))) (tCons (tOp (rIxT K) (tVar 1) (tC (.int 1))) tNil)))) rfl scMade.nd (pi_list (pe_ix ix_tup (pv 0) pe_int (fun _ _ => rfl))) (blkOk_by (own := [("_law_part", 1)]) (N := nMade) (sc := defScope lMade) (by decide +kernel)) (fun _ _ _ _ _ => (pg_name (i := 1) scMade.nd rfl (.inl rfl))) (fun _ _ _ _ _ => pts_nil) (fun _ _ _ _ _ => (pe_tup (pa_cons (by exact pe_ix ix_tup (pv 1) pe_int (fun _ _ => rfl)) (pa_cons (by exact pe_ix ix_tup (pv 1) pe_int (fun _ _ => rfl)) pa_nil))))) (pa_cons (pe_ix ix_tup (pv 0) pe_int (fun _ _ => rfl)) pa_nil))))))), ?_⟩
    refine ⟨_, rfl, t, _, 0, _, rfl, rfl, SqT.of hT.at_, rfl, rfl, _, rfl, ?_⟩
    have k3 := hT.k3
    rw [kind_all k3]
    have few := hT.few
    by_cases k0 : κ = 0
    · refine iteTe (decide_eq_true k0) ?_
      subst k0
      refine ⟨_, rfl, t, _, 1, _, rfl, rfl, SqT.of hT.at_, rfl, _, rfl, t, _, 2, _, rfl, rfl, SqT.of hT.at_, rfl, pl, _, rfl, .inl (SqL.of hT.cs.lst), fun q nq r dx nx nd ne => ?_⟩
      refine ⟨r, dx, CR, st, q, ks, rfl, kR.T, upd_same, ⟨made_same nx nd _ _ upd_same, fun p m => made_same nx nd _ _ (same_upd nq _ _ (hT.cs.each p m))⟩, hT.fst, few, hT.each, fun p e => letsB_made (bad p e) (same_upd nq) nx nd, fun ok H' l ms sb nl hr' hc' pm od => ⟨rfl, ?_⟩⟩
      exact k ok r st _ H' ((same_upd nq).trans (made_but nx nd sb)) ⟨dx, _, l, ms, hr', rfl, rfl, fun n => absurd rfl n, low2, hc', rfl⟩ (by rw [pm.length_eq, List.length_map, List.length_map])
    · refine iteFe (decide_eq_false k0) ?_
      refine ⟨_, rfl, t, _, 0, _, rfl, rfl, SqT.of hT.at_, rfl, rfl, _, rfl, ?_⟩
      rw [kind_count k3]
      by_cases k1 : κ = 1
      · refine iteTe (decide_eq_true k1) ?_
        subst k1
        refine ⟨_, rfl, t, _, 1, _, rfl, rfl, SqT.of hT.at_, rfl, _, rfl, t, _, 2, _, rfl, rfl, SqT.of hT.at_, rfl, pl, _, rfl, .inl (SqL.of hT.cs.lst), fun q nq => ?_⟩
        refine ⟨_, rfl, t, _, 3, _, rfl, rfl, SqT.of (same_upd nq _ _ hT.at_), rfl, fun r dx nx nd ne => ?_⟩
        refine ⟨r, dx, st, q, ks, need, rfl, upd_same, ⟨made_same nx nd _ _ upd_same, fun p m => made_same nx nd _ _ (same_upd nq _ _ (hT.cs.each p m))⟩, hT.fst, few, hT.each, fun p e => letsB_made (bad p e) (same_upd nq) nx nd, fun ok H' l ms sb nl hr' hc' pm od => ⟨rfl, ?_⟩⟩
        exact k ok r st _ H' ((same_upd nq).trans (made_but nx nd sb)) ⟨dx, _, l, ms, hr', rfl, rfl, fun _ => rfl, low3, hc', rfl⟩ (by rw [pm.length_eq, List.length_map, List.length_map])
      · have k2 : κ = 2 := by omega
        subst k2
        refine iteFe (decide_eq_false k1) ?_
        refine ⟨_, rfl, t, _, 2, _, rfl, rfl, SqT.of hT.at_, rfl, pl, rfl, ⟨_, SqL.of hT.cs.lst⟩, fun D nD => lc_list (K := K) (a := pl) (xs := refC ks) (fun i G => ∃ ns : List (Addr × (Int × Int)), Same H G ∧ G D = some (.lst (ns.map fun q => V.ref q.1)) ∧ (∀ q ∈ ns, G q.1 = some (PairO q.2)) ∧ ns.map (·.2) = (ks.take i).map fun q => q.2.1) ⟨[], same_upd nD, upd_same, (fun p hp => nomatch hp), rfl⟩ (fun i G _ ⟨ms, sm, _⟩ => SqL.of (sm _ _ hT.cs.lst)) ?_ ?_⟩
        · rintro i x G hx ⟨ns, sm, hD, hns, en⟩
          obtain ⟨t1, c, hi, rfl⟩ := refC_at hx
          have htc := sm _ _ (hT.cs.each _ (List.mem_of_getElem? hi))
          refine ⟨rfl, tyes (iteT ⟨_, rfl, t1, _, 0, _, rfl, rfl, SqT.of htc, rfl, _, rfl, t1, _, 1, _, rfl, rfl, SqT.of htc, rfl, by show 2 ≤ sizeLine; decide, fun T nT => ?_⟩)⟩
          obtain ⟨a1, ns', a2, a3, a4, a5⟩ := pairMore few nD sm hD hns en hi (Same.refl G) nT
          exact ⟨_, same_upd nT _ _ hD, a1, ns', a2, a3, a4, a5⟩
        · rintro G ⟨ns, sm, hD, hns, en⟩
          rw [show (refC ks).length = ks.length from List.length_map _, List.take_of_length_le (Nat.le_refl _)] at en
          have ln : ns.length = ks.length := by
            have := congrArg List.length en
            rwa [List.length_map, List.length_map] at this
          have ew : (ns.map fun q => wideC q.2) = (ks.map (·.2)).map fun c => wideC c.1 := by
            rw [List.map_map]
            have := congrArg (List.map wideC) en
            rw [List.map_map, List.map_map] at this
            exact this
          have hTG := hT.same sm
          refine ⟨_, rfl, t, _, 3, _, rfl, rfl, SqT.of hTG.at_, rfl, fun r dx nx nd ne => ?_⟩
          refine ⟨r, dx, D, ns, need, rfl, upd_same, ⟨made_same nx nd _ _ hD, fun q m => made_same nx nd _ _ (hns q m)⟩, by omega, fun p e => letsB_made (bad p (by rw [ew] at e; exact e)) sm nx nd, fun ok H' l ms sb nl hr' hc' pm od => ⟨rfl, ?_⟩⟩
          rw [ew] at ok
          exact k ok r [] _ H' (sm.trans (made_but nx nd sb)) ⟨dx, _, l, ms, hr', rfl, rfl, fun _ => rfl, low3s, hc', rfl⟩ (by rw [pm.length_eq, List.length_map, List.length_map, ln])
end
end Pm
namespace Pm
open PySem PySem.Spec PyProof.Rows L2 SX NdefX
/-! ### wishes, piece by piece -/
theorem tAndW {t u : TT} {σ : L2.St} {G : Hp} {Q : Bool → Hp → Prop} {b c : Bool} (ht : ∀ Q' : Bool → Hp → Prop, Q' b G → t σ G Q') (hu : ∀ Q' : Bool → Hp → Prop, Q' c G → u σ G Q') (h : Q (b && c) G) : tAnd t u σ G Q := by
  refine ht _ ?_
  cases b
  · exact iteF h
  · exact iteT (hu _ h)
theorem tOrW {t u : TT} {σ : L2.St} {G : Hp} {Q : Bool → Hp → Prop} {b c : Bool} (ht : ∀ Q' : Bool → Hp → Prop, Q' b G → t σ G Q') (hu : ∀ Q' : Bool → Hp → Prop, Q' c G → u σ G Q') (h : Q (b || c) G) : tOr t u σ G Q := by
  refine ht _ ?_
  cases b
  · exact iteF (hu _ h)
  · exact iteT h
theorem seqIfN {c : TT} {a r : TS} {D : Ends} {σ : L2.St} {G : Hp} {b : Bool} (hc : ∀ Q' : Bool → Hp → Prop, Q' b G → c σ G Q') (hT : b = true → a { D with nx := r D } σ G) (hF : b = false → r D σ G) : tSeq (tIfS c a tNext) r D σ G := by
  refine hc _ ?_
  cases b
  · exact iteF (hF rfl)
  · exact iteT (hT rfl)
/-! ### a bad part -/
theorem nodup_at {z : List Nat} (h : ∀ j c, z[j]? = some c → c ∉ z.take j) : z.Nodup := by
  rw [List.Nodup, List.pairwise_iff_getElem]
  intro i j hi hj hij e
  refine h j z[j] (List.getElem?_eq_getElem hj) ?_
  rw [← e]
  exact List.mem_take_iff_getElem.mpr ⟨i, by omega, rfl⟩
theorem take_nodup {z : List Nat} (h : z.Nodup) {j c : Nat} (hj : z[j]? = some c) : c ∉ z.take j := by
  intro m
  obtain ⟨i, hi, e⟩ := List.mem_take_iff_getElem.mp m
  obtain ⟨hl, e2⟩ := List.getElem?_eq_some_iff.mp hj
  have := (List.pairwise_iff_getElem.mp h) i j (by omega) hl (by omega)
  exact this (e.trans e2.symm)
theorem hash_mem (c : Nat) : c ∈ ("#abcdefghijklmnopqrstuvwxyz" : Str).cps.toList ↔ (c = 35 ∨ Let c) := by
  have e : ("#abcdefghijklmnopqrstuvwxyz" : Str).cps.toList = 35 :: List.range' 97 26 := by decide +kernel
  rw [e, List.mem_cons, List.mem_range'_1]
  unfold Let
  omega
theorem dpa_pairs {K : PySem.W.Frag} {H : Hp} : ∀ {ps : List (Addr × (Int × Int))}, (∀ q ∈ ps, H q.1 = some (PairO q.2)) → DpAll K H (ps.map fun q => V.ref q.1) ((ps.map (·.2)).map dP)
  | [], _ => .nil
  | q :: ps, e => .cons (.tup (SqT.of (e q List.mem_cons_self)) (.cons (.int _) (.cons (.int _) .nil))) (dpa_pairs fun q' m => e q' (List.mem_cons_of_mem _ m))
def badP (c : Cnd) (es : List Cnd) : Bool := badAt (es.length + 1) (es.map (·.1)) c
section
variable {P : Program} {w : World} {K : PySem.W.Frag} {mg : Str → Option Value} {base : Heap} {C CI CR CC CS : Addr}
def spBadP : Sp := fun vs H Q _ => ∃ t p c es, vs = [.ref t, .ref p] ∧ H t = some (CondO c) ∧ CndsAt H p es ∧ es.length ≤ 1000 ∧ c.2.length ≤ 1000 ∧ ∀ H', Same H H' → Q (.bl (badP c (es.map (·.2)))) H'
abbrev nBadP : List Str := ["_law_part", "_law_earlier", "_law_one", "_law_k"]
theorem scBadP : FnScope nBadP ["_law_part", "_law_earlier"] (defScope lBadPart) := ⟨rfl, rfl, rfl, by decide +kernel, rfl, by decide +kernel, by decide +kernel⟩
theorem ok_badpart {f : Addr} {fd : FuncData} (F : Fun K "_law_bad_part" "_law_bad_part" lBadPart f fd) (L : LTxt K mg) : FnOk P w K mg base CX0 1 f fd ["_law_part", "_law_earlier"] spBadP := by
  refine F.ok scBadP (fun vs H Q E h => ?_) (fun cdv A outer s H vs Q E hr h => ?_)
  · obtain ⟨t, p, c, es, rfl, _⟩ := h
    rfl
  · obtain ⟨t, p, c, es, rfl, ht, hp, few, fc, k⟩ := h
    obtain ⟨⟨x, y⟩, z⟩ := c
    refine ⟨_, (pss_cons (ps_if (PW.pt (pw_and (pt_cmpR op_eq (pe_ix ix_tup (pv 0) pe_int (fun _ _ => rfl)) pe_int (nomark _)) (pw_and1 (pt_cmpR op_eq (pe_ix ix_tup (pv 0) pe_int (fun _ _ => rfl)) pe_int (nomark _))))) (pss_one (ps_ret pe_bl)) pss_nil)
      (pss_cons (ps_if (PW.pt (pw_or (pt_cmpR op_lt (pe_ix ix_tup (pv 0) pe_int (fun _ _ => rfl)) (pe_un un_neg pe_int) (nomark _)) (pw_or (pt_cmpR op_gt (pe_ix ix_tup (pv 0) pe_int (fun _ _ => rfl)) pe_int (nomark _)) (pw_or (pt_cmpR op_lt (pe_ix ix_tup (pv 0) pe_int (fun _ _ => rfl)) (pe_un un_neg pe_int) (nomark _)) (pw_or1 (pt_cmpR op_gt (pe_ix ix_tup (pv 0) pe_int (fun _ _ => rfl)) pe_int (nomark _))))))) (pss_one (ps_ret pe_bl)) pss_nil)
      (pss_cons (ps_if (PW.pt (pw_or (pt_cmpR (op_inD (hu65r hr)) (pe_tup (pa_cons (pe_ix ix_tup (pv 0) pe_int (fun _ _ => rfl)) (pa_cons (pe_ix ix_tup (pv 0) pe_int (fun _ _ => rfl)) pa_nil))) (pe_lc (own := [("_law_one", 2)]) (g := (gName 2)) (tt := tYes) (te := (tTup (tCons (tOp (rIxT K) (tVar 2) (tC (.int 0))) (tCons (tOp (rIxT K) (tVar 2) (tC (.int 1))) tNil)))) rfl scBadP.nd (pi_list (pv 1)) (blkOk_by (own := [("_law_one", 2)]) (N := nBadP) (sc := defScope lBadPart) (by decide +kernel)) (fun _ _ _ _ _ => (pg_name (i := 2) scBadP.nd rfl (.inl rfl))) (fun _ _ _ _ _ => pts_nil) (fun _ _ _ _ _ => (pe_tup (pa_cons (by exact pe_ix ix_tup (pv 2) pe_int (fun _ _ => rfl)) (pa_cons (by exact pe_ix ix_tup (pv 2) pe_int (fun _ _ => rfl)) pa_nil))))) (by rfl)) (pw_or1 (pt_cmpR op_eq (pe_ix ix_tup (pv 0) pe_int (fun _ _ => rfl)) pe_str (nomark _))))) (pss_one (ps_ret pe_bl)) pss_nil)
      (pss_cons (ps_for PassesOwn.never rfl (pi_range1 (by rfl) L.rng (pa_cons (pe_callB call_len_str (by rfl) L.len PySem.boot_len (pa_cons (pe_ix ix_tup (pv 0) pe_int (fun _ _ => rfl)) pa_nil)) pa_nil)) (pg_name (i := 3) scBadP.nd rfl (.inl rfl)) (pss_one (ps_if (PW.pt (pw_or (pt_cmpR op_in_sign (pe_ix ix_str (pe_ix ix_tup (pv 0) pe_int (fun _ _ => rfl)) (pv 3) (fun _ _ => rfl)) (pe_slice C8.sl_txt (pe_ix ix_tup (pv 0) pe_int (fun _ _ => rfl)) po_none (po_some (pv 3))) (by rfl)) (pw_or1 (pt_cmpR op_notIn_sign (pe_ix ix_str (pe_ix ix_tup (pv 0) pe_int (fun _ _ => rfl)) (pv 3) (fun _ _ => rfl)) pe_str (by rfl))))) (pss_one (ps_ret pe_bl)) pss_nil)))
      (pss_one (ps_ret (pe_cmpR op_gt (pe_callB call_len_seq (by rfl) L.len PySem.boot_len (pa_cons (pv 1) pa_nil)) pe_int (nomark _)))))))), ?_⟩
    refine seqIfN (fun _ q => tAndW (fun _ q1 => ⟨_, rfl, t, _, 0, _, rfl, rfl, SqT.of ht, rfl, rfl, _, rfl, q1⟩) (fun _ q1 => ⟨_, rfl, t, _, 1, _, rfl, rfl, SqT.of ht, rfl, rfl, _, rfl, q1⟩) q) (fun e1 => ?_) (fun e1 => ?_)
    · have e : badP ((x, y), z) (es.map (·.2)) = true := by
        simp at e1
        unfold badP badAt placeB
        simp [e1]
      rw [e] at k
      exact k H (Same.refl H)
    refine seqIfN (fun _ q => tOrW (fun _ q1 => ⟨_, rfl, t, _, 0, _, rfl, rfl, SqT.of ht, rfl, 3, rfl, _, _, rfl, rfl, _, rfl, q1⟩) (fun _ q2 => tOrW (fun _ q1 => ⟨_, rfl, t, _, 0, _, rfl, rfl, SqT.of ht, rfl, _, _, rfl, rfl, _, rfl, q1⟩) (fun _ q3 => tOrW (fun _ q1 => ⟨_, rfl, t, _, 1, _, rfl, rfl, SqT.of ht, rfl, 3, rfl, _, _, rfl, rfl, _, rfl, q1⟩) (fun _ q1 => ⟨_, rfl, t, _, 1, _, rfl, rfl, SqT.of ht, rfl, _, _, rfl, rfl, _, rfl, q1⟩) q3) q2) q) (fun e2 => ?_) (fun e2 => ?_)
    · have e : badP ((x, y), z) (es.map (·.2)) = true := by
        have np : placeB (x, y) = false := by
          rw [Bool.eq_false_iff]
          intro w
          unfold placeB at w
          simp at e2 w
          omega
        unfold badP badAt
        rw [np]
        simp
      rw [e] at k
      exact k H (Same.refl H)
    have pl : placeB (x, y) = true := by
      unfold placeB
      simp at e1 e2 ⊢
      omega
    refine ⟨_, rfl, t, _, 0, _, rfl, rfl, SqT.of ht, rfl, _, rfl, t, _, 1, _, rfl, rfl, SqT.of ht, rfl, by show 2 ≤ sizeLine; decide, fun T nT => ?_⟩
    have s1 := same_upd (o := PairO (x, y)) nT
    have hT1 : upd H T (PairO (x, y)) T = some (PairO (x, y)) := upd_same
    have hp1 := hp.same s1
    change _
    refine ⟨_, rfl, p, rfl, ⟨_, SqL.of hp1.lst⟩, fun D nD => lc_list (K := K) (a := p) (xs := refC es) (fun i G => ∃ ns : List (Addr × (Int × Int)), Same (upd H T (PairO (x, y))) G ∧ G D = some (.lst (ns.map fun q => V.ref q.1)) ∧ (∀ q ∈ ns, G q.1 = some (PairO q.2)) ∧ ns.map (·.2) = (es.take i).map fun q => q.2.1) ⟨[], same_upd nD, upd_same, (fun p hp => nomatch hp), rfl⟩ (fun i G _ ⟨ms, sm, _⟩ => SqL.of (sm _ _ hp1.lst)) ?_ ?_⟩
    · rintro i x G hx ⟨ns, sm, hD, hns, en⟩
      obtain ⟨t1, c, hi, rfl⟩ := refC_at hx
      have htc := sm _ _ (hp1.each _ (List.mem_of_getElem? hi))
      refine ⟨rfl, tyes (iteT ⟨_, rfl, t1, _, 0, _, rfl, rfl, SqT.of htc, rfl, _, rfl, t1, _, 1, _, rfl, rfl, SqT.of htc, rfl, by show 2 ≤ sizeLine; decide, fun T nT => ?_⟩)⟩
      obtain ⟨a1, ns', a2, a3, a4, a5⟩ := pairMore few nD sm hD hns en hi (Same.refl G) nT
      exact ⟨_, same_upd nT _ _ hD, a1, ns', a2, a3, a4, a5⟩
    rintro G ⟨ns, sm, hD, hns, en⟩
    rw [show (refC es).length = es.length from List.length_map _, List.take_of_length_le (Nat.le_refl _)] at en
    have en2 : ns.map (·.2) = (es.map (·.2)).map (·.1) := by
      rw [en, List.map_map]
      rfl
    refine ⟨dP (x, y), _, .tup (SqT.of (sm _ _ hT1)) (.cons (.int _) (.cons (.int _) .nil)), .lst (SqL.of hD) (dpa_pairs hns), dP_shaped _, dPs_shaped _, _, rfl, ?_⟩
    rw [dPs_any, en2]
    have sG := s1.trans sm
    have htG := sG _ _ ht
    by_cases m : (x, y) ∈ (es.map (·.2)).map (·.1)
    · refine iteTe (decide_eq_true m) (iteT ?_)
      have e : badP ((x, y), z) (es.map (·.2)) = true := by
        unfold badP badAt
        rw [decide_eq_true m]
        simp
      rw [e] at k
      exact k G sG
    refine iteFe (decide_eq_false m) ?_
    refine ⟨_, rfl, t, _, 2, _, rfl, rfl, SqT.of htG, rfl, rfl, _, rfl, ?_⟩
    by_cases z0 : z = []
    · subst z0
      refine iteTe (decide_eq_true rfl) ?_
      have e : badP ((x, y), []) (es.map (·.2)) = true := by
        unfold badP badAt diffB
        simp
      rw [e] at k
      exact k G sG
    refine iteFe (decide_eq_false fun e => z0 (by
      have := V.str.inj e
      have e3 := congrArg unS this
      rw [unS_S] at e3
      exact e3)) ?_
    have zl : (S z).length ≤ sizeLine := by rw [len_S]; exact small_line fc
    have hm : decide ((x, y) ∈ (es.map (·.2)).map (·.1)) = false := decide_eq_false m
    refine ⟨_, rfl, t, _, 2, _, rfl, rfl, SqT.of htG, rfl, _, rfl, zl, _, rfl, by omega, by rw [len_S]; omega, for_range (lo := 0) (n := (S z).length) (fun i σ G => (∃ y2 y3, σ = [some (.ref t), some (.ref p), y2, y3]) ∧ Same H G ∧ ∀ j c, j < i → z[j]? = some c → c ∉ z.take j ∧ (c = 35 ∨ Let c)) ⟨⟨_, _, rfl⟩, sG, fun j c h => absurd h (Nat.not_lt_zero _)⟩ ?_ ?_⟩
    · rintro i σ G hi ⟨⟨y2, y3, rfl⟩, sG, inv⟩
      rw [len_S] at hi
      have htG := sG _ _ ht
      have gz : z[i]? = some z[i] := List.getElem?_eq_getElem hi
      generalize z[i] = d at gz
      have ga : atI (S z).cps.toList ((0 : Int) + (i : Int)) = some d := by
        rw [Int.zero_add]
        refine atI_nat ?_
        rw [show (S z).cps.toList = z from unS_S z]
        exact gz
      refine ⟨_, rfl, t, _, 2, _, rfl, rfl, SqT.of htG, rfl, _, rfl, S z, _, d, rfl, rfl, zl, ga, _, rfl, t, _, 2, _, rfl, rfl, SqT.of htG, rfl, _, rfl, _, rfl, S z, rfl, zl, d, _, rfl, rfl, _, rfl, ?_⟩
      have es2 : (Txt.slice (S z) none (some ((0 : Int) + (i : Int)))).cps.toList = z.take i := by
        rw [Int.zero_add, slice_to (by omega)]
        exact unS_S _
      rw [es2]
      by_cases m1 : d ∈ z.take i
      · refine iteTe (decide_eq_true m1) (iteT ?_)
        have e : badP ((x, y), z) (es.map (·.2)) = true := by
          unfold badP badAt diffB
          rw [decide_eq_false (fun nd : z.Nodup => take_nodup nd gz m1)]
          simp
        rw [e] at k
        exact k G sG
      refine iteFe (decide_eq_false m1) ?_
      refine ⟨_, rfl, t, _, 2, _, rfl, rfl, SqT.of htG, rfl, _, rfl, S z, _, d, rfl, rfl, zl, ga, d, _, rfl, rfl, _, rfl, ?_⟩
      by_cases m2 : d = 35 ∨ Let d
      · refine iteFe (by rw [decide_eq_true ((hash_mem d).mpr m2)]; rfl) ?_
        refine ⟨⟨_, _, rfl⟩, sG, fun j c hj hc => ?_⟩
        rcases Nat.lt_succ_iff_lt_or_eq.mp hj with h | h
        · exact inv j c h hc
        · subst h
          rw [gz] at hc
          cases hc
          exact ⟨m1, m2⟩
      · refine iteTe (by rw [decide_eq_false (fun q => m2 ((hash_mem d).mp q))]; rfl) ?_
        have e : badP ((x, y), z) (es.map (·.2)) = true := by
          unfold badP badAt diffB
          have : (z.all fun c => decide (c = 35) || decide (Let c)) = false := by
            rw [Bool.eq_false_iff]
            intro w
            have := List.all_eq_true.mp w d (List.mem_of_getElem? gz)
            simp at this
            exact m2 this
          show (_ || _ || _ || !(_ && (z.all fun c => decide (c = 35) || decide (Let c)))) = true
          rw [this]
          simp
        rw [e] at k
        exact k G sG
    · rintro σ G ⟨⟨y2, y3, rfl⟩, sG, inv⟩
      rw [len_S] at inv
      have nd : z.Nodup := nodup_at fun j c hj => (inv j c (List.getElem?_eq_some_iff.mp hj).1 hj).1
      have al : (z.all fun c => decide (c = 35) || decide (Let c)) = true := by
        rw [List.all_eq_true]
        intro c mc
        obtain ⟨j, hj⟩ := List.getElem?_of_mem mc
        have := (inv j c (List.getElem?_eq_some_iff.mp hj).1 hj).2
        simpa using this
      refine ⟨_, rfl, p, _, rfl, .inl (SqL.of (hp.same sG).lst), _, _, rfl, rfl, ?_⟩
      have e : badP ((x, y), z) (es.map (·.2)) = decide ((7 : Int) < ((refC es).length : Int)) := by
        unfold badP badAt diffB
        rw [hm, pl]
        show (decide (8 < (es.map (·.2)).length + 1) || !true || false || !((decide (z ≠ []) && decide z.Nodup) && (z.all fun c => decide (c = 35) || decide (Let c)))) = _
        rw [al, decide_eq_true nd, decide_eq_true z0, List.length_map, show (refC es).length = es.length from List.length_map _]
        rw [Bool.eq_iff_iff]
        simp
        omega
      rw [e] at k
      exact k G sG
end
end Pm
namespace Pm
open PySem PySem.Spec PyProof.Rows L2 SX NdefX
theorem tNotW {t : TT} {σ : L2.St} {G : Hp} {Q : Bool → Hp → Prop} {b : Bool} (ht : ∀ Q' : Bool → Hp → Prop, Q' b G → t σ G Q') (h : Q (!b) G) : tNot t σ G Q := ht _ h
def ansOf : Option Nat → Int
  | some p => (p : Int)
  | none => -1
def faultL (κ : Nat) (st : List Nat) (cs : List Cnd) (need : Int) : Option Nat := if κ = 2 then faultS cs need else faultC st cs need
theorem bad_seen {cs : List Cnd} {i : Nat} {c : Cnd} (h : i ≤ cs.length) : badP c (cs.take i) = badAt (i + 1) (seenOf cs i) c := by
  have l : (cs.take i).length = i := by
    rw [List.length_take]
    omega
  have e : decide (c.1 ∈ (cs.take i).map (·.1)) = decide (c.1 ∈ seenOf cs i) := by
    refine decide_eq_decide.mpr ?_
    unfold seenOf
    rw [List.mem_reverse]
  unfold badP badAt
  rw [l, e]
section
variable {P : Program} {w : World} {K : PySem.W.Frag} {mg : Str → Option Value} {base : Heap} {C CI CR CC CS : Addr}
def spFault : Sp := fun vs H Q _ => ∃ t pl κ st ks need, vs = [.ref t] ∧ RuleX H t pl κ st ks need ∧ ∀ H', Same H H' → Q (.int (ansOf (faultL κ st (ks.map (·.2)) need))) H'
theorem scFault : FnScope ["_law_rule_here", "_law_k"] ["_law_rule_here"] (defScope lFault) := ⟨rfl, rfl, rfl, by decide +kernel, rfl, by decide +kernel, by decide +kernel⟩
theorem ok_fault {f a1 a2 : Addr} {fd b1 b2 : FuncData} (F : Fun K "_law_fault" "_law_fault" lFault f fd) (L : LTxt K mg) (cLet : Cl P w K mg base CX0 1 "_law_is_letter" ["_law_text"] spStone a1 b1) (cBad : Cl P w K mg base CX0 1 "_law_bad_part" ["_law_part", "_law_earlier"] spBadP a2 b2) :
    FnOk P w K mg base CX0 2 f fd ["_law_rule_here"] spFault := by
  refine F.ok scFault (fun vs H Q E h => ?_) (fun cdv A outer s H vs Q E hr h => ?_)
  · obtain ⟨t, pl, κ, st, ks, need, rfl, _⟩ := h
    rfl
  · obtain ⟨t, pl, κ, st, ks, need, rfl, hT, k⟩ := h
    refine ⟨_, (pss_cons (ps_if (PW.pt (pw_and (pt_cmpR op_ne (pe_ix ix_tup (pv 0) pe_int (fun _ _ => rfl)) pe_str (nomark _)) (pw_and1 (pt_not (pt_val (pe_call cLet.ok hr (by rfl) cLet.gl cLet.kp cLet.bd .nil pass0 (pa_cons (pe_ix ix_tup (pv 0) pe_int (fun _ _ => rfl)) pa_nil))))))) (pss_one (ps_ret pe_int)) pss_nil)
      (pss_cons (ps_for PassesOwn.never rfl (pi_range1 (by rfl) L.rng (pa_cons (pe_callB call_len_seq (by rfl) L.len PySem.boot_len (pa_cons (pe_ix ix_tup (pv 0) pe_int (fun _ _ => rfl)) pa_nil)) pa_nil)) (pg_name (i := 1) scFault.nd rfl (.inl rfl)) (pss_one (ps_if (pt_val (pe_call cBad.ok hr (by rfl) cBad.gl cBad.kp cBad.bd .nil pass0 (pa_cons (pe_ix ix_list (pe_ix ix_tup (pv 0) pe_int (fun _ _ => rfl)) (pv 1) (fun _ _ => rfl)) (pa_cons (pe_slice sl_list (pe_ix ix_tup (pv 0) pe_int (fun _ _ => rfl)) po_none (po_some (pv 1))) pa_nil)))) (pss_one (ps_ret (pe_op op_add (pv 1) pe_int))) pss_nil)))
      (pss_cons (ps_if (PW.pt (pw_or (pt_cmpR op_lt (pe_ix ix_tup (pv 0) pe_int (fun _ _ => rfl)) pe_int (nomark _)) (pw_or1 (pt_cmpR op_gt (pe_ix ix_tup (pv 0) pe_int (fun _ _ => rfl)) (pe_callB call_len_seq (by rfl) L.len PySem.boot_len (pa_cons (pe_ix ix_tup (pv 0) pe_int (fun _ _ => rfl)) pa_nil)) (nomark _))))) (pss_one (ps_ret pe_int)) pss_nil)
      (pss_one (ps_ret (pe_un un_neg pe_int)))))), ?_⟩
    have k3 := hT.k3
    refine seqIfN (fun _ q => tAndW (fun _ q1 => ⟨_, rfl, t, _, 0, _, rfl, rfl, SqT.of hT.at_, rfl, rfl, _, rfl, q1⟩) (fun _ q1 => tNotW (fun _ q2 => ⟨_, rfl, t, _, 1, _, rfl, rfl, SqT.of hT.at_, rfl, st, rfl, hT.fst, _, rfl, q2⟩) q1) q) (fun e1 => ?_) (fun e1 => ?_)
    · rw [kind_same k3] at e1
      simp at e1
      have e : faultL κ st (ks.map (·.2)) need = some 0 := by
        unfold faultL faultC faultR
        rw [if_neg e1.1, if_neg (by simp [e1.2])]
      rw [e] at k
      exact k H (Same.refl H)
    rw [kind_same k3] at e1
    have lk : (refC ks).length = ks.length := List.length_map _
    have hf := hT.few
    have ef : ∀ n, fstBad 1 [] (ks.map (·.2)) = some n → faultL κ st (ks.map (·.2)) need = some n := by
      intro n hn
      unfold faultL
      by_cases k2 : κ = 2
      · rw [if_pos k2]
        unfold faultS
        rw [hn]
      · rw [if_neg k2]
        have : stoneB st = true := by simpa [k2] using e1
        unfold faultC faultR
        rw [if_pos this, hn]
    refine ⟨_, rfl, t, _, 2, _, rfl, rfl, SqT.of hT.at_, rfl, pl, _, rfl, .inl (SqL.of hT.cs.lst), _, rfl, by omega, by omega, for_range (lo := 0) (n := (refC ks).length) (fun i σ G => (∃ y, σ = [some (.ref t), y]) ∧ Same H G ∧ fstBad 1 [] (ks.map (·.2)) = fstBad (i + 1) (seenOf (ks.map (·.2)) i) ((ks.map (·.2)).drop i)) ⟨⟨_, rfl⟩, Same.refl H, rfl⟩ ?_ ?_⟩
    · rintro i σ G hi ⟨⟨y, rfl⟩, sG, inv⟩
      rw [lk] at hi
      have hTG := hT.same sG
      have gi : ks[i]? = some ks[i] := List.getElem?_eq_getElem hi
      have mi : ks[i] ∈ ks := List.getElem_mem hi
      generalize ks[i] = tc at gi mi
      obtain ⟨t1, c⟩ := tc
      have ga : atI (refC ks) ((0 : Int) + (i : Int)) = some (.ref t1) := by
        rw [Int.zero_add]
        refine atI_nat ?_
        unfold refC
        rw [List.getElem?_map, gi]
        rfl
      refine ⟨_, rfl, t, _, 2, _, rfl, rfl, SqT.of hTG.at_, rfl, _, rfl, pl, _, _, _, rfl, rfl, SqL.of hTG.cs.lst, ga, _, rfl, t, _, 2, _, rfl, rfl, SqT.of hTG.at_, rfl, _, rfl, _, rfl, pl, _, rfl, SqL.of hTG.cs.lst, fun q nq => ?_⟩
      rw [Int.zero_add, cut_to]
      have s2 := same_upd (o := .lst ((refC ks).take i)) nq
      have htk : (refC ks).take i = refC (ks.take i) := List.map_take.symm
      have fc : c.2.length ≤ 1000 := hT.each _ mi
      refine ⟨t1, q, c, ks.take i, rfl, s2 _ _ (hTG.cs.each _ mi), ⟨by rw [upd_same, htk], fun q' m => s2 _ _ (hTG.cs.each q' (List.mem_of_mem_take m))⟩, by rw [List.length_take]; omega, fc, fun G2 s3 => ⟨_, rfl, ?_⟩⟩
      have hcs : (ks.map (·.2))[i]? = some c := by
        rw [List.getElem?_map, gi]
        rfl
      have hdr : (ks.map (·.2)).drop i = c :: (ks.map (·.2)).drop (i + 1) := by
        obtain ⟨hl, e⟩ := List.getElem?_eq_some_iff.mp hcs
        rw [List.drop_eq_getElem_cons hl, e]
      rw [List.map_take, bad_seen (by rw [List.length_map]; omega)]
      rw [hdr, fst_step] at inv
      have s4 := (sG.trans s2).trans s3
      cases hb : badAt (i + 1) (seenOf (ks.map (·.2)) i) c
      · refine iteF ⟨⟨_, rfl⟩, s4, ?_⟩
        rw [inv, hb, seen_succ hcs]
        rfl
      · rw [hb, if_pos rfl] at inv
        refine iteT ⟨_, rfl, _, _, rfl, rfl, ?_⟩
        have e := ef _ inv
        rw [e] at k
        exact k G2 s4
    · rintro σ G ⟨⟨y, rfl⟩, sG, inv⟩
      have hTG := hT.same sG
      rw [lk, List.drop_of_length_le (by rw [List.length_map]; omega)] at inv
      have inv0 : fstBad 1 [] (ks.map (·.2)) = none := inv
      have ef2 : faultL κ st (ks.map (·.2)) need = if 0 ≤ need ∧ need ≤ ((ks.map (·.2)).length : Int) then none else some 0 := by
        unfold faultL
        by_cases k2 : κ = 2
        · rw [if_pos k2]
          unfold faultS
          rw [inv0]
        · rw [if_neg k2]
          have : stoneB st = true := by simpa [k2] using e1
          unfold faultC faultR
          rw [if_pos this, inv0]
      rw [List.length_map] at ef2
      dsimp only
      refine seqIfN (fun _ q => tOrW (fun _ q1 => ⟨_, rfl, t, _, 3, _, rfl, rfl, SqT.of hTG.at_, rfl, _, _, rfl, rfl, _, rfl, q1⟩) (fun _ q1 => ⟨_, rfl, t, _, 3, _, rfl, rfl, SqT.of hTG.at_, rfl, _, rfl, t, _, 2, _, rfl, rfl, SqT.of hTG.at_, rfl, pl, _, rfl, .inl (SqL.of hTG.cs.lst), _, _, rfl, rfl, _, rfl, q1⟩) q) (fun e2 => ?_) (fun e2 => ?_)
      · rw [lk] at e2
        simp at e2
        rw [if_neg (by omega)] at ef2
        rw [ef2] at k
        exact k G sG
      · rw [lk] at e2
        simp at e2
        rw [if_pos (by omega)] at ef2
        rw [ef2] at k
        exact ⟨1, rfl, k G sG⟩
end
end Pm
namespace Pm
open PySem PySem.Spec PyProof.Rows L2 SX
/-! ### a def that is called where an error is handled, whatever error it is -/
structure FnW (P : Program) (w : World) (K : PySem.W.Frag) (mg : Str → Option Value) (base : Heap) (CXf : CXT) (k : Nat) (f : Addr) (fd : FuncData) (ps : List Str) (sp : Sp) : Prop where
  len : ∀ vs H Q E, sp vs H Q E → vs.length = ps.length
  run : ∀ (A : Around) (outer : List Env) (s : Shared) (H : Hp) (args : Args) (us : List Value) (vs : List V) (Q : VK) (E : XK) (p : Addr × Obj), L2H.RoomH k A → L2H.PinOk outer H s p → Env0 P w K mg base A outer s H →
    BindsTo s fd args (ps.zip us) → Vals vs us → sp vs H Q E → codeAny (model P w) A (.call (.ref f) args) (CR CXf outer P w H s Q E) s
theorem fnW_of {CXf : CXT} {P : Program} {w : World} {K : PySem.W.Frag} {mg : Str → Option Value} {base : Heap} {k : Nat} {x qual : Str} {st : Stmt} {f : Addr} {fd : FuncData} {N ps : List Str} {sp : Sp} (F : Fun K x qual st f fd) (S : FnScope N ps (defScope st))
    (len : ∀ vs H Q E, sp vs H Q E → vs.length = ps.length)
    (body : ∀ (cdv : Value) (A : Around) (outer : List Env) (s : Shared) (H : Hp) (vs : List V) (Q : VK) (E : XK) (p : Addr × Obj), L2H.RoomH k (A.deeper (envOfC qual (defScope st) s.heap.objs.size f cdv)) → sp vs H Q E →
      ∃ t, PSs (L2H.cxH CXf P w K mg base N qual (defScope st) f cdv A outer s H E p) (defBody st) t ∧ t { nx := fun _ G => Q .non G, rt := Q } (L2.start N vs) H) : FnW P w K mg base CXf (k + 1) f fd ps sp := by
  obtain ⟨oc, od, kV, doc, pm, an, cdv, ct, osl, rfl, lk, hcd⟩ := F.ex
  constructor
  case len => exact len
  case run =>
    intro A outer s H args us vs Q E p room pin env0 bind rv asked
    have few := len _ _ _ _ asked
    have kin : K.In s.heap := env0.mod.kin.keeps fun b o e => (env0.bs b o e).1
    have unlimited : s.heap.NoLimit := env0.mod.nolimit.keeps fun b o e => (env0.bs b o e).1
    have kinds : ∀ y ∈ ps.zip us, (defScope st).names.lookup y.1 = some .local ∨ ((defScope st).names.lookup y.1 = some .cell ∧ ((cellsFrom (s.heap.objs.size + 1) (defScope st).names []).lookup y.1).isSome = true) := by
      rintro ⟨n, v⟩ hy
      rcases S.par n (List.of_mem_zip hy).1 with q | q
      · exact Or.inl q
      · exact Or.inr ⟨q, PySem.W.cellsFrom_some _ _ _ (.inl q)⟩
    refine codeAny_call_function room.depth (kin _ _ lk) rfl S.co S.gen rfl (PySem.W.codeRec_of kin hcd) (bind _ _ _ _ (wpAny_newFunctionEnv_cells S.kind kinds fun env he s1 call => ?_))
    subst he
    refine ⟨unlimited.keeps call.toInCall.keep, codeAny_func ?_⟩
    obtain ⟨t, ht, read⟩ := body cdv A outer s H vs Q E p (room.deeper _) asked
    have I := L2H.inv_startH (CX := CXf) (E := E) S pin env0 few rv call
    refine wpAny_mono (ht.run [] s1 (L2.start N vs) H _ I read) (fun fl s2 z => ?_) fun _ _ z => z
    cases fl with
    | ret u =>
      obtain ⟨v, _, G, J, ru, q⟩ := z
      exact ⟨v, G, J.os, J.bare, J.base, J.hok, ru, q⟩
    | next =>
      obtain ⟨_, G, J, q⟩ := z
      exact ⟨V.non, G, J.os, J.bare, J.base, J.hok, rfl, q⟩
    | brk =>
      obtain ⟨_, _, _, q⟩ := z
      exact q.elim
    | cont =>
      obtain ⟨_, _, _, q⟩ := z
      exact q.elim
section
variable {X : Cx} {CXf : CXT} {k : Nat} {f : Addr} {fd : FuncData} {ps : List Str} {sp : Sp} {x : Str} {q pos : Pos} {e : Expr} {es : List Expr} {t : TA}
/-- f(e, ..) where something is pinned; nothing that is raised leaves f -/
theorem pe_callW {p : Addr × Obj} (F : FnW X.prog X.w X.K X.mg X.base CX0 k f fd ps sp) (hr : L2H.RoomH k X.A) (hp : p ∈ X.pn) (hg : Gl X x) (hm : X.mg x = some (.ref f)) (hk : PySem.W.keepIn X.K (.ref f) = true) (hb : Binds X.K fd ps []) (ha : PA X (e :: es) t)
    (dbg : (x == ("__debug__" : Str)) = false := by decide) (st : starEach (e :: es) X.env = (false, eval e X.env) :: starEach es X.env := by rfl) (pl : (backTo pos (starEach es X.env)).any (·.1) = false := by rfl) :
    PE X (.Call (.Name x q) (e :: es) [] pos) (tCall sp [] E0 t) := by
  refine ⟨fun pins s σ H Q I h => wpAny_Call_Name_kw (ld_glob I hg hm ?_ dbg)⟩
  refine PySem.W.callWith_K (h₀ := X.base) I.ok.mod.kin hk (thn (ha.run pos pins s σ H _ I h) fun us s1 ⟨vs, H1, I1, rv, asked⟩ => ⟨I1.kIn, ?_⟩) st pl
  have asked : sp (vs ++ []) H1 Q E0 := asked
  rw [List.append_nil] at asked
  show wpAny _ _ (call (.ref f) us) _ _ _
  have len : us.length = ps.length := rv.length.symm.trans (F.len _ _ _ _ asked)
  have bind := hb s1 us I1.kIn (by rw [List.append_nil]; exact len)
  rw [List.append_nil] at bind
  obtain ⟨p1, p2, p3, p4, p5⟩ := I1.pin p (List.mem_append_left _ hp)
  have pin : L2H.PinOk X.stack H1 s1 p := ⟨p1, p2, fun hm => (List.mem_cons.mp (I1.stkSub p.1 hm)).elim p3 p4, p5⟩
  refine wpAny_call (codeAny_mono (F.run X.A X.stack s1 H1 ⟨us, []⟩ us vs Q E0 p hr pin I1.env0 bind rv asked) fun r s2 z => ?_)
  cases r with
  | error er => exact z.elim
  | ok fl =>
    cases fl with
    | ret u => exact I1.after z
    | next => exact z.elim
    | brk => exact z.elim
    | cont => exact z.elim
end
end Pm
namespace Pm
open PySem PySem.Spec PyProof.Rows L2 SX NdefX
structure ATx (K : PySem.W.Frag) (mg : Str → Option Value) (CI CE CB : Addr) : Prop where
  gI : mg "InvalidRule" = some (.ref CI)
  gE : mg "SmaltiError" = some (.ref CE)
  gB : mg "InvalidBook" = some (.ref CB)
  er : ErrC K CI
  nP : PySem.W.findIn K (.ref CI) "part" = some none
  te : PySem.W.exmOne K (.ref CI) (.ref CI) = some true
  kE : PySem.W.kitOne K (.ref CI) (.ref CE) = some true
  kB : PySem.W.kitOne K (.ref CI) (.ref CB) = some false
section
variable {P : Program} {w : World} {K : PySem.W.Frag} {mg : Str → Option Value} {base : Heap} {C CI CE CB CR CC CS : Addr}
theorem scInt : FnScope ["_law_value"] ["_law_value"] (defScope lIsInt) := ⟨rfl, rfl, rfl, by decide +kernel, rfl, by decide +kernel, by decide +kernel⟩
theorem hot_int {f : Addr} {fd : FuncData} (F : Fun K "_law_is_int" "_law_is_int" lIsInt f fd) (L : LTxt K mg) (mb : mg "bool" = none) : FnW P w K mg base CX0 1 f fd ["_law_value"] spIsI := by
  refine fnW_of F scInt (fun vs H Q E h => ?_) (fun cdv A outer s H vs Q E p hr h => ?_)
  · obtain ⟨n, rfl, _⟩ := h
    rfl
  · obtain ⟨n, rfl, q⟩ := h
    refine ⟨_, pss_one (ps_ret (pe_and (pe_callB call_isi (by rfl) L.isi (by decide +kernel) (pa_cons (pv 0) (pa_cons (pe_bltn (v := .ty "int") (by rfl) L.int (by decide +kernel) rfl) pa_nil)))
      (pe_one (pe_not (pe_callB call_isi (by rfl) L.isi (by decide +kernel) (pa_cons (pv 0) (pa_cons (pe_bltn (v := .ty "bool") (by rfl) mb (by decide +kernel) rfl) pa_nil))))))), ?_⟩
    refine ⟨_, rfl, .int n, .ty "int", .type "int", .type "int", true, rfl, .ty _, .base (.int n), kit_ty (by decide +kernel), true, rfl, ?_⟩
    exact ⟨_, rfl, .int n, .ty "bool", .type "int", .type "bool", false, rfl, .ty _, .base (.int n), kit_ty (by decide +kernel), false, rfl, q⟩
def rLen3 (CR CC CS : Addr) : List V → Hp → VK → Prop := fun xs H Q => ∃ κ, κ < 3 ∧ rLenRu (clsOf CR CC CS κ) κ xs H Q
theorem call_len3 {X : Cx} (F : ∀ κ, κ < 3 → CallR X (.builtin "len") (rLenRu (clsOf CR CC CS κ) κ)) : CallR X (.builtin "len") (rLen3 CR CC CS) := by
  intro pins s σ H xs us Q I r h
  obtain ⟨κ, k3, h⟩ := h
  exact F κ k3 pins s σ H xs us Q I r h
def isX (K : PySem.W.Frag) (a : Addr) (cls : Value) (d : Option Addr) (c : V) : TT := tB (tCB (rIsX K a cls d) (tCons (tVar 2) (tCons (tC c) tNil)))
def tbPo (CI CR CC CS : Addr) (W : WX) : TS := tAsg (tCallS (spMadeE CI CR CC CS) (WE W) (tCons (tVar 0) tNil)) (gName 1)
def tsPo (K : PySem.W.Frag) (CE CB : Addr) : Addr → Value → Option Addr → TS := fun a cls d =>
  tSeq (tIfS (tOr (tNot (isX K a cls d (.ref CE))) (tOr (isX K a cls d (.ref CB)) (tNot (tB (tCall spIsI [] E0 (tCons (tErrX K a cls d "part" (tVar 2)) tNil)))))) (tRet (tUn (rU fun i => V.int (-i)) (tC (.int 2)))) tNext)
  (tRet (tErrX K a cls d "part" (tVar 2)))
def spPartOf : Sp := fun vs H Q _ => ∃ t pl κ st ks need, vs = [.ref t] ∧ RuleX H t pl κ st ks need ∧ ∀ H', Same H H' → Q (.int (ansOf (faultOf κ st (ks.map (·.2)) need))) H'
abbrev nPo : List Str := ["_law_rule_here", "_law_made_here", "e"]
theorem scPo : FnScope nPo ["_law_rule_here"] (defScope lPartOf) := ⟨rfl, rfl, rfl, by decide +kernel, rfl, by decide +kernel, by decide +kernel⟩
theorem ok_partof {f fN gM fI : Addr} {fd dN dM dI : FuncData} (F : Fun K "_law_part_of" "_law_part_of" lPartOf f fd) (L : LTxt K mg) (Y : ATx K mg CI CE CB)
    (Md : Cl P w K mg base (L2.CX P w) 7 "_law_made" ["_law_rule_here"] (spMadeE CI CR CC CS) gM dM) (ON : FnW P w K mg base CX0 1 fN dN ["_law_value"] spIsI) (kN : PySem.W.keepIn K (.ref fN) = true) (bN : Binds K dN ["_law_value"] []) (gN : mg "_law_is_int" = some (.ref fN))
    (OL : ∀ κ, κ < 3 → FnOk P w K mg base CX0 1 fI dI ["self"] (spLenR (clsOf CR CC CS κ) κ)) (bL : Binds K dI ["self"] []) (mL : ∀ κ, κ < 3 → OwnF K (clsOf CR CC CS κ) "__len__" fI) : FnOk P w K mg base CX0 8 f fd ["_law_rule_here"] spPartOf := by
  refine F.ok scPo (fun vs H Q E h => ?_) (fun cdv A outer s H vs Q E hr h => ?_)
  · obtain ⟨t, pl, κ, st, ks, need, rfl, _⟩ := h
    rfl
  · obtain ⟨t, pl, κ, st, ks, need, rfl, hT, k⟩ := h
    have hr1 : Room 1 _ := hr.mono (by decide)
    have hr2 : Room 2 _ := hr.mono (by decide)
    have rH := L2H.roomH_of hr1
    refine ⟨_, pss_cons (ps_try_as (i := 2) (tb := tbPo CI CR CC CS) (ts := tsPo K CE CB) (Wout := fun _ _ _ _ => False) rfl rfl scPo.nd rfl rfl ⟨rfl, by decide, .inl Y.gI⟩ takes0
        (fun W pn xe tk _ => pss_one (ps_set (i := 1) scPo.nd rfl (.inl rfl) (by exact pe_callS (E := WE W) Md.ok hr (by rfl) Md.gl Md.kp Md.bd (fun σ => passAt tk σ) (by exact pa_cons (pv 0) pa_nil))))
        (fun a oe cls d pn hz hf => pss_cons (ps_if (PW.pt (pw_or (pt_not (pt_val (by exact pe_callB (call_isX hz hf) (by rfl) L.isi (by decide +kernel) (pa_cons (pv 2) (pa_cons (pe_glob (v := .ref CE) (by rfl) Y.gE rfl) pa_nil)))))
            (pw_or (pt_val (by exact pe_callB (call_isX hz hf) (by rfl) L.isi (by decide +kernel) (pa_cons (pv 2) (pa_cons (pe_glob (v := .ref CB) (by rfl) Y.gB rfl) pa_nil))))
            (pw_or1 (pt_not (pt_val (by exact pe_callW ON ⟨rH.dp, rH.un⟩ (p := (a, oe)) List.mem_cons_self (by rfl) gN kN bN (by exact (pa_cons (by exact (pe_errX hz hf (pv 2))) pa_nil))))))))) (pss_one (ps_ret (pe_un un_neg pe_int))) pss_nil)
          (pss_one (ps_ret (by exact (pe_errX hz hf (pv 2)))))))
      (pss_cons (ps_if (pt_cmpR op_ne (pe_callB (call_len3 (fun κ k3 => call_lenRu (OL κ k3) hr2 bL (mL κ k3))) (by rfl) L.len PySem.boot_len (pa_cons (pv 1) pa_nil)) (pe_callB call_len_seq (by rfl) L.len PySem.boot_len (pa_cons (pe_ix ix_tup (pv 0) pe_int (fun _ _ => rfl)) pa_nil)) (nomark _)) (pss_one (ps_ret (pe_un un_neg pe_int))) pss_nil)
      (pss_one (ps_ret (pe_un un_neg pe_int)))), ?_⟩
    refine ⟨_, rfl, t, pl, κ, st, ks, need, rfl, hT, fun p e d G nd hd sG => ?_, fun e r st2 ms G sG hR el => ?_⟩
    · rw [e] at k
      refine ⟨true, Y.te, fun _ ea na => ?_, fun z => nomatch z⟩
      refine ⟨_, rfl, CI, d, _, .ref CE, .ref CE, true, rfl, rfl, rfl, Y.er, hd, fun u z => z, Y.kE, true, rfl, iteF ⟨_, rfl, CI, d, _, .ref CB, .ref CB, false, rfl, rfl, rfl, Y.er, hd, fun u z => z, Y.kB, false, rfl, iteF ⟨_, rfl, CI, d, _, .int (p : Int), rfl, rfl, rfl, Y.er, Y.nP, hd, rfl, p, rfl, true, rfl, iteF ?_⟩⟩⟩
      exact ⟨_, rfl, CI, d, _, .int (p : Int), rfl, rfl, rfl, Y.er, Y.nP, hd, rfl, k G sG⟩
    · rw [e] at k
      have hTG := hT.same sG
      have few := hT.few
      exact ⟨_, rfl, κ, hT.k3, r, st2, need, ms, rfl, hR, by omega, _, rfl, t, _, 2, _, rfl, rfl, SqT.of hTG.at_, rfl, pl, _, rfl, .inl (SqL.of hTG.cs.lst), rfl, _, rfl, iteFe (by rw [el, show (refC ks).length = ks.length from List.length_map _]; simp) ⟨1, rfl, k G sG⟩⟩
end
end Pm
namespace Pm
open PySem PySem.Spec PyProof.Rows L2 SX NdefX
/-! ### conditions as data -/
def dN (c : Cnd) : PyData := .tuple [.int c.1.1, .int c.1.2, .str (S c.2)]
theorem strOk_S {z : List Nat} (h : ∀ c ∈ z, c < 256) : PyData.strOk (S z) = true := by
  show (S z).cps.all (· < 0x110000) = true
  rw [Array.all_eq_true]
  intro i hi
  have m := h _ (List.getElem_mem (l := z) (n := i) (by simpa using hi))
  exact decide_eq_true (Nat.lt_of_lt_of_le (by simpa using m) (by decide))
def Low3 (M : List Cnd) : Prop := ∀ c ∈ M, ∀ x ∈ c.2, x < 256
theorem dNs_lay : ∀ {M : List Cnd}, Low3 M → PyData.canLayAll0 (M.map dN) = true
  | [], _ => rfl
  | c :: M, h => by
    have e1 := dNs_lay (M := M) fun q m => h q (List.mem_cons_of_mem _ m)
    have e2 : PyData.strOk (S c.2) = true := strOk_S (h c List.mem_cons_self)
    simp [PyData.canLayAll0, dN, PyData.canLay0, e1, e2]
theorem dNs_depth : ∀ M : List Cnd, PyData.depthAll (M.map dN) ≤ 1
  | [] => by simp [PyData.depthAll]
  | c :: M => by
    have := dNs_depth M
    simp [PyData.depthAll, dN, PyData.depth]
    omega
theorem dNs_shaped {M : List Cnd} (h : Low3 M) : SeqAt.shaped (.list (M.map dN)) = true := by
  have := dNs_depth M
  simp [SeqAt.shaped, PyData.canLay0, dNs_lay h, PyData.depth]
  omega
theorem dp_cnds {K : PySem.W.Frag} {H : Hp} {p : Addr} {ks : List (Addr × Cnd)} (h : CndsAt H p ks) : Dp K H (.ref p) (.list ((ks.map (·.2)).map dN)) := by
  refine .lst (SqL.of h.lst) ?_
  have e := h.each
  clear h
  unfold refC
  induction ks with
  | nil => exact .nil
  | cons q ks ih => exact .cons (.tup (SqT.of (e q List.mem_cons_self)) (.cons (.int _) (.cons (.int _) (.cons (.str _) .nil)))) (ih fun q' m => e q' (List.mem_cons_of_mem _ m))
theorem dpa_cnds {K : PySem.W.Frag} {H : Hp} : ∀ {ks : List (Addr × Cnd)}, (∀ q ∈ ks, H q.1 = some (CondO q.2)) → DpAll K H (refC ks) ((ks.map (·.2)).map dN)
  | [], _ => .nil
  | q :: ks, e => .cons (.tup (SqT.of (e q List.mem_cons_self)) (.cons (.int _) (.cons (.int _) (.cons (.str _) .nil)))) (dpa_cnds fun q' m => e q' (List.mem_cons_of_mem _ m))
theorem setG {i : Nat} {x : V} {σ : L2.St} {H : Hp} {Q : L2.St → Hp → Prop} (h : Q (σ.set i (some x)) H) : gName i x σ H Q := h
theorem three_at {a b c : Int} {v : Int} (h0 : 0 ≤ v) (h3 : v < 3) : ∃ i, atI [V.int a, V.int b, V.int c] v = some (.int i) := by
  have : v = 0 ∨ v = 1 ∨ v = 2 := by omega
  rcases this with rfl | rfl | rfl
  · exact ⟨_, rfl⟩
  · exact ⟨_, rfl⟩
  · exact ⟨_, rfl⟩
theorem six_at {v : Int} (h0 : 0 ≤ v) (h3 : v < 6) : ∃ z, (z.length ≤ 2 ∧ ∀ x ∈ z, x < 256) ∧ atI [V.str "", .str ".", .str "A", .str "b.", .str "1", .str " "] v = some (.str (S z)) := by
  have : v = 0 ∨ v = 1 ∨ v = 2 ∨ v = 3 ∨ v = 4 ∨ v = 5 := by omega
  rcases this with rfl | rfl | rfl | rfl | rfl | rfl
  · exact ⟨[], ⟨by decide, by decide⟩, rfl⟩
  · exact ⟨[46], ⟨by decide, by decide⟩, rfl⟩
  · exact ⟨[65], ⟨by decide, by decide⟩, rfl⟩
  · exact ⟨[98, 46], ⟨by decide, by decide⟩, rfl⟩
  · exact ⟨[49], ⟨by decide, by decide⟩, rfl⟩
  · exact ⟨[32], ⟨by decide, by decide⟩, rfl⟩
theorem refC_atI {ks : List (Addr × Cnd)} {m : Int} (h0 : 0 ≤ m) (h1 : m < (ks.length : Int)) : ∃ t c, (t, c) ∈ ks ∧ atI (refC ks) m = some (.ref t) := by
  obtain ⟨j, rfl⟩ : ∃ j : Nat, m = (j : Int) := ⟨m.toNat, by omega⟩
  have hj : j < ks.length := by omega
  refine ⟨ks[j].1, ks[j].2, List.getElem_mem hj, atI_nat ?_⟩
  unfold refC
  rw [List.getElem?_map, List.getElem?_eq_getElem hj]
  rfl
section
variable {P : Program} {w : World} {K : PySem.W.Frag} {mg : Str → Option Value} {base : Heap} {C CI CE CB CR CC CS : Addr}
def spBentP : Sp := fun vs H Q _ => ∃ b l p ks n, vs = [.ref b, .ref p] ∧ BagL H b l ∧ CndsAt H p ks ∧ 0 < ks.length ∧ ks.length ≤ 1000 ∧ (∀ q ∈ ks, q.2.2.length ≤ n ∧ ∀ x ∈ q.2.2, x < 256) ∧ n ≤ 900 ∧ p ≠ b ∧
  ∀ t c H', SameBut b H H' → BagL H' b l → H' t = some (CondO c) → (c.2.length ≤ n + 2 ∧ ∀ x ∈ c.2, x < 256) → Q (.ref t) H'
abbrev nBentP : List Str := ["_law_bag_here", "_law_parts_here", "_law_part", "_law_way"]
theorem scBentP : FnScope nBentP ["_law_bag_here", "_law_parts_here"] (defScope lBentPart) := ⟨rfl, rfl, rfl, by decide +kernel, rfl, by decide +kernel, by decide +kernel⟩
theorem ok_bentpart {f t0 : Addr} {fd td : FuncData} (F : Fun K "_law_bent_part" "_law_bent_part" lBentPart f fd) (T : Cl P w K mg base CX0 1 "_law_take" tkNames spTake t0 td) (L : LTxt K mg) : FnOk P w K mg base CX0 2 f fd ["_law_bag_here", "_law_parts_here"] spBentP := by
  refine F.ok scBentP (fun vs H Q E h => ?_) (fun cdv A outer s H vs Q E hr h => ?_)
  · obtain ⟨b, l, p, ks, n, rfl, _⟩ := h
    rfl
  · obtain ⟨b, l, p, ks, n, rfl, hb, hp, k0, few, each, n9, pb, k⟩ := h
    refine ⟨_, (pss_cons (ps_set (i := 2) scBentP.nd rfl (.inl rfl) (pe_ix ix_list (pv 1) (pe_call T.ok hr (by rfl) T.gl T.kp T.bd .nil pass0 (pa_cons (pv 0) (pa_cons (pe_callB call_len_seq (by rfl) L.len PySem.boot_len (pa_cons (pv 1) pa_nil)) pa_nil))) (fun _ _ => rfl)))
      (pss_cons (ps_set (i := 3) scBentP.nd rfl (.inl rfl) (pe_call T.ok hr (by rfl) T.gl T.kp T.bd .nil pass0 (pa_cons (pv 0) (pa_cons pe_int pa_nil))))
      (pss_cons (ps_if (pt_cmpR op_eq (pv 3) pe_int (nomark _)) (pss_one (ps_ret (pe_tup (pa_cons pe_int (pa_cons pe_int (pa_cons (pe_ix ix_tup (pv 2) pe_int (fun _ _ => rfl)) pa_nil)))))) pss_nil)
      (pss_cons (ps_if (pt_cmpR op_eq (pv 3) pe_int (nomark _)) (pss_one (ps_ret (pe_tup (pa_cons (pe_ix ix_list (pe_lst (pa_cons pe_int (pa_cons (pe_un un_neg pe_int) (pa_cons pe_int pa_nil)))) (pe_call T.ok hr (by rfl) T.gl T.kp T.bd .nil pass0 (pa_cons (pv 0) (pa_cons pe_int pa_nil))) (fun _ _ => rfl)) (pa_cons (pe_ix ix_tup (pv 2) pe_int (fun _ _ => rfl)) (pa_cons (pe_ix ix_tup (pv 2) pe_int (fun _ _ => rfl)) pa_nil)))))) pss_nil)
      (pss_cons (ps_if (pt_cmpR op_eq (pv 3) pe_int (nomark _)) (pss_one (ps_ret (pe_tup (pa_cons (pe_ix ix_tup (pv 2) pe_int (fun _ _ => rfl)) (pa_cons (pe_ix ix_list (pe_lst (pa_cons pe_int (pa_cons (pe_un un_neg pe_int) (pa_cons (pe_un un_neg pe_int) pa_nil)))) (pe_call T.ok hr (by rfl) T.gl T.kp T.bd .nil pass0 (pa_cons (pv 0) (pa_cons pe_int pa_nil))) (fun _ _ => rfl)) (pa_cons (pe_ix ix_tup (pv 2) pe_int (fun _ _ => rfl)) pa_nil)))))) pss_nil)
      (pss_cons (ps_if (pt_cmpR op_eq (pv 3) pe_int (nomark _)) (pss_one (ps_ret (pe_tup (pa_cons (pe_ix ix_tup (pv 2) pe_int (fun _ _ => rfl)) (pa_cons (pe_ix ix_tup (pv 2) pe_int (fun _ _ => rfl)) (pa_cons (pe_op op_add_str (pe_ix ix_tup (pv 2) pe_int (fun _ _ => rfl)) (pe_slice C8.sl_txt (pe_ix ix_tup (pv 2) pe_int (fun _ _ => rfl)) po_none (po_some pe_int))) pa_nil)))))) pss_nil)
      (pss_cons (ps_if (pt_cmpR op_eq (pv 3) pe_int (nomark _)) (pss_one (ps_ret (pe_tup (pa_cons (pe_ix ix_tup (pv 2) pe_int (fun _ _ => rfl)) (pa_cons (pe_ix ix_tup (pv 2) pe_int (fun _ _ => rfl)) (pa_cons (pe_ix ix_list (pe_lst (pa_cons pe_str (pa_cons pe_str (pa_cons pe_str (pa_cons pe_str (pa_cons pe_str (pa_cons pe_str pa_nil))))))) (pe_call T.ok hr (by rfl) T.gl T.kp T.bd .nil pass0 (pa_cons (pv 0) (pa_cons pe_int pa_nil))) (fun _ _ => rfl)) pa_nil)))))) pss_nil)
      (pss_one (ps_ret (pv 2)))))))))), ?_⟩
    have lk : (refC ks).length = ks.length := List.length_map _
    refine ⟨_, rfl, _, rfl, _, rfl, p, _, rfl, .inl (SqL.of hp.lst), b, l, _, rfl, hb, by rw [lk]; omega, by rw [lk]; omega, fun m H1 m0 m1 u1 b1 => ?_⟩
    rw [lk] at m1
    obtain ⟨t, c, mc, ea⟩ := refC_atI m0 m1
    refine ⟨p, _, m, _, rfl, rfl, SqL.of ((u1 p pb).trans hp.lst), ea, ?_⟩
    refine ⟨_, rfl, b, l, 6, rfl, b1, by decide, by decide, fun w H2 w0 w1 u2 b2 => ?_⟩
    have sb : SameBut b H H2 := fun a o ne e => by rw [u2 a ne, u1 a ne]; exact e
    obtain ⟨xb, hxb⟩ := bag_b hb
    have ht0 : H t = some (CondO c) := hp.each _ mc
    have tb : t ≠ b := fun e => by rw [e, hxb] at ht0; cases ht0
    have ht2 := sb _ _ tb ht0
    obtain ⟨hz, low⟩ : c.2.length ≤ n ∧ ∀ x ∈ c.2, x < 256 := each _ mc
    have fin : ∀ G T (c' : Cnd), SameBut b H G → BagL G b l → G T = none → (c'.2.length ≤ n + 2 ∧ ∀ x ∈ c'.2, x < 256) → Q (.ref T) (upd G T (CondO c')) := fun G T c' s bG nT h => k T c' _ (fun a o ne e => same_upd nT _ _ (s a o ne e)) (bag_upd bG nT) upd_same h
    clear hp m0 m1 ea u1 u2 b1
    refine setG ?_
    dsimp only
    refine seqIfN (fun _ q => ⟨_, rfl, rfl, _, rfl, q⟩) (fun e0 => ?_) (fun e0 => ?_)
    · exact ⟨_, rfl, t, _, 2, _, rfl, rfl, SqT.of ht2, rfl, by show 3 ≤ sizeLine; decide, fun T nT => fin H2 T ((0, 0), c.2) sb b2 nT ⟨by show c.2.length ≤ _; omega, low⟩⟩
    refine seqIfN (fun _ q => ⟨_, rfl, rfl, _, rfl, q⟩) (fun e1 => ?_) (fun e1 => ?_)
    · refine ⟨4, rfl, by show 3 ≤ sizeLine; decide, fun q nq => ?_⟩
      have qb : q ≠ b := fun e => by
        obtain ⟨xs, e2⟩ := bag_b b2
        rw [e, e2] at nq
        cases nq
      refine ⟨_, rfl, b, l, 3, rfl, bag_upd b2 nq, by decide, by decide, fun v H3 v0 v1 u3 b3 => ?_⟩
      obtain ⟨i, ei⟩ := three_at (a := 4) (b := -4) (c := 40) v0 v1
      have sb3 : SameBut b H H3 := fun a o ne e => by rw [u3 a ne]; exact same_upd nq _ _ (sb a o ne e)
      have ht3 := sb3 _ _ tb ht0
      refine ⟨q, _, v, _, rfl, rfl, SqL.of ((u3 q qb).trans upd_same), ei, ?_⟩
      exact ⟨_, rfl, t, _, 1, _, rfl, rfl, SqT.of ht3, rfl, _, rfl, t, _, 2, _, rfl, rfl, SqT.of ht3, rfl, by show 3 ≤ sizeLine; decide, fun T nT => fin H3 T ((i, c.1.2), c.2) sb3 b3 nT ⟨by show c.2.length ≤ _; omega, low⟩⟩
    refine seqIfN (fun _ q => ⟨_, rfl, rfl, _, rfl, q⟩) (fun e2 => ?_) (fun e2 => ?_)
    · refine ⟨_, rfl, t, _, 0, _, rfl, rfl, SqT.of ht2, rfl, ?_⟩
      refine ⟨4, rfl, 40, rfl, by show 3 ≤ sizeLine; decide, fun q nq => ?_⟩
      have qb : q ≠ b := fun e => by
        obtain ⟨xs, e2⟩ := bag_b b2
        rw [e, e2] at nq
        cases nq
      refine ⟨_, rfl, b, l, 3, rfl, bag_upd b2 nq, by decide, by decide, fun v H3 v0 v1 u3 b3 => ?_⟩
      obtain ⟨i, ei⟩ := three_at (a := 4) (b := -4) (c := -40) v0 v1
      have sb3 : SameBut b H H3 := fun a o ne e => by rw [u3 a ne]; exact same_upd nq _ _ (sb a o ne e)
      have ht3 := sb3 _ _ tb ht0
      refine ⟨q, _, v, _, rfl, rfl, SqL.of ((u3 q qb).trans upd_same), ei, ?_⟩
      exact ⟨_, rfl, t, _, 2, _, rfl, rfl, SqT.of ht3, rfl, by show 3 ≤ sizeLine; decide, fun T nT => fin H3 T ((c.1.1, i), c.2) sb3 b3 nT ⟨by show c.2.length ≤ _; omega, low⟩⟩
    refine seqIfN (fun _ q => ⟨_, rfl, rfl, _, rfl, q⟩) (fun e3 => ?_) (fun e3 => ?_)
    · have zl : (S c.2).length ≤ sizeLine := by rw [len_S]; exact small_line (by omega)
      have ec : Txt.slice (S c.2) none (some 1) = S (c.2.take 1) := slice_to (i := 1) (by decide)
      refine ⟨_, rfl, t, _, 0, _, rfl, rfl, SqT.of ht2, rfl, _, rfl, t, _, 1, _, rfl, rfl, SqT.of ht2, rfl, _, rfl, t, _, 2, _, rfl, rfl, SqT.of ht2, rfl, _, rfl, t, _, 2, _, rfl, rfl, SqT.of ht2, rfl, 1, rfl, S c.2, rfl, zl, ?_⟩
      rw [ec]
      have tk : (c.2.take 1).length ≤ 1 := by
        rw [List.length_take]
        omega
      refine ⟨_, _, rfl, rfl, by rw [len_S, len_S]; exact small_line (by omega), ?_⟩
      rw [S_cat]
      exact ⟨by show 3 ≤ sizeLine; decide, fun T nT => fin H2 T (c.1, c.2 ++ c.2.take 1) sb b2 nT ⟨by show (c.2 ++ c.2.take 1).length ≤ _; rw [List.length_append]; omega, fun x m => (List.mem_append.mp m).elim (low x) fun m => low x (List.mem_of_mem_take m)⟩⟩
    refine seqIfN (fun _ q => ⟨_, rfl, rfl, _, rfl, q⟩) (fun e4 => ?_) (fun e4 => ?_)
    · refine ⟨_, rfl, t, _, 0, _, rfl, rfl, SqT.of ht2, rfl, _, rfl, t, _, 1, _, rfl, rfl, SqT.of ht2, rfl, by show 6 ≤ sizeLine; decide, fun q nq => ?_⟩
      have qb : q ≠ b := fun e => by
        obtain ⟨xs, e2⟩ := bag_b b2
        rw [e, e2] at nq
        cases nq
      refine ⟨_, rfl, b, l, 6, rfl, bag_upd b2 nq, by decide, by decide, fun v H3 v0 v1 u3 b3 => ?_⟩
      obtain ⟨z, ⟨lz, wz⟩, ei⟩ := six_at v0 v1
      have sb3 : SameBut b H H3 := fun a o ne e => by rw [u3 a ne]; exact same_upd nq _ _ (sb a o ne e)
      refine ⟨q, _, v, _, rfl, rfl, SqL.of ((u3 q qb).trans upd_same), ei, ?_⟩
      exact ⟨by show 3 ≤ sizeLine; decide, fun T nT => fin H3 T (c.1, z) sb3 b3 nT ⟨by show z.length ≤ _; omega, wz⟩⟩
    · exact ⟨_, rfl, k t c H2 sb b2 ht2 ⟨by omega, low⟩⟩
end
end Pm
namespace Pm
open PySem PySem.Spec PyProof.Rows L2 SX NdefX
theorem joinW {tA tR : TS} {D : Ends} {σ : L2.St} {H : Hp} (I : L2.St → Hp → Prop) (hA : ∀ nx : L2.St → Hp → Prop, (∀ σ' H', I σ' H' → nx σ' H') → tA { D with nx := nx } σ H) (hR : ∀ σ' H', I σ' H' → tR D σ' H') : tSeq tA tR D σ H := hA _ hR
theorem ifN {c : TT} {a : TS} {D : Ends} {σ : L2.St} {G : Hp} {b : Bool} (hc : ∀ Q' : Bool → Hp → Prop, Q' b G → c σ G Q') (hT : b = true → a D σ G) (hF : b = false → D.nx σ G) : tIfS c a tNext D σ G := by
  refine hc _ ?_
  cases b
  · exact iteF (hF rfl)
  · exact iteT (hT rfl)
theorem SameBut.tup {p a : Addr} {H H' : Hp} {xs ys : List V} (s : SameBut p H H') (hp : H p = some (.lst xs)) (h : H a = some (.tup ys)) : H' a = some (.tup ys) := s a _ (fun e => by rw [e, hp] at h; cases h) h
theorem CndsAt.but {p a : Addr} {H H' : Hp} {xs : List V} {ks : List (Addr × Cnd)} (h : CndsAt H a ks) (s : SameBut p H H') (hp : H p = some (.lst xs)) (ne : a ≠ p) : CndsAt H' a ks := ⟨s a _ ne h.lst, fun q m => s.tup hp (h.each q m)⟩
theorem RuleX.but {p : Addr} {H H' : Hp} {xs : List V} {t pl : Addr} {κ : Nat} {st : List Nat} {ks : List (Addr × Cnd)} {need : Int} (h : RuleX H t pl κ st ks need) (s : SameBut p H H') (hp : H p = some (.lst xs)) (ne : pl ≠ p) : RuleX H' t pl κ st ks need := ⟨s.tup hp h.at_, h.cs.but s hp ne, h.k3, h.fst, h.few, h.each⟩
theorem ixN_nat {n j : Nat} (h : j < n) : ixN n (j : Int) = some j := by
  unfold ixN
  rw [if_pos (by omega), if_pos (by omega)]
  rfl
theorem dNs_nil (M : List Cnd) : PyData.eqv (.list (M.map dN)) (.list []) = decide (M = []) := by
  cases M <;> simp [PyData.eqv, PyData.eqvAll]
theorem five_at {v : Int} (h0 : 0 ≤ v) (h3 : v < 5) : ∃ z, z.length ≤ 2 ∧ atI [V.str "", .str "ab", .str "A", .str "#", .str "."] v = some (.str (S z)) := by
  have : v = 0 ∨ v = 1 ∨ v = 2 ∨ v = 3 ∨ v = 4 := by omega
  rcases this with rfl | rfl | rfl | rfl | rfl
  · exact ⟨[], by decide, rfl⟩
  · exact ⟨[97, 98], by decide, rfl⟩
  · exact ⟨[65], by decide, rfl⟩
  · exact ⟨[35], by decide, rfl⟩
  · exact ⟨[46], by decide, rfl⟩
/-- parts whose signs are short and low -/
def Sz (n : Nat) (ks : List (Addr × Cnd)) : Prop := ∀ q ∈ ks, q.2.2.length ≤ n ∧ ∀ x ∈ q.2.2, x < 256
section
variable {P : Program} {w : World} {K : PySem.W.Frag} {mg : Str → Option Value} {base : Heap} {C CI CE CB CR CC CS : Addr}
def spBent : Sp := fun vs H Q _ => ∃ b l t pl κ st ks need n, vs = [.ref b, .ref t] ∧ BagL H b l ∧ RuleX H t pl κ st ks need ∧ pl ≠ b ∧ ks.length ≤ 11 ∧ Sz n ks ∧ n ≤ 900 ∧
  ∀ t' pl' st' ks' need' H', SameBut b H H' → BagL H' b l → RuleX H' t' pl' κ st' ks' need' → pl' ≠ b → ks'.length ≤ 11 → Sz (n + 2) ks' → Q (.ref t') H'
abbrev nBent : List Str := ["_law_bag_here", "_law_rule_here", "_law_parts_here", "_law_stone", "_law_need", "_law_way", "_law_at"]
theorem scBent : FnScope nBent ["_law_bag_here", "_law_rule_here"] (defScope lBent) := ⟨rfl, rfl, rfl, by decide +kernel, rfl, by decide +kernel, by decide +kernel⟩
theorem ok_bent {f t0 a1 : Addr} {fd td b1 : FuncData} (F : Fun K "_law_bent" "_law_bent" lBent f fd) (T : Cl P w K mg base CX0 1 "_law_take" tkNames spTake t0 td) (Bp : Cl P w K mg base CX0 2 "_law_bent_part" ["_law_bag_here", "_law_parts_here"] spBentP a1 b1) (L : LTxt K mg) :
    FnOk P w K mg base CX0 3 f fd ["_law_bag_here", "_law_rule_here"] spBent := by
  refine F.ok scBent (fun vs H Q E h => ?_) (fun cdv A outer s H vs Q E hr h => ?_)
  · obtain ⟨b, l, t, pl, κ, st, ks, need, n, rfl, _⟩ := h
    rfl
  · obtain ⟨b, l, t, pl, κ, st, ks, need, n, rfl, hb, hT, plb, k11, sz, n9, k⟩ := h
    have hr1 : Room 1 _ := hr.mono (by decide)
    refine ⟨_, (pss_cons (ps_set (i := 2) scBent.nd rfl (.inl rfl) (pe_callTy call_list_of (by rfl) L.lst (by decide +kernel) (pa_cons (pe_ix ix_tup (pv 1) pe_int (fun _ _ => rfl)) pa_nil)))
      (pss_cons (ps_set (i := 3) scBent.nd rfl (.inl rfl) (pe_ix ix_tup (pv 1) pe_int (fun _ _ => rfl)))
      (pss_cons (ps_set (i := 4) scBent.nd rfl (.inl rfl) (pe_ix ix_tup (pv 1) pe_int (fun _ _ => rfl)))
      (pss_cons (ps_set (i := 5) scBent.nd rfl (.inl rfl) (pe_call T.ok hr1 (by rfl) T.gl T.kp T.bd .nil pass0 (pa_cons (pv 0) (pa_cons pe_int pa_nil))))
      (pss_cons (ps_if (PW.pt (pw_and (pt_cmpR op_lt (pv 5) pe_int (nomark _)) (pw_and1 (pt_cmpR (op_neD hr.units) (pv 2) (pe_lst pa_nil) (nomark _))))) (pss_cons (ps_set (i := 6) scBent.nd rfl (.inl rfl) (pe_call T.ok hr1 (by rfl) T.gl T.kp T.bd .nil pass0 (pa_cons (pv 0) (pa_cons (pe_callB call_len_seq (by rfl) L.len PySem.boot_len (pa_cons (pv 2) pa_nil)) pa_nil))))
        (pss_one (ps_asg (pe_call Bp.ok hr (by rfl) Bp.gl Bp.kp Bp.bd .nil pass0 (pa_cons (pv 0) (pa_cons (pe_ix ix_tup (pv 1) pe_int (fun _ _ => rfl)) pa_nil))) (pg_sub (pv 2) (pv 6) set_list)))) pss_nil)
      (pss_cons (ps_if (pt_cmpR op_eq (pv 5) pe_int (nomark _)) (pss_one (ps_set (i := 3) scBent.nd rfl (.inl rfl) (pe_ix ix_list (pe_lst (pa_cons pe_str (pa_cons pe_str (pa_cons pe_str (pa_cons pe_str (pa_cons pe_str pa_nil)))))) (pe_call T.ok hr1 (by rfl) T.gl T.kp T.bd .nil pass0 (pa_cons (pv 0) (pa_cons pe_int pa_nil))) (fun _ _ => rfl)))) pss_nil)
      (pss_cons (ps_if (pt_cmpR op_eq (pv 5) pe_int (nomark _)) (pss_one (ps_set (i := 4) scBent.nd rfl (.inl rfl) (pe_ix ix_list (pe_lst (pa_cons (pe_un un_neg pe_int) (pa_cons (pe_op op_add (pe_callB call_len_seq (by rfl) L.len PySem.boot_len (pa_cons (pv 2) pa_nil)) pe_int) (pa_cons (pe_op op_add pe_int (pe_callB call_len_seq (by rfl) L.len PySem.boot_len (pa_cons (pv 2) pa_nil))) pa_nil)))) (pe_call T.ok hr1 (by rfl) T.gl T.kp T.bd .nil pass0 (pa_cons (pv 0) (pa_cons pe_int pa_nil))) (fun _ _ => rfl)))) pss_nil)
      (pss_cons (ps_if (PW.pt (pw_and (pt_cmpR op_eq (pv 5) pe_int (nomark _)) (pw_and1 (pt_cmpR op_lt (pe_callB call_len_seq (by rfl) L.len PySem.boot_len (pa_cons (pv 2) pa_nil)) pe_int (nomark _))))) (pss_one (ps_set (i := 2) scBent.nd rfl (.inl rfl) (pe_op op_cat (pv 2) (pe_lst (pa_cons (pe_tup (pa_cons pe_int (pa_cons pe_int (pa_cons pe_str pa_nil)))) (pa_cons (pe_tup (pa_cons (pe_un un_neg pe_int) (pa_cons (pe_un un_neg pe_int) (pa_cons pe_str pa_nil)))) (pa_cons (pe_tup (pa_cons pe_int (pa_cons (pe_un un_neg pe_int) (pa_cons pe_str pa_nil)))) pa_nil))))))) pss_nil)
      (pss_one (ps_ret (pe_tup (pa_cons (pe_ix ix_tup (pv 1) pe_int (fun _ _ => rfl)) (pa_cons (pv 3) (pa_cons (pv 2) (pa_cons (pv 4) pa_nil))))))))))))))), ?_⟩
    have lk : (refC ks).length = ks.length := List.length_map _
    obtain ⟨xb, hxb⟩ := bag_b hb
    obtain ⟨xl, hxl⟩ := bag_l hb
    refine ⟨_, rfl, t, _, 2, _, rfl, rfl, SqT.of hT.at_, rfl, pl, _, rfl, .inl (SqL.of hT.cs.lst), fun p np => ?_⟩
    have pb : p ≠ b := fun e => by rw [e, hxb] at np; cases np
    have pl' : p ≠ l := fun e => by rw [e, hxl] at np; cases np
    have s1 := same_upd (o := .lst (refC ks)) np
    have hT1 := hT.same s1
    refine ⟨_, rfl, t, _, 1, _, rfl, rfl, SqT.of hT1.at_, rfl, ?_⟩
    refine ⟨_, rfl, t, _, 3, _, rfl, rfl, SqT.of hT1.at_, rfl, ?_⟩
    refine ⟨_, rfl, b, l, 5, rfl, bag_upd hb np, by decide, by decide, fun w H2 w0 w1 u2 b2 => ?_⟩
    have sb2 : SameBut b H H2 := fun a o ne e => by rw [u2 a ne]; exact s1 _ _ e
    have hc2 : CndsAt H2 p ks := ⟨by rw [u2 p pb]; exact upd_same, fun q m => sb2 _ _ (fun e => by have := hT.cs.each q m; rw [e, hxb] at this; cases this) (hT.cs.each q m)⟩
    clear u2 hT1 s1
    refine setG ?_
    dsimp only
    let Mid : L2.St → Hp → Prop := fun σ G => ∃ p st2 ks2 need2 y, σ = [some (.ref b), some (.ref t), some (.ref p), some (.str (S st2)), some (.int need2), some (.int w), y] ∧ SameBut b H G ∧ BagL G b l ∧ CndsAt G p ks2 ∧ H p = none ∧ p ≠ b ∧ p ≠ l ∧ st2.length ≤ 1000 ∧ ks2.length ≤ 11 ∧ Sz (n + 2) ks2
    refine joinW Mid (fun nx hnx => ?_) ?_
    · refine ⟨_, rfl, _, _, rfl, rfl, _, rfl, ?_⟩
      have mid0 : Mid [some (.ref b), some (.ref t), some (.ref p), some (.str (S st)), some (.int need), some (.int w), none] H2 := ⟨p, st, ks, need, none, rfl, sb2, b2, hc2, np, pb, pl', hT.fst, k11, fun q m => ⟨by have := (sz q m).1; omega, (sz q m).2⟩⟩
      by_cases w2 : w < 2
      · refine iteTe (decide_eq_true w2) ?_
        refine ⟨_, rfl, by show 0 ≤ sizeLine; decide, fun D nD => ?_⟩
        have sD := same_upd (o := .lst []) nD
        have hc3 := hc2.same sD
        have low3 : Low3 (ks.map (·.2)) := fun c m => by
          obtain ⟨q, hq, rfl⟩ := List.mem_map.mp m
          exact (sz q hq).2
        refine ⟨_, _, .lst (SqL.of hc3.lst) (dpa_cnds hc3.each), .lst (SqL.of upd_same) .nil, dNs_shaped low3, by decide, _, rfl, ?_⟩
        rw [dNs_nil]
        have b3 := bag_upd (o := .lst []) b2 nD
        have sb3 : SameBut b H (upd H2 D (.lst [])) := fun a o ne e => sD _ _ (sb2 a o ne e)
        by_cases k0 : ks.map (·.2) = []
        · refine iteFe (by rw [decide_eq_true k0]; rfl) (hnx _ _ ⟨p, st, ks, need, none, rfl, sb3, b3, hc3, np, pb, pl', hT.fst, k11, fun q m => ⟨by have := (sz q m).1; omega, (sz q m).2⟩⟩)
        refine iteTe (by rw [decide_eq_false k0]; rfl) ?_
        have kp : 0 < ks.length := by
          cases ks with
          | nil => exact absurd rfl k0
          | cons _ _ => simp
        refine ⟨_, rfl, _, rfl, p, _, rfl, .inl (SqL.of hc3.lst), b, l, _, rfl, b3, by rw [lk]; omega, by rw [lk]; omega, fun m H4 m0 m1 u4 b4 => ?_⟩
        rw [lk] at m1
        have sb4 : SameBut b H H4 := fun a o ne e => by rw [u4 a ne]; exact sb3 a o ne e
        have hT4 := hT.but sb4 hxb plb
        have hp4 : H4 p = some (.lst (refC ks)) := by rw [u4 p pb]; exact hc3.lst
        refine ⟨_, rfl, _, rfl, t, _, 2, _, rfl, rfl, SqT.of hT4.at_, rfl, b, l, pl, ks, n, rfl, b4, hT4.cs, kp, by omega, sz, n9, plb, fun t2 c2 H5 s5 b5 ht2 hz2 => ?_⟩
        obtain ⟨j, rfl⟩ : ∃ j : Nat, m = (j : Int) := ⟨m.toNat, by omega⟩
        have hj : j < ks.length := by omega
        have hp5 := s5 _ _ pb hp4
        refine ⟨_, rfl, _, rfl, p, _, (j : Int), j, rfl, rfl, hp5, ixN_nat (by rw [lk]; exact hj), ?_⟩
        have es : (refC ks).set j (.ref t2) = refC (ks.set j (t2, c2)) := by
          unfold refC
          rw [List.map_set]
        rw [es]
        have tp : ∀ {a : Addr} {ys : List V}, H5 a = some (.tup ys) → a ≠ p := fun h e => by rw [e, hp5] at h; cases h
        refine hnx _ _ ⟨p, st, ks.set j (t2, c2), need, _, rfl, fun a o ne e => ?_, bag_ne b5 pb pl', ⟨upd_same, fun q m => ?_⟩, np, pb, pl', hT.fst, by rw [List.length_set]; exact k11, fun q m => ?_⟩
        · have nap : a ≠ p := ne_of_none e np
          rw [upd_ne nap]
          exact s5 a o ne (sb4 a o ne e)
        · rcases List.mem_or_eq_of_mem_set m with h | h
          · have e1 := hT4.cs.each q h
            obtain ⟨x4, hx4⟩ := bag_b b4
            have e2 := s5 _ _ (fun e => by rw [e, hx4] at e1; cases e1) e1
            rw [upd_ne (tp e2)]
            exact e2
          · rw [h, upd_ne (tp ht2)]
            exact ht2
        · rcases List.mem_or_eq_of_mem_set m with h | h
          · exact ⟨by have := (sz q h).1; omega, (sz q h).2⟩
          · rw [h]
            exact hz2
      · exact iteFe (decide_eq_false w2) (hnx _ _ mid0)
    rintro σ G ⟨p, st2, ks2, need2, y, rfl, sG, bG, hc, np, pb, pl', fst, k11', sz'⟩
    refine joinW Mid (fun nx hnx => ?_) ?_
    · refine ifN (fun _ q => ⟨_, rfl, rfl, _, rfl, q⟩) (fun e => ?_) (fun _ => hnx _ _ ⟨p, st2, ks2, need2, y, rfl, sG, bG, hc, np, pb, pl', fst, k11', sz'⟩)
      refine ⟨by show 5 ≤ sizeLine; decide, fun q nq => ?_⟩
      have qb : q ≠ b := fun e => by
        obtain ⟨xs, e2⟩ := bag_b bG
        rw [e, e2] at nq
        cases nq
      refine ⟨_, rfl, b, l, 5, rfl, bag_upd bG nq, by decide, by decide, fun v H3 v0 v1 u3 b3 => ?_⟩
      obtain ⟨z, lz, ei⟩ := five_at v0 v1
      refine ⟨q, _, v, _, rfl, rfl, SqL.of ((u3 q qb).trans upd_same), ei, ?_⟩
      obtain ⟨x3, hx3⟩ := bag_b (bag_upd (o := .lst [.str "", .str "ab", .str "A", .str "#", .str "."]) bG nq)
      exact hnx _ _ ⟨p, z, ks2, need2, y, rfl, fun a o ne e => by rw [u3 a ne]; exact same_upd nq _ _ (sG a o ne e), b3, (hc.same (same_upd nq)).but (fun a o ne e => by rw [u3 a ne]; exact e) hx3 pb, np, pb, pl', by omega, k11', sz'⟩
    clear sG bG hc np pb pl' fst k11' sz' y need2 ks2 st2 p G
    rintro σ G ⟨p, st2, ks2, need2, y, rfl, sG, bG, hc, np, pb, pl', fst, k11', sz'⟩
    refine joinW Mid (fun nx hnx => ?_) ?_
    · refine ifN (fun _ q => ⟨_, rfl, rfl, _, rfl, q⟩) (fun e => ?_) (fun _ => hnx _ _ ⟨p, st2, ks2, need2, y, rfl, sG, bG, hc, np, pb, pl', fst, k11', sz'⟩)
      refine ⟨1, rfl, _, rfl, p, _, rfl, .inl (SqL.of hc.lst), _, _, rfl, rfl, _, rfl, p, _, rfl, .inl (SqL.of hc.lst), _, _, rfl, rfl, by show 3 ≤ sizeLine; decide, fun q nq => ?_⟩
      have qb : q ≠ b := fun e => by
        obtain ⟨xs, e2⟩ := bag_b bG
        rw [e, e2] at nq
        cases nq
      refine ⟨_, rfl, b, l, 3, rfl, bag_upd bG nq, by decide, by decide, fun v H3 v0 v1 u3 b3 => ?_⟩
      obtain ⟨i, ei⟩ := three_at (a := -1) (b := ((refC ks2).length : Int) + 1) (c := 9 + ((refC ks2).length : Int)) v0 v1
      refine ⟨q, _, v, _, rfl, rfl, SqL.of ((u3 q qb).trans upd_same), ei, ?_⟩
      obtain ⟨x3, hx3⟩ := bag_b (bag_upd (o := .lst [.int (-1), .int (((refC ks2).length : Int) + 1), .int (9 + ((refC ks2).length : Int))]) bG nq)
      exact hnx _ _ ⟨p, st2, ks2, i, y, rfl, fun a o ne e => by rw [u3 a ne]; exact same_upd nq _ _ (sG a o ne e), b3, (hc.same (same_upd nq)).but (fun a o ne e => by rw [u3 a ne]; exact e) hx3 pb, np, pb, pl', fst, k11', sz'⟩
    rintro σ G ⟨p, st2, ks2, need2, y, rfl, sG, bG, hc, np, pb, pl', fst, k11', sz'⟩
    refine joinW Mid (fun nx hnx => ?_) ?_
    · refine ifN (fun _ q => tAndW (fun _ q1 => ⟨_, rfl, rfl, _, rfl, q1⟩) (fun _ q1 => ⟨_, rfl, p, _, rfl, .inl (SqL.of hc.lst), _, _, rfl, rfl, _, rfl, q1⟩) q) (fun e => ?_) (fun _ => hnx _ _ ⟨p, st2, ks2, need2, y, rfl, sG, bG, hc, np, pb, pl', fst, k11', sz'⟩)
      have few8 : ks2.length < 9 := by
        simp at e
        have := e.2
        rw [show (refC ks2).length = ks2.length from List.length_map _] at this
        omega
      refine ⟨_, rfl, by show 3 ≤ sizeLine; decide, fun T1 n1 => ?_⟩
      refine ⟨3, rfl, 3, rfl, by show 3 ≤ sizeLine; decide, fun T2 n2 => ?_⟩
      refine ⟨3, rfl, by show 3 ≤ sizeLine; decide, fun T3 n3 => ?_⟩
      refine ⟨by show 3 ≤ sizeLine; decide, fun q nq => ?_⟩
      have z1 := same_upd (o := CondO ((3, 3), [97])) n1
      have y1 : upd G T1 (CondO ((3, 3), [97])) T1 = some (CondO ((3, 3), [97])) := upd_same
      change upd G T1 (CondO ((3, 3), [97])) T2 = none at n2
      change upd (upd G T1 (CondO ((3, 3), [97]))) T2 (CondO ((-3, -3), [98])) T3 = none at n3
      change upd (upd (upd G T1 (CondO ((3, 3), [97]))) T2 (CondO ((-3, -3), [98]))) T3 (CondO ((3, -3), [99])) q = none at nq
      generalize e1 : upd G T1 (CondO ((3, 3), [97])) = G1 at z1 y1 n2 n3 nq
      have z2 := same_upd (o := CondO ((-3, -3), [98])) n2
      have y2 : upd G1 T2 (CondO ((-3, -3), [98])) T2 = some (CondO ((-3, -3), [98])) := upd_same
      generalize e2 : upd G1 T2 (CondO ((-3, -3), [98])) = G2 at z2 y2 n3 nq
      have z3 := same_upd (o := CondO ((3, -3), [99])) n3
      have y3 : upd G2 T3 (CondO ((3, -3), [99])) T3 = some (CondO ((3, -3), [99])) := upd_same
      generalize e3 : upd G2 T3 (CondO ((3, -3), [99])) = G3 at z3 y3 nq
      have z4 := same_upd (o := .lst [.ref T1, .ref T2, .ref T3]) nq
      have zz := (z1.trans z2).trans (z3.trans z4)
      have main : ∀ G4, Same G3 G4 → G4 q = some (.lst [.ref T1, .ref T2, .ref T3]) → ∀ p2, G4 p2 = none → nx [some (.ref b), some (.ref t), some (.ref p2), some (.str (S st2)), some (.int need2), some (.int w), y] (upd G4 p2 (.lst (refC ks2 ++ [.ref T1, .ref T2, .ref T3]))) := by
        intro G4 s34 hq p2 np2
        have s04 := (z1.trans z2).trans (z3.trans s34)
        have z5 := same_upd (o := .lst (refC ks2 ++ [.ref T1, .ref T2, .ref T3])) np2
        have s05 := s04.trans z5
        have bG4 := bag_sb bG s04
        obtain ⟨xb4, hb4⟩ := bag_b bG4
        obtain ⟨xl4, hl4⟩ := bag_l bG4
        have p2b : p2 ≠ b := fun e => by rw [e, hb4] at np2; cases np2
        have p2l : p2 ≠ l := fun e => by rw [e, hl4] at np2; cases np2
        have np0 : H p2 = none := by
          cases h : H p2 with
          | none => rfl
          | some o =>
            have := s04 _ _ (sG p2 o p2b h)
            rw [this] at np2
            cases np2
        refine hnx _ _ ⟨p2, st2, ks2 ++ [(T1, ((3, 3), [97])), (T2, ((-3, -3), [98])), (T3, ((3, -3), [99]))], need2, y, rfl, fun a o ne e => s05 _ _ (sG a o ne e), bag_sb bG s05, ⟨?_, fun q' m => ?_⟩, np0, p2b, p2l, fst, by rw [List.length_append]; show ks2.length + 3 ≤ 11; omega, fun q' m => ?_⟩
        · rw [upd_same]
          unfold refC
          rw [List.map_append]
          rfl
        · rcases List.mem_append.mp m with h | h
          · exact s05 _ _ (hc.each q' h)
          · simp only [List.mem_cons, List.not_mem_nil, or_false] at h
            rcases h with rfl | rfl | rfl
            · exact z5 _ _ (s34 _ _ (z3 _ _ (z2 _ _ y1)))
            · exact z5 _ _ (s34 _ _ (z3 _ _ y2))
            · exact z5 _ _ (s34 _ _ y3)
        · rcases List.mem_append.mp m with h | h
          · exact sz' q' h
          · simp only [List.mem_cons, List.not_mem_nil, or_false] at h
            rcases h with rfl | rfl | rfl <;> refine ⟨by show 1 ≤ n + 2; omega, fun x hx => ?_⟩ <;> simp at hx <;> omega
      subst e1 e2 e3
      exact ⟨p, q, _, _, rfl, rfl, zz _ _ hc.lst, upd_same, by rw [show (refC ks2).length = ks2.length from List.length_map _]; show ks2.length + 3 ≤ sizeLine; exact small_line (by omega), fun p2 np2 => main _ z4 upd_same p2 np2⟩
    rintro σ G ⟨p, st2, ks2, need2, y, rfl, sG, bG, hc, np, pb, pl', fst, k11', sz'⟩
    have hTG := hT.but sG hxb plb
    refine ⟨_, rfl, t, _, 0, _, rfl, rfl, SqT.of hTG.at_, rfl, _, rfl, _, rfl, _, rfl, by show 4 ≤ sizeLine; decide, fun T nT => ?_⟩
    have s5 := same_upd (o := .tup [.str (kindT κ), .str (S st2), .ref p, .int need2]) nT
    exact k T p st2 ks2 need2 _ (fun a o ne e => s5 _ _ (sG a o ne e)) (bag_upd bG nT) ⟨upd_same, hc.same s5, hT.k3, fst, by omega, fun q m => by have := (sz' q m).1; omega⟩ pb k11' sz'
end
end Pm
namespace Pm
open PySem PySem.Spec PyProof.Rows L2 SX NdefX
theorem andW {ta tb : TE} {σ : L2.St} {G : Hp} {Q : VK} (b c : Bool) (ha : ∀ Q' : VK, Q' (.bl b) G → ta σ G Q') (hb : ∀ Q' : VK, Q' (.bl c) G → tb σ G Q') (h : Q (.bl (b && c)) G) : tAndV ta tb σ G Q := by
  refine ha _ ⟨_, rfl, ?_⟩
  cases b
  · exact iteF h
  · exact iteT (hb _ h)
theorem fst_congr {f g : Cnd → Cnd} (hf : ∀ c, (f c).1 = (g c).1) (hd : ∀ c, diffB 35 (f c).2 = diffB 35 (g c).2) : ∀ (cs : List Cnd) (i : Nat) (seen : List (Int × Int)), fstBad i seen (cs.map f) = fstBad i seen (cs.map g)
  | [], _, _ => rfl
  | c :: r, i, seen => by
    rw [List.map_cons, List.map_cons, fst_step, fst_step]
    have e : badAt i seen (f c) = badAt i seen (g c) := by
      unfold badAt
      rw [hf c, hd c]
    rw [e, hf c, fst_congr hf hd r]
def faC (c : Cnd) : Cnd := (c.1, [97])
theorem fault_same (st : List Nat) (cs : List Cnd) (need : Int) : faultL 2 st (cs.map faC) need = faultOf 2 st cs need := by
  show faultS (cs.map faC) need = faultS (cs.map fun c => wideC c.1) need
  have e := fst_congr (f := faC) (g := fun c => wideC c.1) (fun _ => rfl) (fun _ => by
    show diffB 35 [97] = diffB 35 alphaL
    decide +kernel) cs 1 []
  unfold faultS
  rw [e, List.length_map, List.length_map]
theorem fault_all (st : List Nat) (cs : List Cnd) (need : Int) : faultL 0 st cs 0 = faultOf 0 st cs need := by
  show faultC st cs 0 = faultR st cs
  unfold faultC
  cases faultR st cs with
  | some p => rfl
  | none => exact if_pos ⟨by omega, by omega⟩
theorem fault_count (st : List Nat) (cs : List Cnd) (need : Int) : faultL 1 st cs need = faultOf 1 st cs need := rfl
theorem RuleT.x {H : Hp} {t pl : Addr} {κ hue : Nat} {ks : List (Addr × Cnd)} {need : Int} (h : RuleT H t pl κ hue ks need) : RuleX H t pl κ [hue] ks need ∧ ks.length ≤ 11 ∧ Sz 3 ks ∧ faultOf κ [hue] (ks.map (·.2)) need = none := by
  have g := h.good
  have few : ks.length ≤ 8 := by
    have := g.few
    rwa [List.length_map] at this
  have sz : Sz 3 ks := fun q m => by
    have s := (g.each q.2 (List.mem_map.mpr ⟨q, m, rfl⟩)).2
    refine ⟨s.few, fun x hx => ?_⟩
    rcases s.all x hx with e | e
    · omega
    · unfold Let at e
      omega
  refine ⟨⟨h.at_, h.cs, g.k3, by show 1 ≤ 1000; decide, by omega, fun q m => by have := (sz q m).1; omega⟩, by omega, sz, ?_⟩
  have k3 := g.k3
  unfold faultOf
  by_cases k0 : κ = 0
  · rw [if_pos k0]
    exact g.faultR
  by_cases k1 : κ = 1
  · rw [if_neg k0, if_pos k1]
    exact g.faultC
  · rw [if_neg k0, if_neg k1]
    exact g.faultS
theorem condMore {ks : List (Addr × Cnd)} {G G3 H0 : Hp} {D T tt : Addr} {c d : Cnd} {i : Nat} {ns : List (Addr × Cnd)} {g : Cnd → Cnd} (lm : ks.length ≤ 1000) (nD : H0 D = none) (sm : Same H0 G) (hD : G D = some (.lst (refC ns))) (hns : ∀ q ∈ ns, G q.1 = some (CondO q.2))
    (en : ns.map (·.2) = (ks.take i).map fun q => g q.2) (hi : ks[i]? = some (tt, c)) (gd : g c = d) (s3 : Same G G3) (nT : G3 T = none) :
    (refC ns).length < sizeLine ∧ ∃ ns' : List (Addr × Cnd), Same H0 (upd (upd G3 T (CondO d)) D (.lst (refC ns ++ [.ref T]))) ∧
      upd (upd G3 T (CondO d)) D (.lst (refC ns ++ [.ref T])) D = some (.lst (refC ns')) ∧ (∀ q ∈ ns', upd (upd G3 T (CondO d)) D (.lst (refC ns ++ [.ref T])) q.1 = some (CondO q.2)) ∧ ns'.map (·.2) = (ks.take (i + 1)).map fun q => g q.2 := by
  have s4 := s3.trans (same_upd (o := CondO d) nT)
  have nDT : D ≠ T := ne_of_none (s3 _ _ hD) nT
  have li : i < ks.length := (List.getElem?_eq_some_iff.mp hi).1
  refine ⟨?_, ns ++ [(T, d)], fun b o e => ?_, ?_, fun q hq => ?_, ?_⟩
  · have e1 := congrArg List.length en
    rw [List.length_map, List.length_map, List.length_take] at e1
    rw [show (refC ns).length = ns.length from List.length_map _]
    exact small1000 (by omega)
  · rw [upd_ne (ne_of_none e nD)]
    exact s4 _ _ (sm _ _ e)
  · rw [upd_same]
    unfold refC
    rw [List.map_append]
    rfl
  · rcases List.mem_append.mp hq with z | z
    · have y := s4 _ _ (hns q z)
      rw [upd_ne (fun e => ?_)]
      · exact y
      · rw [e, s4 _ _ hD] at y
        cases y
    · rw [List.mem_singleton.mp z]
      rw [upd_ne nDT.symm, upd_same]
  · rw [List.map_append, en, List.take_add_one, hi, List.map_append]
    show _ ++ [d] = _ ++ [g c]
    rw [gd]
section
variable {P : Program} {w : World} {K : PySem.W.Frag} {mg : Str → Option Value} {base : Heap} {C CI CE CB CR CC CS : Addr}
def spLaw (K : PySem.W.Frag) : Sp := fun vs H Q _ => ∃ (a : Addr) (ns : List Int), vs = [.ref a] ∧ SqL K H a (ns.map V.int) ∧ ns.length ≤ 63 ∧ ∀ H', Q (.bl true) H'
abbrev nLaw : List Str := ["_law_script", "_law_bag_here", "_law_palette_here", "_law_rule_here", "_law_bent_here", "_law_k", "_law_fair", "_law_part"]
theorem scLaw : FnScope nLaw ["_law_script"] (defScope lLaw) := ⟨rfl, rfl, rfl, by decide +kernel, rfl, by decide +kernel, by decide +kernel⟩
theorem ok_law {f a1 a2 a3 a4 a5 a6 a7 : Addr} {fd b1 b2 b3 b4 b5 b6 b7 : FuncData} (F : Fun K "law" "law" lLaw f fd) (L : LTxt K mg)
    (cBag : Cl P w K mg base CX0 1 "_law_bag" ["_law_script"] (spBag K) a1 b1) (cTake : Cl P w K mg base CX0 1 "_law_take" tkNames spTake a2 b2) (cPal : Cl P w K mg base CX0 2 "_law_palette" ["_law_bag_here"] spPal a3 b3) (cRule : Cl P w K mg base CX0 4 "_law_rule" ["_law_bag_here", "_law_palette_here"] spRule a4 b4)
    (cPo : Cl P w K mg base CX0 8 "_law_part_of" ["_law_rule_here"] spPartOf a5 b5) (cBent : Cl P w K mg base CX0 3 "_law_bent" ["_law_bag_here", "_law_rule_here"] spBent a6 b6) (cFa : Cl P w K mg base CX0 2 "_law_fault" ["_law_rule_here"] spFault a7 b7) :
    FnOk P w K mg base CX0 9 f fd ["_law_script"] (spLaw K) := by
  refine F.ok scLaw (fun vs H Q E h => ?_) (fun cdv A outer s H vs Q E hr h => ?_)
  · obtain ⟨a, ns, rfl, _⟩ := h
    rfl
  · obtain ⟨a, ns, rfl, ha, few, k⟩ := h
    have hr1 : Room 1 _ := hr.mono (by decide)
    have hr2 : Room 2 _ := hr.mono (by decide)
    have hr3 : Room 3 _ := hr.mono (by decide)
    have hr4 : Room 4 _ := hr.mono (by decide)
    refine ⟨_, (pss_cons (ps_set (i := 1) scLaw.nd rfl (.inl rfl) (pe_call cBag.ok hr1 (by rfl) cBag.gl cBag.kp cBag.bd .nil pass0 (pa_cons (pv 0) pa_nil)))
      (pss_cons (ps_set (i := 2) scLaw.nd rfl (.inl rfl) (pe_call cPal.ok hr2 (by rfl) cPal.gl cPal.kp cPal.bd .nil pass0 (pa_cons (pv 1) pa_nil)))
      (pss_cons (ps_set (i := 3) scLaw.nd rfl (.inl rfl) (pe_call cRule.ok hr4 (by rfl) cRule.gl cRule.kp cRule.bd .nil pass0 (pa_cons (pv 1) (pa_cons (pv 2) pa_nil))))
      (pss_cons (ps_if (pt_cmpR op_ne (pe_call cPo.ok hr (by rfl) cPo.gl cPo.kp cPo.bd .nil pass0 (pa_cons (pv 3) pa_nil)) (pe_un un_neg pe_int) (nomark _)) (pss_one (ps_ret pe_bl)) pss_nil)
      (pss_cons (ps_set (i := 4) scLaw.nd rfl (.inl rfl) (pv 3))
      (pss_cons (ps_for PassesOwn.never rfl (pi_range1 (by rfl) L.rng (pa_cons (pe_call cTake.ok hr1 (by rfl) cTake.gl cTake.kp cTake.bd .nil pass0 (pa_cons (pv 1) (pa_cons pe_int pa_nil))) pa_nil)) (pg_name (i := 5) scLaw.nd rfl (.inl rfl)) (pss_one (ps_set (i := 4) scLaw.nd rfl (.inl rfl) (pe_call cBent.ok hr3 (by rfl) cBent.gl cBent.kp cBent.bd .nil pass0 (pa_cons (pv 1) (pa_cons (pv 4) pa_nil))))))
      (pss_cons (ps_set (i := 6) scLaw.nd rfl (.inl rfl) (pe_tup (pa_cons (pe_ix ix_tup (pv 4) pe_int (fun _ _ => rfl)) (pa_cons (pe_ix ix_tup (pv 4) pe_int (fun _ _ => rfl)) (pa_cons (pe_lc (own := [("_law_part", 7)]) (g := (gName 7)) (tt := tYes) (te := (tTup (tCons (tOp (rIxT K) (tVar 7) (tC (.int 0))) (tCons (tOp (rIxT K) (tVar 7) (tC (.int 1))) (tCons (tC (.str "a")) tNil))))) rfl scLaw.nd (pi_list (pe_ix ix_tup (pv 4) pe_int (fun _ _ => rfl))) (blkOk_by (own := [("_law_part", 7)]) (N := nLaw) (sc := defScope lLaw) (by decide +kernel)) (fun _ _ _ _ _ => (pg_name (i := 7) scLaw.nd rfl (.inl rfl))) (fun _ _ _ _ _ => pts_nil) (fun _ _ _ _ _ => (pe_tup (pa_cons (by exact pe_ix ix_tup (pv 7) pe_int (fun _ _ => rfl)) (pa_cons (by exact pe_ix ix_tup (pv 7) pe_int (fun _ _ => rfl)) (pa_cons pe_str pa_nil)))))) (pa_cons (pe_ix ix_tup (pv 4) pe_int (fun _ _ => rfl)) pa_nil))))))
      (pss_cons (ps_if (pt_cmpR op_ne (pe_ix ix_tup (pv 4) pe_int (fun _ _ => rfl)) pe_str (nomark _)) (pss_one (ps_set (i := 6) scLaw.nd rfl (.inl rfl) (pv 4))) pss_nil)
      (pss_cons (ps_if (pt_cmpR op_eq (pe_ix ix_tup (pv 4) pe_int (fun _ _ => rfl)) pe_str (nomark _)) (pss_one (ps_set (i := 6) scLaw.nd rfl (.inl rfl) (pe_tup (pa_cons (pe_ix ix_tup (pv 4) pe_int (fun _ _ => rfl)) (pa_cons (pe_ix ix_tup (pv 4) pe_int (fun _ _ => rfl)) (pa_cons (pe_ix ix_tup (pv 4) pe_int (fun _ _ => rfl)) (pa_cons pe_int pa_nil))))))) pss_nil)
      (pss_one (ps_ret (pe_and (pe_cmpR op_eq (pe_call cPo.ok hr (by rfl) cPo.gl cPo.kp cPo.bd .nil pass0 (pa_cons (pv 4) pa_nil)) (pe_call cFa.ok hr2 (by rfl) cFa.gl cFa.kp cFa.bd .nil pass0 (pa_cons (pv 6) pa_nil)) (nomark _)) (pe_one (pe_cmpR op_eq (pe_call cPo.ok hr (by rfl) cPo.gl cPo.kp cPo.bd .nil pass0 (pa_cons (pv 3) pa_nil)) (pe_un un_neg pe_int) (nomark _))))))))))))))), ?_⟩
    refine ⟨_, rfl, a, ns, rfl, ha, few, fun b l H1 s1 nb hb => ?_⟩
    refine ⟨_, rfl, b, l, rfl, hb, fun z H2 hz u2 b2 => ?_⟩
    refine ⟨_, rfl, _, rfl, b, l, _, rfl, b2, hz, fun t pl κ hue ks need H3 s3 b3 hT tb pb => ?_⟩
    obtain ⟨hX, k11, sz, nf⟩ := hT.x
    have k3 := hX.k3
    refine ⟨_, rfl, t, pl, κ, [hue], ks, need, rfl, hX, fun H4 s4 => ?_⟩
    rw [nf]
    refine ⟨1, rfl, rfl, _, rfl, iteF ?_⟩
    have hX4 := hX.same s4
    have b4 := bag_sb b3 s4
    obtain ⟨xb, hxb⟩ := bag_b b4
    clear s1 nb hb u2 b2 s3 b3 s4 hX hT
    refine ⟨_, rfl, _, rfl, b, l, 4, rfl, b4, by decide, by decide, fun m H5 m0 m1 u5 b5 => ⟨_, rfl, by omega, by omega, ?_⟩⟩
    have sb5 : SameBut b H4 H5 := fun a o ne e => by rw [u5 a ne]; exact e
    refine for_range (lo := 0) (n := m.toNat) (fun i σ G => ∃ bt bpl st' ks' need' y, σ = [some (.ref a), some (.ref b), some (.str (S z)), some (.ref t), some (.ref bt), y, none, none] ∧ SameBut b H4 G ∧ BagL G b l ∧ RuleX G bt bpl κ st' ks' need' ∧ bpl ≠ b ∧ ks'.length ≤ 11 ∧ Sz (3 + 2 * i) ks') ⟨t, pl, [hue], ks, need, _, rfl, sb5, b5, hX4.but sb5 hxb pb, pb, k11, sz⟩ ?_ ?_
    · rintro i σ G hi ⟨bt, bpl, st', ks', need', y, rfl, sG, bG, hB, bb, k11', sz'⟩
      refine ⟨_, rfl, _, rfl, b, l, bt, bpl, κ, st', ks', need', _, rfl, bG, hB, bb, k11', sz', by omega, fun t' pl' st2 ks2 need2 G2 s2 bG2 hB2 bb2 k2 sz2 => ?_⟩
      exact ⟨t', pl', st2, ks2, need2, _, rfl, fun a o ne e => s2 a o ne (sG a o ne e), bG2, hB2, bb2, k2, fun q mq => ⟨by have := (sz2 q mq).1; omega, (sz2 q mq).2⟩⟩
    · rintro σ G ⟨bt, bpl, st', ks', need', y, rfl, sG, bG, hB, bb, k11', sz'⟩
      have hR := hX4.but sG hxb pb
      refine ⟨_, rfl, bt, _, 0, _, rfl, rfl, SqT.of hB.at_, rfl, _, rfl, bt, _, 1, _, rfl, rfl, SqT.of hB.at_, rfl, _, rfl, bt, _, 2, _, rfl, rfl, SqT.of hB.at_, rfl, bpl, rfl, ⟨_, SqL.of hB.cs.lst⟩, fun D nD => lc_list (K := K) (a := bpl) (xs := refC ks') (fun i G' => ∃ ns : List (Addr × Cnd), Same G G' ∧ G' D = some (.lst (refC ns)) ∧ (∀ q ∈ ns, G' q.1 = some (CondO q.2)) ∧ ns.map (·.2) = (ks'.take i).map fun q => faC q.2) ⟨[], same_upd nD, upd_same, (fun p hp => nomatch hp), rfl⟩ (fun i G' _ ⟨ms, sm, _⟩ => SqL.of (sm _ _ hB.cs.lst)) ?_ ?_⟩
      · rintro i x G' hx ⟨ns, sm, hD, hns, en⟩
        obtain ⟨t1, c, hi, rfl⟩ := refC_at hx
        have htc := sm _ _ (hB.cs.each _ (List.mem_of_getElem? hi))
        refine ⟨rfl, tyes (iteT ⟨_, rfl, t1, _, 0, _, rfl, rfl, SqT.of htc, rfl, _, rfl, t1, _, 1, _, rfl, rfl, SqT.of htc, rfl, by show 3 ≤ sizeLine; decide, fun T nT => ?_⟩)⟩
        obtain ⟨a1, ns', a2, a3, a4, a5⟩ := condMore (d := faC c) hB.few nD sm hD hns en hi rfl (Same.refl G') nT
        exact ⟨_, same_upd nT _ _ hD, a1, ns', a2, a3, a4, a5⟩
      rintro G' ⟨ns, sm, hD, hns, en⟩
      rw [show (refC ks').length = ks'.length from List.length_map _, List.take_of_length_le (Nat.le_refl _)] at en
      have en2 : ns.map (·.2) = (ks'.map (·.2)).map faC := by
        rw [en, List.map_map]
        rfl
      have ln : ns.length = ks'.length := by
        have := congrArg List.length en
        rwa [List.length_map, List.length_map] at this
      have hB' := hB.same sm
      have hR' := hR.same sm
      refine ⟨_, rfl, bt, _, 3, _, rfl, rfl, SqT.of hB'.at_, rfl, by show 4 ≤ sizeLine; decide, fun T1 n1 => ?_⟩
      have s1 := same_upd (o := .tup [.str (kindT κ), .str (S st'), .ref D, .int need']) n1
      have hF : RuleX (upd G' T1 (.tup [.str (kindT κ), .str (S st'), .ref D, .int need'])) T1 D κ st' ns need' := ⟨upd_same, ⟨s1 _ _ hD, fun q m => s1 _ _ (hns q m)⟩, k3, hB.fst, by omega, fun q m => by
        have m2 : q.2 ∈ (ks'.map (·.2)).map faC := by
          rw [← en2]
          exact List.mem_map.mpr ⟨q, m, rfl⟩
        obtain ⟨d, _, e⟩ := List.mem_map.mp m2
        rw [← e]
        show 1 ≤ 1000
        decide⟩
      replace hB' := hB'.same s1
      replace hR' := hR'.same s1
      generalize upd G' T1 (.tup [.str (kindT κ), .str (S st'), .ref D, .int need']) = G1 at s1 hF hB' hR' ⊢
      refine setG ?_
      dsimp only
      refine joinW (fun σ G => ∃ ft fpl fks y7, σ = [some (.ref a), some (.ref b), some (.str (S z)), some (.ref t), some (.ref bt), y, some (.ref ft), y7] ∧ RuleX G ft fpl κ st' fks need' ∧ RuleX G bt bpl κ st' ks' need' ∧ RuleX G t pl κ [hue] ks need ∧ (κ ≠ 0 → faultL κ st' (fks.map (·.2)) need' = faultOf κ st' (ks'.map (·.2)) need')) (fun nx hnx => ?_) ?_
      · refine ifN (fun _ q => ⟨_, rfl, bt, _, 0, _, rfl, rfl, SqT.of hB'.at_, rfl, rfl, _, rfl, q⟩) (fun e => ?_) (fun e => ?_)
        · rw [kind_same k3] at e
          have k2 : κ ≠ 2 := by simpa using e
          refine ⟨_, rfl, hnx _ _ ⟨bt, bpl, ks', _, rfl, hB', hB', hR', fun k0 => ?_⟩⟩
          have k1 : κ = 1 := by omega
          subst k1
          exact fault_count _ _ _
        · rw [kind_same k3] at e
          have k2 : κ = 2 := by simpa using e
          refine hnx _ _ ⟨T1, D, ns, _, rfl, hF, hB', hR', fun _ => ?_⟩
          subst k2
          rw [en2]
          exact fault_same _ _ _
      rintro σ G2 ⟨ft, fpl, fks, y7, rfl, hF, hB', hR', ef⟩
      refine joinW (fun σ G => ∃ ft fpl fks fneed y7, σ = [some (.ref a), some (.ref b), some (.str (S z)), some (.ref t), some (.ref bt), y, some (.ref ft), y7] ∧ RuleX G ft fpl κ st' fks fneed ∧ RuleX G bt bpl κ st' ks' need' ∧ RuleX G t pl κ [hue] ks need ∧ faultL κ st' (fks.map (·.2)) fneed = faultOf κ st' (ks'.map (·.2)) need') (fun nx hnx => ?_) ?_
      · refine ifN (fun _ q => ⟨_, rfl, bt, _, 0, _, rfl, rfl, SqT.of hB'.at_, rfl, rfl, _, rfl, q⟩) (fun e => ?_) (fun e => ?_)
        · rw [kind_all k3] at e
          have k0 : κ = 0 := by simpa using e
          refine ⟨_, rfl, bt, _, 0, _, rfl, rfl, SqT.of hB'.at_, rfl, _, rfl, bt, _, 1, _, rfl, rfl, SqT.of hB'.at_, rfl, _, rfl, bt, _, 2, _, rfl, rfl, SqT.of hB'.at_, rfl, by show 4 ≤ sizeLine; decide, fun T2 n2 => ?_⟩
          have s2 := same_upd (o := .tup [.str (kindT κ), .str (S st'), .ref bpl, .int 0]) n2
          refine hnx _ _ ⟨T2, bpl, ks', 0, _, rfl, ⟨upd_same, hB'.cs.same s2, k3, hB'.fst, hB'.few, hB'.each⟩, hB'.same s2, hR'.same s2, ?_⟩
          subst k0
          exact fault_all _ _ _
        · rw [kind_all k3] at e
          have k0 : κ ≠ 0 := by simpa using e
          exact hnx _ _ ⟨ft, fpl, fks, need', _, rfl, hF, hB', hR', ef k0⟩
      rintro σ G3 ⟨ft, fpl, fks, fneed, y7, rfl, hF, hB', hR', ef⟩
      refine ⟨_, rfl, bt, bpl, κ, st', ks', need', rfl, hB', fun G4 s4 => ?_⟩
      refine ⟨_, rfl, ft, fpl, κ, st', fks, fneed, rfl, hF.same s4, fun G5 s5 => ?_⟩
      rw [ef]
      refine ⟨rfl, _, rfl, iteTe (by simp) ?_⟩
      refine ⟨_, rfl, t, pl, κ, [hue], ks, need, rfl, hR'.same (s4.trans s5), fun G6 s6 => ?_⟩
      rw [nf]
      exact ⟨1, rfl, rfl, k G6⟩
end
end Pm
namespace Pm
open PySem PySem.Spec PyProof.Rows L2 SX
theorem kit_cls {K : PySem.W.Frag} {D S : Addr} {cd : ClassData} {b : Bool} (ne : (D == S) = false) (c : PySem.W.clsIn K S = some cd) (t : PySem.W.typeIn K (.ref S) = some (.type "type")) (sub : PySem.W.subIn K (.ref D) (.ref S) = some b) : PySem.W.kitOne K (.ref D) (.ref S) = some b := by
  unfold PySem.W.kitOne
  rw [if_neg (by simpa using ne)]
  show (if ((PySem.W.clsIn K S).isSome && PySem.W.typeIn K (.ref S) == some (.type "type")) = true then PySem.W.subIn K (.ref D) (.ref S) else none) = some b
  rw [if_pos (by rw [c, t]; rfl), sub]
theorem kit_val {K : PySem.W.Frag} {D : Addr} (sub : PySem.W.subIn K (.ref D) (.type "ValueError") = some true) : PySem.W.kitOne K (.ref D) (.type "ValueError") = some true := by
  unfold PySem.W.kitOne
  rw [if_neg (by simp)]
  show (if PySem.W.kitMeta "ValueError" = true then PySem.W.subIn K (.ref D) (.type "ValueError") else none) = some true
  rw [if_pos (by decide +kernel), sub]
theorem exm_self {K : PySem.W.Frag} {D : Addr} (a : PySem.W.subIn K (.ref D) (.type "BaseException") = some true) (b : PySem.W.isClsIn K D = true) (c : PySem.W.typeIn K (.ref D) = some (.type "type")) (d : PySem.W.subIn K (.ref D) (.ref D) = some true) : PySem.W.exmOne K (.ref D) (.ref D) = some true := by
  have b2 : (PySem.W.clsIn K D).isSome = true := b
  show (if (PySem.W.subIn K (.ref D) (.type "BaseException") == some true) = true then _ else none) = some true
  rw [if_pos (by rw [a]; rfl)]
  show (if ((PySem.W.clsIn K D).isSome && PySem.W.typeIn K (.ref D) == some (.type "type")) = true then PySem.W.subIn K (.ref D) (.ref D) else none) = some true
  rw [if_pos (by rw [b2, c]; rfl), d]
theorem exm_cls {K : PySem.W.Frag} {D S : Addr} {b : Bool} (a : PySem.W.subIn K (.ref S) (.type "BaseException") = some true) (s1 : PySem.W.isClsIn K S = true) (c : PySem.W.typeIn K (.ref S) = some (.type "type")) (d : PySem.W.subIn K (.ref D) (.ref S) = some b) : PySem.W.exmOne K (.ref D) (.ref S) = some b := by
  have b2 : (PySem.W.clsIn K S).isSome = true := s1
  show (if (PySem.W.subIn K (.ref S) (.type "BaseException") == some true) = true then _ else none) = some b
  rw [if_pos (by rw [a]; rfl)]
  show (if ((PySem.W.clsIn K S).isSome && PySem.W.typeIn K (.ref S) == some (.type "type")) = true then PySem.W.subIn K (.ref D) (.ref S) else none) = some b
  rw [if_pos (by rw [b2, c]; rfl), d]
/-! ### what the top has left -/
theorem all_mk {l : PySem.W.OpenLaw} {w : World} {K : PySem.W.Frag} {h : Heap} {mg : Str → Option Value} {fa C CR CC CS fIR fLn fIS fIC ccIC cdaIC CI fEi CE CB fIs fDf fAs fPc fCk fNd fIo fBag fTake fIi fPal fOf fSg fPa fRu fLe fMa fBd fFa fPo fBp fBe fLaw : Addr} {cdtCR : ClassData} {cdtCC : ClassData} {cdtCS : ClassData} {vsIC : Array Value} {fileIC : Str} {tfIC : Tok} {nmCI qnCI : Str} {nsCI : Addr} {bsCI bmCI sbCI : List Value} {snCI : List Str} {abCI : Bool} {coCI : Option Bool} {ddCI : Option Addr} {x0CI x1CI x2CI x3CI x5CI : Option Value} {cdtCI : ClassData} {cdtCE : ClassData} {cdtCB : ClassData} (X : K.In h) (G : h.Ns mainGlobals mg) (hfa : mg "law" = some (.ref fa))
    {odIR anIR odLn anLn odIS anIS odIC anIC cldIC cddIC odEi anEi odIs anIs odDf anDf odAs anAs odPc anPc odCk anCk odNd anNd odIo anIo odBag anBag odTake anTake odIi anIi odPal anPal odOf anOf odSg anSg odPa anPa odRu anRu odLe anLe odMa anMa odBd anBd odFa anFa odPo anPo odBp anBp odBe anBe odLaw anLaw : Option Addr}
    {slIR slLn slIS slIC cslIC ccsIC slEi slIs slDf slAs slPc slCk slNd slIo slBag slTake slIi slPal slOf slSg slPa slRu slLe slMa slBd slFa slPo slBp slBe slLaw : Array (Option Value)}
    {uHo uEd uSn uMo uRe uMc ocIR kVIR dcIR pmIR cdIR ctIR ocLn kVLn dcLn pmLn cdLn ctLn ocIS kVIS dcIS pmIS cdIS ctIS ocIC kVIC dcIC pmIC ctIC clIC cclIC ocEi kVEi dcEi pmEi cdEi ctEi ocIs kVIs dcIs pmIs cdIs ctIs ocDf kVDf dcDf pmDf cdDf ctDf ocAs kVAs dcAs pmAs cdAs ctAs ocPc kVPc dcPc pmPc cdPc ctPc ocCk kVCk dcCk pmCk cdCk ctCk ocNd kVNd dcNd pmNd cdNd ctNd ocIo kVIo dcIo pmIo cdIo ctIo ocBag kVBag dcBag pmBag cdBag ctBag ocTake kVTake dcTake pmTake cdTake ctTake ocIi kVIi dcIi pmIi cdIi ctIi ocPal kVPal dcPal pmPal cdPal ctPal ocOf kVOf dcOf pmOf cdOf ctOf ocSg kVSg dcSg pmSg cdSg ctSg ocPa kVPa dcPa pmPa cdPa ctPa ocRu kVRu dcRu pmRu cdRu ctRu ocLe kVLe dcLe pmLe cdLe ctLe ocMa kVMa dcMa pmMa cdMa ctMa ocBd kVBd dcBd pmBd cdBd ctBd ocFa kVFa dcFa pmFa cdFa ctFa ocPo kVPo dcPo pmPo cdPo ctPo ocBp kVBp dcBp pmBp cdBp ctBp ocBe kVBe dcBe pmBe cdBe ctBe ocLaw kVLaw dcLaw pmLaw cdLaw ctLaw : Value}
    (cn : PySem.W.specialIn K (.builtin "object.__class__") "__get__" = some (some (.builtin "getset_descriptor.__get__")))
    (ct : PySem.W.takesIn K (.builtin "object.__class__") = some true)
    (gC : PySem.W.nsIn K mainGlobals "Picture" = some (some (.ref C)))
    (rdC : PySem.W.readsIn K C (.type "type") = true)
    (gaC : PySem.W.specialIn K (.ref C) "__getattribute__" = some (some (.builtin "type.__getattribute__")))
    (aHo : PySem.W.findCls K (.ref C) (.type "type") "HOLE" = some (.val uHo))
    (rlHo : L2.RelV (.str ".") uHo)
    (aEd : PySem.W.findCls K (.ref C) (.type "type") "EDGE" = some (.val uEd))
    (rlEd : L2.RelV (.str "#") uEd)
    (aSn : PySem.W.nsIn K mainGlobals "STONES" = some (some uSn))
    (rlSn : L2.RelV (.str alphaS) uSn)
    (aMo : PySem.W.nsIn K mainGlobals "MOST" = some (some uMo))
    (rlMo : L2.RelV (.int 8) uMo)
    (aRe : PySem.W.nsIn K mainGlobals "REACH" = some (some uRe))
    (rlRe : L2.RelV (.int 3) uRe)
    (aMc : PySem.W.nsIn K mainGlobals "MOST_CONDITIONS" = some (some uMc))
    (rlMc : L2.RelV (.int 8) uMc)
    (gCR : PySem.W.nsIn K mainGlobals "Rule" = some (some (.ref CR)))
    (cxCR : PySem.W.clsIn K CR = some cdtCR)
    (tyCR : PySem.W.typeIn K (.ref CR) = some (.type "type"))
    (pgCR : PySem.W.plainGet K CR Str.empty = true)
    (hdCR : PySem.W.hasDictIn K CR = true)
    (poCR : PySem.W.plainOver K CR = true)
    (saCR : PySem.W.findIn K (.ref CR) "__setattr__" = some (some (.builtin "object.__setattr__")))
    (mkCR : PySem.W.makesIn K CR = true)
    (kpCR : PySem.W.keepIn K (.ref CR) = true)
    (nCR_stone : PySem.W.findIn K (.ref CR) "stone" = some none)
    (nCR_conditions : PySem.W.findIn K (.ref CR) "_conditions" = some none)
    (nCR_need : PySem.W.findIn K (.ref CR) "need" = some none)
    (gCC : PySem.W.nsIn K mainGlobals "CountRule" = some (some (.ref CC)))
    (cxCC : PySem.W.clsIn K CC = some cdtCC)
    (tyCC : PySem.W.typeIn K (.ref CC) = some (.type "type"))
    (pgCC : PySem.W.plainGet K CC Str.empty = true)
    (hdCC : PySem.W.hasDictIn K CC = true)
    (poCC : PySem.W.plainOver K CC = true)
    (saCC : PySem.W.findIn K (.ref CC) "__setattr__" = some (some (.builtin "object.__setattr__")))
    (mkCC : PySem.W.makesIn K CC = true)
    (kpCC : PySem.W.keepIn K (.ref CC) = true)
    (nCC_stone : PySem.W.findIn K (.ref CC) "stone" = some none)
    (nCC_conditions : PySem.W.findIn K (.ref CC) "_conditions" = some none)
    (nCC_need : PySem.W.findIn K (.ref CC) "need" = some none)
    (gCS : PySem.W.nsIn K mainGlobals "SameRule" = some (some (.ref CS)))
    (cxCS : PySem.W.clsIn K CS = some cdtCS)
    (tyCS : PySem.W.typeIn K (.ref CS) = some (.type "type"))
    (pgCS : PySem.W.plainGet K CS Str.empty = true)
    (hdCS : PySem.W.hasDictIn K CS = true)
    (poCS : PySem.W.plainOver K CS = true)
    (saCS : PySem.W.findIn K (.ref CS) "__setattr__" = some (some (.builtin "object.__setattr__")))
    (mkCS : PySem.W.makesIn K CS = true)
    (kpCS : PySem.W.keepIn K (.ref CS) = true)
    (nCS_stone : PySem.W.findIn K (.ref CS) "stone" = some none)
    (nCS_conditions : PySem.W.findIn K (.ref CS) "_conditions" = some none)
    (nCS_need : PySem.W.findIn K (.ref CS) "need" = some none)
    (aIR : PySem.W.findIn K (.ref CR) "__init__" = some (some (.ref fIR)))
    (iIR : PySem.W.isFn K (.ref fIR) = true)
    (lIR : K.lookup fIR = some ⟨ocIR, odIR, .func (PySem.W.fnOf "__init__" "Rule.__init__" (defArgs cRuleInit) (defBody cRuleInit) (defScope cRuleInit) .none kVIR dcIR pmIR anIR cdIR ctIR), slIR⟩)
    (cIR : PySem.W.codeIn K cdIR "Rule.__init__" = true)
    (kIR : PySem.W.keepIn K (.ref fIR) = true)
    (aLn : PySem.W.findIn K (.ref CR) "__len__" = some (some (.ref fLn)))
    (iLn : PySem.W.isFn K (.ref fLn) = true)
    (lLn : K.lookup fLn = some ⟨ocLn, odLn, .func (PySem.W.fnOf "__len__" "Rule.__len__" (defArgs cRuleLen) (defBody cRuleLen) (defScope cRuleLen) .none kVLn dcLn pmLn anLn cdLn ctLn), slLn⟩)
    (cLn : PySem.W.codeIn K cdLn "Rule.__len__" = true)
    (kLn : PySem.W.keepIn K (.ref fLn) = true)
    (aLnCC : PySem.W.findIn K (.ref CC) "__len__" = some (some (.ref fLn)))
    (aLnCS : PySem.W.findIn K (.ref CS) "__len__" = some (some (.ref fLn)))
    (aIS : PySem.W.findIn K (.ref CS) "__init__" = some (some (.ref fIS)))
    (iIS : PySem.W.isFn K (.ref fIS) = true)
    (lIS : K.lookup fIS = some ⟨ocIS, odIS, .func (PySem.W.fnOf "__init__" "SameRule.__init__" (defArgs cSameRuleInit) (defBody cSameRuleInit) (defScope cSameRuleInit) .none kVIS dcIS pmIS anIS cdIS ctIS), slIS⟩)
    (cIS : PySem.W.codeIn K cdIS "SameRule.__init__" = true)
    (kIS : PySem.W.keepIn K (.ref fIS) = true)
    (aIC : PySem.W.findIn K (.ref CC) "__init__" = some (some (.ref fIC)))
    (iIC : PySem.W.isFn K (.ref fIC) = true)
    (lIC : K.lookup fIC = some ⟨ocIC, odIC, .func (PySem.W.fnX "__init__" "CountRule.__init__" (defArgs cCountRuleInit) (defBody cCountRuleInit) (defScope cCountRuleInit) [("__class__", ccIC)] .none kVIC dcIC pmIC anIC (.ref cdaIC) ctIC), slIC⟩)
    (cIC : PySem.W.codeIn K (.ref cdaIC) "CountRule.__init__" = true)
    (xIC : K.lookup ccIC = some ⟨clIC, cldIC, .cell (some (.ref CC)), cslIC⟩)
    (yIC : K.lookup cdaIC = some ⟨cclIC, cddIC, .fields vsIC, ccsIC⟩)
    (vIC : vsIC[2]? = some (.str fileIC tfIC))
    (hIC : ((l.prog.main.file : Str) == fileIC) = true)
    (tIC : (l.prog.main.scope.names.lookup ("super" : Str)).isSome = false)
    (nIC : PySem.W.nsIn K cStatics "thirdparty.any" = some none)
    (mIC : PySem.W.mroIn K CC (.ref CC) = some true)
    (sIC : PySem.W.ks_superIn K CC CC "__init__" = some (some (.ref fIR)))
    (tyIR : PySem.W.typeIn K (.ref fIR) = some (.type "function"))
    (fiIR : PySem.W.fnIn K fIR = true)
    (gCI : PySem.W.nsIn K mainGlobals "InvalidRule" = some (some (.ref CI)))
    (lkCI : K.lookup CI = some (excClassObj nmCI qnCI CI nsCI bsCI bmCI true snCI sbCI abCI coCI ddCI x0CI x1CI x2CI x3CI x5CI "ValueError.__new__"))
    (vbCI : PySem.HandSPX.refsVE bmCI = true)
    (atCI : PySem.W.findIn K (.ref CI) "__init__" = some (some (.ref fEi)))
    (ftCI : PySem.W.typeIn K (.ref fEi) = some (.type "function"))
    (lEi : K.lookup fEi = some ⟨ocEi, odEi, .func (PySem.W.fnOf "__init__" "InvalidRule.__init__" (defArgs cInvalidRuleInit) (defBody cInvalidRuleInit) (defScope cInvalidRuleInit) .none kVEi dcEi pmEi anEi cdEi ctEi), slEi⟩)
    (cEi : PySem.W.codeIn K cdEi "InvalidRule.__init__" = true)
    (kEi : PySem.W.keepIn K (.ref fEi) = true)
    (cxCI : PySem.W.clsIn K CI = some cdtCI)
    (tyCI : PySem.W.typeIn K (.ref CI) = some (.type "type"))
    (hgCI : PySem.W.findIn K (.ref CI) "__getattribute__" = some (some (.builtin "BaseException.__getattribute__")))
    (hkCI : PySem.W.findIn K (.ref CI) "__getattr__" = some none)
    (svCI : PySem.W.subIn K (.ref CI) (.type "BaseException") = some true)
    (sxCI : PySem.W.subIn K (.ref CI) (.ref CI) = some true)
    (icCI : PySem.W.isClsIn K CI = true)
    (haCI : PySem.W.findIn K (.ref CI) "__class__" = some (some (.builtin "object.__class__")))
    (hmCI : PySem.W.mroIn K CI (.type "object") = some true)
    (hdCI : PySem.W.hasDictIn K CI = true)
    (kpCI : PySem.W.keepIn K (.ref CI) = true)
    (nCI_part : PySem.W.findIn K (.ref CI) "part" = some none)
    (saCI : PySem.W.findIn K (.ref CI) "__setattr__" = some (some (.builtin "object.__setattr__")))
    (gCE : PySem.W.nsIn K mainGlobals "SmaltiError" = some (some (.ref CE)))
    (cxCE : PySem.W.clsIn K CE = some cdtCE)
    (tyCE : PySem.W.typeIn K (.ref CE) = some (.type "type"))
    (gCB : PySem.W.nsIn K mainGlobals "InvalidBook" = some (some (.ref CB)))
    (cxCB : PySem.W.clsIn K CB = some cdtCB)
    (tyCB : PySem.W.typeIn K (.ref CB) = some (.type "type"))
    (sbCICE : PySem.W.subIn K (.ref CI) (.ref CE) = some true)
    (neCICE : (CI == CE) = false)
    (sbCICB : PySem.W.subIn K (.ref CI) (.ref CB) = some false)
    (neCICB : (CI == CB) = false)
    (aIs : PySem.W.nsIn K mainGlobals "is_stone" = some (some (.ref fIs)))
    (lIs : K.lookup fIs = some ⟨ocIs, odIs, .func (PySem.W.fnOf "is_stone" "is_stone" (defArgs gIsStone) (defBody gIsStone) (defScope gIsStone) .none kVIs dcIs pmIs anIs cdIs ctIs), slIs⟩)
    (cIs : PySem.W.codeIn K cdIs "is_stone" = true)
    (kIs : PySem.W.keepIn K (.ref fIs) = true)
    (aDf : PySem.W.nsIn K mainGlobals "are_different_signs" = some (some (.ref fDf)))
    (lDf : K.lookup fDf = some ⟨ocDf, odDf, .func (PySem.W.fnOf "are_different_signs" "are_different_signs" (defArgs gAreDifferentSigns) (defBody gAreDifferentSigns) (defScope gAreDifferentSigns) .none kVDf dcDf pmDf anDf cdDf ctDf), slDf⟩)
    (cDf : PySem.W.codeIn K cdDf "are_different_signs" = true)
    (kDf : PySem.W.keepIn K (.ref fDf) = true)
    (aAs : PySem.W.nsIn K mainGlobals "in_ascii_order" = some (some (.ref fAs)))
    (lAs : K.lookup fAs = some ⟨ocAs, odAs, .func (PySem.W.fnOf "in_ascii_order" "in_ascii_order" (defArgs gInAsciiOrder) (defBody gInAsciiOrder) (defScope gInAsciiOrder) .none kVAs dcAs pmAs anAs cdAs ctAs), slAs⟩)
    (cAs : PySem.W.codeIn K cdAs "in_ascii_order" = true)
    (kAs : PySem.W.keepIn K (.ref fAs) = true)
    (aPc : PySem.W.nsIn K mainGlobals "_is_place" = some (some (.ref fPc)))
    (lPc : K.lookup fPc = some ⟨ocPc, odPc, .func (PySem.W.fnOf "_is_place" "_is_place" (defArgs gIsPlace) (defBody gIsPlace) (defScope gIsPlace) .none kVPc dcPc pmPc anPc cdPc ctPc), slPc⟩)
    (cPc : PySem.W.codeIn K cdPc "_is_place" = true)
    (kPc : PySem.W.keepIn K (.ref fPc) = true)
    (aCk : PySem.W.nsIn K mainGlobals "_check_conditions" = some (some (.ref fCk)))
    (lCk : K.lookup fCk = some ⟨ocCk, odCk, .func (PySem.W.fnOf "_check_conditions" "_check_conditions" (defArgs gCheckConditions) (defBody gCheckConditions) (defScope gCheckConditions) .none kVCk dcCk pmCk anCk cdCk ctCk), slCk⟩)
    (cCk : PySem.W.codeIn K cdCk "_check_conditions" = true)
    (kCk : PySem.W.keepIn K (.ref fCk) = true)
    (aNd : PySem.W.nsIn K mainGlobals "_check_need" = some (some (.ref fNd)))
    (lNd : K.lookup fNd = some ⟨ocNd, odNd, .func (PySem.W.fnOf "_check_need" "_check_need" (defArgs gCheckNeed) (defBody gCheckNeed) (defScope gCheckNeed) .none kVNd dcNd pmNd anNd cdNd ctNd), slNd⟩)
    (cNd : PySem.W.codeIn K cdNd "_check_need" = true)
    (kNd : PySem.W.keepIn K (.ref fNd) = true)
    (aIo : PySem.W.nsIn K mainGlobals "_in_order" = some (some (.ref fIo)))
    (lIo : K.lookup fIo = some ⟨ocIo, odIo, .func (PySem.W.fnOf "_in_order" "_in_order" (defArgs gInOrder) (defBody gInOrder) (defScope gInOrder) .none kVIo dcIo pmIo anIo cdIo ctIo), slIo⟩)
    (cIo : PySem.W.codeIn K cdIo "_in_order" = true)
    (kIo : PySem.W.keepIn K (.ref fIo) = true)
    (aBag : PySem.W.nsIn K mainGlobals "_law_bag" = some (some (.ref fBag)))
    (lBag : K.lookup fBag = some ⟨ocBag, odBag, .func (PySem.W.fnOf "_law_bag" "_law_bag" (defArgs lBag) (defBody lBag) (defScope lBag) .none kVBag dcBag pmBag anBag cdBag ctBag), slBag⟩)
    (cBag : PySem.W.codeIn K cdBag "_law_bag" = true)
    (kBag : PySem.W.keepIn K (.ref fBag) = true)
    (aTake : PySem.W.nsIn K mainGlobals "_law_take" = some (some (.ref fTake)))
    (lTake : K.lookup fTake = some ⟨ocTake, odTake, .func (PySem.W.fnOf "_law_take" "_law_take" (defArgs lTake) (defBody lTake) (defScope lTake) .none kVTake dcTake pmTake anTake cdTake ctTake), slTake⟩)
    (cTake : PySem.W.codeIn K cdTake "_law_take" = true)
    (kTake : PySem.W.keepIn K (.ref fTake) = true)
    (aIi : PySem.W.nsIn K mainGlobals "_law_is_int" = some (some (.ref fIi)))
    (lIi : K.lookup fIi = some ⟨ocIi, odIi, .func (PySem.W.fnOf "_law_is_int" "_law_is_int" (defArgs lIsInt) (defBody lIsInt) (defScope lIsInt) .none kVIi dcIi pmIi anIi cdIi ctIi), slIi⟩)
    (cIi : PySem.W.codeIn K cdIi "_law_is_int" = true)
    (kIi : PySem.W.keepIn K (.ref fIi) = true)
    (aPal : PySem.W.nsIn K mainGlobals "_law_palette" = some (some (.ref fPal)))
    (lPal : K.lookup fPal = some ⟨ocPal, odPal, .func (PySem.W.fnOf "_law_palette" "_law_palette" (defArgs lPalette) (defBody lPalette) (defScope lPalette) .none kVPal dcPal pmPal anPal cdPal ctPal), slPal⟩)
    (cPal : PySem.W.codeIn K cdPal "_law_palette" = true)
    (kPal : PySem.W.keepIn K (.ref fPal) = true)
    (aOf : PySem.W.nsIn K mainGlobals "_law_offset" = some (some (.ref fOf)))
    (lOf : K.lookup fOf = some ⟨ocOf, odOf, .func (PySem.W.fnOf "_law_offset" "_law_offset" (defArgs lOffset) (defBody lOffset) (defScope lOffset) .none kVOf dcOf pmOf anOf cdOf ctOf), slOf⟩)
    (cOf : PySem.W.codeIn K cdOf "_law_offset" = true)
    (kOf : PySem.W.keepIn K (.ref fOf) = true)
    (aSg : PySem.W.nsIn K mainGlobals "_law_signs" = some (some (.ref fSg)))
    (lSg : K.lookup fSg = some ⟨ocSg, odSg, .func (PySem.W.fnOf "_law_signs" "_law_signs" (defArgs lSigns) (defBody lSigns) (defScope lSigns) .none kVSg dcSg pmSg anSg cdSg ctSg), slSg⟩)
    (cSg : PySem.W.codeIn K cdSg "_law_signs" = true)
    (kSg : PySem.W.keepIn K (.ref fSg) = true)
    (aPa : PySem.W.nsIn K mainGlobals "_law_parts" = some (some (.ref fPa)))
    (lPa : K.lookup fPa = some ⟨ocPa, odPa, .func (PySem.W.fnOf "_law_parts" "_law_parts" (defArgs lParts) (defBody lParts) (defScope lParts) .none kVPa dcPa pmPa anPa cdPa ctPa), slPa⟩)
    (cPa : PySem.W.codeIn K cdPa "_law_parts" = true)
    (kPa : PySem.W.keepIn K (.ref fPa) = true)
    (aRu : PySem.W.nsIn K mainGlobals "_law_rule" = some (some (.ref fRu)))
    (lRu : K.lookup fRu = some ⟨ocRu, odRu, .func (PySem.W.fnOf "_law_rule" "_law_rule" (defArgs lRule) (defBody lRule) (defScope lRule) .none kVRu dcRu pmRu anRu cdRu ctRu), slRu⟩)
    (cRu : PySem.W.codeIn K cdRu "_law_rule" = true)
    (kRu : PySem.W.keepIn K (.ref fRu) = true)
    (aLe : PySem.W.nsIn K mainGlobals "_law_is_letter" = some (some (.ref fLe)))
    (lLe : K.lookup fLe = some ⟨ocLe, odLe, .func (PySem.W.fnOf "_law_is_letter" "_law_is_letter" (defArgs lIsLetter) (defBody lIsLetter) (defScope lIsLetter) .none kVLe dcLe pmLe anLe cdLe ctLe), slLe⟩)
    (cLe : PySem.W.codeIn K cdLe "_law_is_letter" = true)
    (kLe : PySem.W.keepIn K (.ref fLe) = true)
    (aMa : PySem.W.nsIn K mainGlobals "_law_made" = some (some (.ref fMa)))
    (lMa : K.lookup fMa = some ⟨ocMa, odMa, .func (PySem.W.fnOf "_law_made" "_law_made" (defArgs lMade) (defBody lMade) (defScope lMade) .none kVMa dcMa pmMa anMa cdMa ctMa), slMa⟩)
    (cMa : PySem.W.codeIn K cdMa "_law_made" = true)
    (kMa : PySem.W.keepIn K (.ref fMa) = true)
    (aBd : PySem.W.nsIn K mainGlobals "_law_bad_part" = some (some (.ref fBd)))
    (lBd : K.lookup fBd = some ⟨ocBd, odBd, .func (PySem.W.fnOf "_law_bad_part" "_law_bad_part" (defArgs lBadPart) (defBody lBadPart) (defScope lBadPart) .none kVBd dcBd pmBd anBd cdBd ctBd), slBd⟩)
    (cBd : PySem.W.codeIn K cdBd "_law_bad_part" = true)
    (kBd : PySem.W.keepIn K (.ref fBd) = true)
    (aFa : PySem.W.nsIn K mainGlobals "_law_fault" = some (some (.ref fFa)))
    (lFa : K.lookup fFa = some ⟨ocFa, odFa, .func (PySem.W.fnOf "_law_fault" "_law_fault" (defArgs lFault) (defBody lFault) (defScope lFault) .none kVFa dcFa pmFa anFa cdFa ctFa), slFa⟩)
    (cFa : PySem.W.codeIn K cdFa "_law_fault" = true)
    (kFa : PySem.W.keepIn K (.ref fFa) = true)
    (aPo : PySem.W.nsIn K mainGlobals "_law_part_of" = some (some (.ref fPo)))
    (lPo : K.lookup fPo = some ⟨ocPo, odPo, .func (PySem.W.fnOf "_law_part_of" "_law_part_of" (defArgs lPartOf) (defBody lPartOf) (defScope lPartOf) .none kVPo dcPo pmPo anPo cdPo ctPo), slPo⟩)
    (cPo : PySem.W.codeIn K cdPo "_law_part_of" = true)
    (kPo : PySem.W.keepIn K (.ref fPo) = true)
    (aBp : PySem.W.nsIn K mainGlobals "_law_bent_part" = some (some (.ref fBp)))
    (lBp : K.lookup fBp = some ⟨ocBp, odBp, .func (PySem.W.fnOf "_law_bent_part" "_law_bent_part" (defArgs lBentPart) (defBody lBentPart) (defScope lBentPart) .none kVBp dcBp pmBp anBp cdBp ctBp), slBp⟩)
    (cBp : PySem.W.codeIn K cdBp "_law_bent_part" = true)
    (kBp : PySem.W.keepIn K (.ref fBp) = true)
    (aBe : PySem.W.nsIn K mainGlobals "_law_bent" = some (some (.ref fBe)))
    (lBe : K.lookup fBe = some ⟨ocBe, odBe, .func (PySem.W.fnOf "_law_bent" "_law_bent" (defArgs lBent) (defBody lBent) (defScope lBent) .none kVBe dcBe pmBe anBe cdBe ctBe), slBe⟩)
    (cBe : PySem.W.codeIn K cdBe "_law_bent" = true)
    (kBe : PySem.W.keepIn K (.ref fBe) = true)
    (aLaw : PySem.W.nsIn K mainGlobals "law" = some (some (.ref fLaw)))
    (lLaw : K.lookup fLaw = some ⟨ocLaw, odLaw, .func (PySem.W.fnOf "law" "law" (defArgs lLaw) (defBody lLaw) (defScope lLaw) .none kVLaw dcLaw pmLaw anLaw cdLaw ctLaw), slLaw⟩)
    (cLaw : PySem.W.codeIn K cdLaw "law" = true)
    (kLaw : PySem.W.keepIn K (.ref fLaw) = true)
    (zisinstance : PySem.W.nsIn K mainGlobals "isinstance" = some none)
    (zint : PySem.W.nsIn K mainGlobals "int" = some none)
    (zbool : PySem.W.nsIn K mainGlobals "bool" = some none)
    (ztuple : PySem.W.nsIn K mainGlobals "tuple" = some none)
    (zlist : PySem.W.nsIn K mainGlobals "list" = some none)
    (zlen : PySem.W.nsIn K mainGlobals "len" = some none)
    (zrange : PySem.W.nsIn K mainGlobals "range" = some none)
    (zall : PySem.W.nsIn K mainGlobals "all" = some none)
    (zenumerate : PySem.W.nsIn K mainGlobals "enumerate" = some none)
    (zsorted : PySem.W.nsIn K mainGlobals "sorted" = some none)
    (zset : PySem.W.nsIn K mainGlobals "set" = some none)
    (zstr : PySem.W.nsIn K mainGlobals "str" = some none)
    (zsuper : PySem.W.nsIn K mainGlobals "super" = some none) :
    ∃ fd : FuncData, (∀ (s : Shared) (v : Value), BindsTo s fd ⟨[v], []⟩ [("_law_script", v)]) ∧ ∀ base : Heap, K.In base → base.Ns mainGlobals mg → FnOk l.prog w K mg base CX0 9 fa fd ["_law_script"] (spLaw K) := by
  have e := hfa.symm.trans (PySem.W.mg_of X G aLaw)
  cases e
  have g : ∀ {x : Str} {u : Value}, PySem.W.nsIn K mainGlobals x = some (some u) → mg x = some u := fun z => PySem.W.mg_of X G z
  have n : ∀ {x : Str}, PySem.W.nsIn K mainGlobals x = some none → mg x = none := fun z => PySem.W.mg_none_of X G z
  have clCR : L2.Cls K CR := ⟨pgCR, hdCR, poCR, saCR⟩
  have clCC : L2.Cls K CC := ⟨pgCC, hdCC, poCC, saCC⟩
  have clCS : L2.Cls K CS := ⟨pgCS, hdCS, poCS, saCS⟩
  have FIR := fun_mk (st := Pm.cRuleInit) lIR cIR kIR
  have bIR := FIR.binds (ps := ["self", "stone", "conditions"]) fun _ _ _ _ _ _ us hl => match us, hl with | [_, _, _], _ => rfl
  have FLn := fun_mk (st := Pm.cRuleLen) lLn cLn kLn
  have bLn := FLn.binds (ps := ["self"]) fun _ _ _ _ _ _ us hl => match us, hl with | [_], _ => rfl
  have FIS := fun_mk (st := Pm.cSameRuleInit) lIS cIS kIS
  have bIS := FIS.binds (ps := ["self", "places", "need"]) fun _ _ _ _ _ _ us hl => match us, hl with | [_, _, _], _ => rfl
  have FIC : FunS l.prog K "__init__" "CountRule.__init__" cCountRuleInit CC fIC ccIC cdaIC _ := ⟨⟨_, _, _, _, _, _, _, _, _, rfl, lIC, cIC⟩, ⟨_, _, _, xIC⟩, ⟨_, _, _, _, _, _, yIC, vIC, hIC⟩, ⟨_, cxCC⟩, tIC, nIC, ⟨_, rfl, rfl⟩⟩
  have bIC : Binds K (PySem.W.fnX "__init__" "CountRule.__init__" (defArgs cCountRuleInit) (defBody cCountRuleInit) (defScope cCountRuleInit) [("__class__", ccIC)] .none kVIC dcIC pmIC anIC (.ref cdaIC) ctIC) ["self", "stone", "conditions", "need"] [] := .all fun us hl => match us, hl with | [_, _, _, _], _ => rfl
  have FEi := fun_mk (st := Pm.cInvalidRuleInit) lEi cEi kEi
  have bEi := FEi.binds (ps := ["self", "part"]) fun _ _ _ _ _ _ us hl => match us, hl with | [_, _], _ => rfl
  have erCI : ErrC K CI := ⟨by rw [cxCI]; rfl, hgCI, hkCI, svCI, haCI, cn, ct, hmCI, hdCI⟩
  have teCI : PySem.W.exmOne K (.ref CI) (.ref CI) = some true := exm_self svCI icCI tyCI sxCI
  have oxCI : OexC K CI := ⟨⟨nmCI, qnCI, nsCI, bsCI, bmCI, snCI, sbCI, abCI, coCI, ddCI, x0CI, x1CI, x2CI, x3CI, x5CI, lkCI, vbCI⟩, saCI, svCI, tyCI, kpCI⟩
  have kitCICE : PySem.W.kitOne K (.ref CI) (.ref CE) = some true := kit_cls neCICE cxCE tyCE sbCICE
  have kitCICB : PySem.W.kitOne K (.ref CI) (.ref CB) = some false := kit_cls neCICB cxCB tyCB sbCICB
  have FIs := fun_mk (st := Pm.gIsStone) lIs cIs kIs
  have bIs := FIs.binds (ps := ["sign"]) fun _ _ _ _ _ _ us hl => match us, hl with | [_], _ => rfl
  have FDf := fun_mk (st := Pm.gAreDifferentSigns) lDf cDf kDf
  have bDf := FDf.binds (ps := ["signs", "besides"]) fun _ _ _ _ _ _ us hl => match us, hl with | [_, _], _ => rfl
  have FAs := fun_mk (st := Pm.gInAsciiOrder) lAs cAs kAs
  have bAs := FAs.binds (ps := ["signs"]) fun _ _ _ _ _ _ us hl => match us, hl with | [_], _ => rfl
  have FPc := fun_mk (st := Pm.gIsPlace) lPc cPc kPc
  have bPc := FPc.binds (ps := ["dx", "dy"]) fun _ _ _ _ _ _ us hl => match us, hl with | [_, _], _ => rfl
  have FCk := fun_mk (st := Pm.gCheckConditions) lCk cCk kCk
  have bCk := FCk.binds (ps := ["conditions"]) fun _ _ _ _ _ _ us hl => match us, hl with | [_], _ => rfl
  have FNd := fun_mk (st := Pm.gCheckNeed) lNd cNd kNd
  have bNd := FNd.binds (ps := ["need", "count"]) fun _ _ _ _ _ _ us hl => match us, hl with | [_, _], _ => rfl
  have FIo := fun_mk (st := Pm.gInOrder) lIo cIo kIo
  have bIo := FIo.binds (ps := ["conditions"]) fun _ _ _ _ _ _ us hl => match us, hl with | [_], _ => rfl
  have FBag := fun_mk (st := Pm.lBag) lBag cBag kBag
  have bBag := FBag.binds (ps := ["_law_script"]) fun _ _ _ _ _ _ us hl => match us, hl with | [_], _ => rfl
  have FTake := fun_mk (st := Pm.lTake) lTake cTake kTake
  have bTake := FTake.binds (ps := ["_law_bag_here", "_law_size"]) fun _ _ _ _ _ _ us hl => match us, hl with | [_, _], _ => rfl
  have FIi := fun_mk (st := Pm.lIsInt) lIi cIi kIi
  have bIi := FIi.binds (ps := ["_law_value"]) fun _ _ _ _ _ _ us hl => match us, hl with | [_], _ => rfl
  have FPal := fun_mk (st := Pm.lPalette) lPal cPal kPal
  have bPal := FPal.binds (ps := ["_law_bag_here"]) fun _ _ _ _ _ _ us hl => match us, hl with | [_], _ => rfl
  have FOf := fun_mk (st := Pm.lOffset) lOf cOf kOf
  have bOf := FOf.binds (ps := ["_law_bag_here"]) fun _ _ _ _ _ _ us hl => match us, hl with | [_], _ => rfl
  have FSg := fun_mk (st := Pm.lSigns) lSg cSg kSg
  have bSg := FSg.binds (ps := ["_law_bag_here", "_law_palette_here"]) fun _ _ _ _ _ _ us hl => match us, hl with | [_, _], _ => rfl
  have FPa := fun_mk (st := Pm.lParts) lPa cPa kPa
  have bPa := FPa.binds (ps := ["_law_bag_here", "_law_palette_here"]) fun _ _ _ _ _ _ us hl => match us, hl with | [_, _], _ => rfl
  have FRu := fun_mk (st := Pm.lRule) lRu cRu kRu
  have bRu := FRu.binds (ps := ["_law_bag_here", "_law_palette_here"]) fun _ _ _ _ _ _ us hl => match us, hl with | [_, _], _ => rfl
  have FLe := fun_mk (st := Pm.lIsLetter) lLe cLe kLe
  have bLe := FLe.binds (ps := ["_law_text"]) fun _ _ _ _ _ _ us hl => match us, hl with | [_], _ => rfl
  have FMa := fun_mk (st := Pm.lMade) lMa cMa kMa
  have bMa := FMa.binds (ps := ["_law_rule_here"]) fun _ _ _ _ _ _ us hl => match us, hl with | [_], _ => rfl
  have FBd := fun_mk (st := Pm.lBadPart) lBd cBd kBd
  have bBd := FBd.binds (ps := ["_law_part", "_law_earlier"]) fun _ _ _ _ _ _ us hl => match us, hl with | [_, _], _ => rfl
  have FFa := fun_mk (st := Pm.lFault) lFa cFa kFa
  have bFa := FFa.binds (ps := ["_law_rule_here"]) fun _ _ _ _ _ _ us hl => match us, hl with | [_], _ => rfl
  have FPo := fun_mk (st := Pm.lPartOf) lPo cPo kPo
  have bPo := FPo.binds (ps := ["_law_rule_here"]) fun _ _ _ _ _ _ us hl => match us, hl with | [_], _ => rfl
  have FBp := fun_mk (st := Pm.lBentPart) lBp cBp kBp
  have bBp := FBp.binds (ps := ["_law_bag_here", "_law_parts_here"]) fun _ _ _ _ _ _ us hl => match us, hl with | [_, _], _ => rfl
  have FBe := fun_mk (st := Pm.lBent) lBe cBe kBe
  have bBe := FBe.binds (ps := ["_law_bag_here", "_law_rule_here"]) fun _ _ _ _ _ _ us hl => match us, hl with | [_, _], _ => rfl
  have FLaw := fun_mk (st := Pm.lLaw) lLaw cLaw kLaw
  refine ⟨PySem.W.fnOf "law" "law" (defArgs Pm.lLaw) (defBody Pm.lLaw) (defScope Pm.lLaw) .none kVLaw dcLaw pmLaw anLaw cdLaw ctLaw, fun s v => .of_eq rfl, fun base _ _ => ?_⟩
  have L : LTxt K mg := ⟨n zisinstance, n zint, n zlist, n zlen, n zrange⟩
  have R : STxt K mg := ⟨n zset, n zsorted⟩
  have U : UTx K mg := ⟨⟨_, g aRe, rlRe⟩, ⟨_, g aMc, rlMc⟩⟩
  have T : PTxt K mg C := ⟨g gC, ⟨_, ⟨rdC, gaC⟩, ⟨_, aHo, rlHo⟩, ⟨_, aEd, rlEd⟩⟩, ⟨_, g aSn, rlSn⟩, ⟨_, g aMo, rlMo⟩, n zall, n zenumerate⟩
  have TR : RCls K CR := ⟨clCR, nCR_stone, nCR_conditions, nCR_need⟩
  have TC : RCls K CC := ⟨clCC, nCC_stone, nCC_conditions, nCC_need⟩
  have TS : RCls K CS := ⟨clCS, nCS_stone, nCS_conditions, nCS_need⟩
  have Gt : GTx mg CR CC CS := ⟨g gCR, g gCC, g gCS⟩
  have Y : ATx K mg CI CE CB := ⟨g gCI, g gCE, g gCB, erCI, nCI_part, teCI, kitCICE, kitCICB⟩
  have cIs : Cl l.prog w K mg base CX0 1 "is_stone" ["sign"] spStone fIs _ := ⟨ok_stone FIs L T, kIs, bIs, g aIs⟩
  have cDf : Cl l.prog w K mg base CX0 2 "are_different_signs" ["signs", "besides"] spDiff fDf _ := ⟨ok_differ FDf cIs L T R, kDf, bDf, g aDf⟩
  have cAs : Cl l.prog w K mg base CX0 1 "in_ascii_order" ["signs"] spAsc fAs _ := ⟨ok_asc FAs R, kAs, bAs, g aAs⟩
  have cPc : Cl l.prog w K mg base CX0 1 "_is_place" ["dx", "dy"] spPlace fPc _ := ⟨ok_place FPc U, kPc, bPc, g aPc⟩
  have xI : EMk l.prog w K mg base CI "InvalidRule" ["self", "part"] (spE1 CI "part") fEi _ := ⟨oxCI, atCI, ftCI, okEInvalidRule FEi oxCI nCI_part, bEi, g gCI⟩
  have cCk : Cl l.prog w K mg base (L2.CX l.prog w) 3 "_check_conditions" ["conditions"] (spCheck CI) fCk _ := ⟨ok_check FCk cPc cDf xI T R U, kCk, bCk, g aCk⟩
  have cNd : Cl l.prog w K mg base (L2.CX l.prog w) 3 "_check_need" ["need", "count"] (spNeed CI) fNd _ := ⟨ok_need FNd xI, kNd, bNd, g aNd⟩
  have cIo : Cl l.prog w K mg base CX0 2 "_in_order" ["conditions"] spInOrder fIo _ := ⟨ok_inorder FIo cAs R, kIo, bIo, g aIo⟩
  have OIR := ok_ruleinit FIR cIs cCk cIo xI
  have OIC := ok_countinit FIC (n zsuper) ⟨mIC, sIC, tyIR, fiIR⟩ OIR bIR cNd L TC
  have OIS := ok_sameinit FIS cCk cIo cNd L T TS
  have kR : Ctor l.prog w K mg base CR 4 ["self", "stone", "conditions"] (spRuleInit CI K) fIR _ := ⟨⟨mkCR, aIR, iIR, kpCR⟩, OIR, bIR, TR⟩
  have kC : Ctor l.prog w K mg base CC 5 ["self", "stone", "conditions", "need"] (spCountInit CI CC K) fIC _ := ⟨⟨mkCC, aIC, iIC, kpCC⟩, OIC, bIC, TC⟩
  have kS : Ctor l.prog w K mg base CS 5 ["self", "places", "need"] (spSameInit CI CS K) fIS _ := ⟨⟨mkCS, aIS, iIS, kpCS⟩, OIS, bIS, TS⟩
  have cTake : Cl l.prog w K mg base CX0 1 "_law_take" tkNames spTake fTake _ := ⟨ok_take FTake L.len L.int, kTake, bTake, g aTake⟩
  have cOf : Cl l.prog w K mg base CX0 2 "_law_offset" ["_law_bag_here"] spOffset fOf _ := ⟨ok_offset FOf cTake L, kOf, bOf, g aOf⟩
  have cSg : Cl l.prog w K mg base CX0 2 "_law_signs" ["_law_bag_here", "_law_palette_here"] spSigns fSg _ := ⟨ok_signs FSg cTake, kSg, bSg, g aSg⟩
  have cPa : Cl l.prog w K mg base CX0 3 "_law_parts" ["_law_bag_here", "_law_palette_here"] spParts fPa _ := ⟨ok_parts FPa cTake cOf cSg L, kPa, bPa, g aPa⟩
  have cRu : Cl l.prog w K mg base CX0 4 "_law_rule" ["_law_bag_here", "_law_palette_here"] spRule fRu _ := ⟨ok_rule FRu cTake cPa L, kRu, bRu, g aRu⟩
  have cLe : Cl l.prog w K mg base CX0 1 "_law_is_letter" ["_law_text"] spStone fLe _ := ⟨ok_letter FLe L, kLe, bLe, g aLe⟩
  have cMa : Cl l.prog w K mg base (L2.CX l.prog w) 7 "_law_made" ["_law_rule_here"] (spMadeE CI CR CC CS) fMa _ := ⟨ok_madeE FMa L Gt kR kC kS, kMa, bMa, g aMa⟩
  have cBd : Cl l.prog w K mg base CX0 1 "_law_bad_part" ["_law_part", "_law_earlier"] spBadP fBd _ := ⟨ok_badpart FBd L, kBd, bBd, g aBd⟩
  have cFa : Cl l.prog w K mg base CX0 2 "_law_fault" ["_law_rule_here"] spFault fFa _ := ⟨ok_fault FFa L cLe cBd, kFa, bFa, g aFa⟩
  have cPo : Cl l.prog w K mg base CX0 8 "_law_part_of" ["_law_rule_here"] spPartOf fPo _ := ⟨ok_partof FPo L Y cMa (hot_int FIi L (n zbool)) kIi bIi (g aIi)
    (fun κ hκ => match κ, hκ with
      | 0, _ => ok_lenR FLn TR L
      | 1, _ => ok_lenR FLn TC L
      | 2, _ => ok_lenR FLn TS L) bLn
    (fun κ hκ => match κ, hκ with
      | 0, _ => ⟨aLn, iLn⟩
      | 1, _ => ⟨aLnCC, iLn⟩
      | 2, _ => ⟨aLnCS, iLn⟩), kPo, bPo, g aPo⟩
  have cBp : Cl l.prog w K mg base CX0 2 "_law_bent_part" ["_law_bag_here", "_law_parts_here"] spBentP fBp _ := ⟨ok_bentpart FBp cTake L, kBp, bBp, g aBp⟩
  have cBe : Cl l.prog w K mg base CX0 3 "_law_bent" ["_law_bag_here", "_law_rule_here"] spBent fBe _ := ⟨ok_bent FBe cTake cBp L, kBe, bBe, g aBe⟩
  exact ok_law FLaw L ⟨ok_bag FBag L, kBag, bBag, g aBag⟩ cTake ⟨ok_pal FPal cTake L, kPal, bPal, g aPal⟩ cRu cPo cBe cFa
theorem walk {l : PySem.W.OpenLaw} {q : Program} {loose : List Str} {XP : (Str → Option Value) → Heap → Prop} {YP : World → Heap → Prop} {d : DefRec} {K : Params → PySem.W.Frag} (hn : l.most = some 63) (hdf : d.params.defaults = [])
    (hY : ∀ (w : World) (h : Heap), YP w h → (K w.params).In h)
    (F : ∀ (w : World) (mg : Str → Option Value) (fa : Addr) (h : Heap), (K w.params).In h → h.Ns mainGlobals mg → mg d.name = some (.ref fa) →
      ∃ fd : FuncData, (∀ (s : Shared) (u : Value), BindsTo s fd ⟨[u], []⟩ [("_law_script", u)]) ∧ ∀ base : Heap, (K w.params).In base → base.Ns mainGlobals mg → FnOk l.prog w (K w.params) mg base CX0 9 fa fd ["_law_script"] (spLaw (K w.params))) :
    PySem.W.WalkO q loose XP YP l.row.toRowW d [] (fun f vs => PySem.call f vs) :=
  L2.walk_of (n := 63) (k := 9) (x := "_law_script") (CX := fun _ => CX0) (sp := fun w => spLaw (K w.params)) hn (by decide) hdf ⟨rfl, by decide, by decide⟩ hY F (fun _ _ a ns hl _ hS => ⟨a, ns, rfl, hS, hl, fun _ => rfl⟩) fun _ _ _ _ _ z => z
end Pm

open PySem PySem.W PyProof.Rows in
set_option maxRecDepth 100000 in
set_option maxHeartbeats 0 in
theorem PySem.Challenge.cw_smalti_k11_rule_refused_holds : PySem.Challenge.rw_smalti_k11_rule_refused.Holds := by
  w_on; o_law; k_head; (case hw => w_witness2)
  k_fill
  refine Pm.walk (l := PySem.Challenge.rw_smalti_k11_rule_refused) rfl rfl (fun w h Y => PySem.W.kIn_of Y) ?F
  case F =>
    intro w mg fa h KX G hmg
    refine' Pm.all_mk KX G hmg ?cn ?ct ?gC ?rdC ?gaC ?aHo ?rlHo ?aEd ?rlEd ?aSn ?rlSn ?aMo ?rlMo ?aRe ?rlRe ?aMc ?rlMc ?gCR ?cxCR ?tyCR ?pgCR ?hdCR ?poCR ?saCR ?mkCR ?kpCR ?nCR_stone ?nCR_conditions ?nCR_need ?gCC ?cxCC ?tyCC ?pgCC ?hdCC ?poCC ?saCC ?mkCC ?kpCC ?nCC_stone ?nCC_conditions ?nCC_need ?gCS ?cxCS ?tyCS ?pgCS ?hdCS ?poCS ?saCS ?mkCS ?kpCS ?nCS_stone ?nCS_conditions ?nCS_need ?aIR ?iIR ?lIR ?cIR ?kIR ?aLn ?iLn ?lLn ?cLn ?kLn ?aLnCC ?aLnCS ?aIS ?iIS ?lIS ?cIS ?kIS ?aIC ?iIC ?lIC ?cIC ?xIC ?yIC ?vIC ?hIC ?tIC ?nIC ?mIC ?sIC ?tyIR ?fiIR ?gCI ?lkCI ?vbCI ?atCI ?ftCI ?lEi ?cEi ?kEi ?cxCI ?tyCI ?hgCI ?hkCI ?svCI ?sxCI ?icCI ?haCI ?hmCI ?hdCI ?kpCI ?nCI_part ?saCI ?gCE ?cxCE ?tyCE ?gCB ?cxCB ?tyCB ?sbCICE ?neCICE ?sbCICB ?neCICB ?aIs ?lIs ?cIs ?kIs ?aDf ?lDf ?cDf ?kDf ?aAs ?lAs ?cAs ?kAs ?aPc ?lPc ?cPc ?kPc ?aCk ?lCk ?cCk ?kCk ?aNd ?lNd ?cNd ?kNd ?aIo ?lIo ?cIo ?kIo ?aBag ?lBag ?cBag ?kBag ?aTake ?lTake ?cTake ?kTake ?aIi ?lIi ?cIi ?kIi ?aPal ?lPal ?cPal ?kPal ?aOf ?lOf ?cOf ?kOf ?aSg ?lSg ?cSg ?kSg ?aPa ?lPa ?cPa ?kPa ?aRu ?lRu ?cRu ?kRu ?aLe ?lLe ?cLe ?kLe ?aMa ?lMa ?cMa ?kMa ?aBd ?lBd ?cBd ?kBd ?aFa ?lFa ?cFa ?kFa ?aPo ?lPo ?cPo ?kPo ?aBp ?lBp ?cBp ?kBp ?aBe ?lBe ?cBe ?kBe ?aLaw ?lLaw ?cLaw ?kLaw ?zisinstance ?zint ?zbool ?ztuple ?zlist ?zlen ?zrange ?zall ?zenumerate ?zsorted ?zset ?zstr ?zsuper
    (case cn => k_is)
    (case ct => k_is)
    (case gC => k_is)
    (case rdC => k_is)
    (case gaC => k_is)
    (case aHo => k_is)
    (case rlHo => exact ⟨_, rfl⟩)
    (case aEd => k_is)
    (case rlEd => exact ⟨_, rfl⟩)
    (case aSn => k_is)
    (case rlSn => exact ⟨_, rfl⟩)
    (case aMo => k_is)
    (case rlMo => exact ⟨_, rfl⟩)
    (case aRe => k_is)
    (case rlRe => exact ⟨_, rfl⟩)
    (case aMc => k_is)
    (case rlMc => exact ⟨_, rfl⟩)
    (case gCR => k_is)
    (case cxCR => k_is)
    (case tyCR => k_is)
    (case pgCR => k_is)
    (case hdCR => k_is)
    (case poCR => k_is)
    (case saCR => k_is)
    (case mkCR => k_is)
    (case kpCR => k_is)
    (case nCR_stone => k_is)
    (case nCR_conditions => k_is)
    (case nCR_need => k_is)
    (case gCC => k_is)
    (case cxCC => k_is)
    (case tyCC => k_is)
    (case pgCC => k_is)
    (case hdCC => k_is)
    (case poCC => k_is)
    (case saCC => k_is)
    (case mkCC => k_is)
    (case kpCC => k_is)
    (case nCC_stone => k_is)
    (case nCC_conditions => k_is)
    (case nCC_need => k_is)
    (case gCS => k_is)
    (case cxCS => k_is)
    (case tyCS => k_is)
    (case pgCS => k_is)
    (case hdCS => k_is)
    (case poCS => k_is)
    (case saCS => k_is)
    (case mkCS => k_is)
    (case kpCS => k_is)
    (case nCS_stone => k_is)
    (case nCS_conditions => k_is)
    (case nCS_need => k_is)
    (case aIR => k_is)
    (case iIR => k_is)
    (case lIR => k_is)
    (case cIR => k_is)
    (case kIR => k_is)
    (case aLn => k_is)
    (case iLn => k_is)
    (case lLn => k_is)
    (case cLn => k_is)
    (case kLn => k_is)
    (case aLnCC => k_is)
    (case aLnCS => k_is)
    (case aIS => k_is)
    (case iIS => k_is)
    (case lIS => k_is)
    (case cIS => k_is)
    (case kIS => k_is)
    (case aIC => k_is)
    (case iIC => k_is)
    (case lIC => k_is)
    (case cIC => k_is)
    (case xIC => k_is)
    (case yIC => k_is)
    (case vIC => rfl)
    (case hIC => decide +kernel)
    (case tIC => decide +kernel)
    (case nIC => k_is)
    (case mIC => k_is)
    (case sIC => ks_is)
    (case tyIR => k_is)
    (case fiIR => k_is)
    (case gCI => k_is)
    (case lkCI => k_is)
    (case vbCI => decide +kernel)
    (case atCI => k_is)
    (case ftCI => k_is)
    (case lEi => k_is)
    (case cEi => k_is)
    (case kEi => k_is)
    (case cxCI => k_is)
    (case tyCI => k_is)
    (case hgCI => k_is)
    (case hkCI => k_is)
    (case svCI => k_is)
    (case sxCI => k_is)
    (case icCI => k_is)
    (case haCI => k_is)
    (case hmCI => k_is)
    (case hdCI => k_is)
    (case kpCI => k_is)
    (case nCI_part => k_is)
    (case saCI => k_is)
    (case gCE => k_is)
    (case cxCE => k_is)
    (case tyCE => k_is)
    (case gCB => k_is)
    (case cxCB => k_is)
    (case tyCB => k_is)
    (case sbCICE => k_is)
    (case neCICE => rfl)
    (case sbCICB => k_is)
    (case neCICB => rfl)
    (case aIs => k_is)
    (case lIs => k_is)
    (case cIs => k_is)
    (case kIs => k_is)
    (case aDf => k_is)
    (case lDf => k_is)
    (case cDf => k_is)
    (case kDf => k_is)
    (case aAs => k_is)
    (case lAs => k_is)
    (case cAs => k_is)
    (case kAs => k_is)
    (case aPc => k_is)
    (case lPc => k_is)
    (case cPc => k_is)
    (case kPc => k_is)
    (case aCk => k_is)
    (case lCk => k_is)
    (case cCk => k_is)
    (case kCk => k_is)
    (case aNd => k_is)
    (case lNd => k_is)
    (case cNd => k_is)
    (case kNd => k_is)
    (case aIo => k_is)
    (case lIo => k_is)
    (case cIo => k_is)
    (case kIo => k_is)
    (case aBag => k_is)
    (case lBag => k_is)
    (case cBag => k_is)
    (case kBag => k_is)
    (case aTake => k_is)
    (case lTake => k_is)
    (case cTake => k_is)
    (case kTake => k_is)
    (case aIi => k_is)
    (case lIi => k_is)
    (case cIi => k_is)
    (case kIi => k_is)
    (case aPal => k_is)
    (case lPal => k_is)
    (case cPal => k_is)
    (case kPal => k_is)
    (case aOf => k_is)
    (case lOf => k_is)
    (case cOf => k_is)
    (case kOf => k_is)
    (case aSg => k_is)
    (case lSg => k_is)
    (case cSg => k_is)
    (case kSg => k_is)
    (case aPa => k_is)
    (case lPa => k_is)
    (case cPa => k_is)
    (case kPa => k_is)
    (case aRu => k_is)
    (case lRu => k_is)
    (case cRu => k_is)
    (case kRu => k_is)
    (case aLe => k_is)
    (case lLe => k_is)
    (case cLe => k_is)
    (case kLe => k_is)
    (case aMa => k_is)
    (case lMa => k_is)
    (case cMa => k_is)
    (case kMa => k_is)
    (case aBd => k_is)
    (case lBd => k_is)
    (case cBd => k_is)
    (case kBd => k_is)
    (case aFa => k_is)
    (case lFa => k_is)
    (case cFa => k_is)
    (case kFa => k_is)
    (case aPo => k_is)
    (case lPo => k_is)
    (case cPo => k_is)
    (case kPo => k_is)
    (case aBp => k_is)
    (case lBp => k_is)
    (case cBp => k_is)
    (case kBp => k_is)
    (case aBe => k_is)
    (case lBe => k_is)
    (case cBe => k_is)
    (case kBe => k_is)
    (case aLaw => k_is)
    (case lLaw => k_is)
    (case cLaw => k_is)
    (case kLaw => k_is)
    (case zisinstance => k_is)
    (case zint => k_is)
    (case zbool => k_is)
    (case ztuple => k_is)
    (case zlist => k_is)
    (case zlen => k_is)
    (case zrange => k_is)
    (case zall => k_is)
    (case zenumerate => k_is)
    (case zsorted => k_is)
    (case zset => k_is)
    (case zstr => k_is)
    (case zsuper => k_is)
