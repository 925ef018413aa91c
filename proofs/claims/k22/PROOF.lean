import PyProof.Rows.All
import Wide.All
import OpenK.AllK
import Wide.FinOn
import HandS.Words
import HandS.ReplaceLit
import HandS.ReplaceList
import HandS.Replace
import PyProof.StrCalls6
import HandS.ReplaceDef
import HandS.ForMost
import HandS.Codes
import HandS.Deep
import HandS.ClsMeth
import HandS.Conv
import HandS.Small
import HandS.IsInst
import HandS.Text
import KE.GoesMore
import KE.GoesEnumKw
import PyProof.Draws
import PyProof.Rows.CallKwBuiltin
import HandS.Sort
import HandS.Strs
import HandS.SetTxt0
import PyProof.CollectStr
import PyProof.StrWalks
import PyProof.Rows.SetFrom
import PyProof.Rows.SortShellAny
import HandS.Zip
import HandS.Walk
import HandS.Exc
import HandS.ExcInit
import HandS.ExcField
import HandS.ExcIs
import HandS.TryMany
import HandS.WordsExc
import HandS.ExcValue
import KE.KExcIs
import HandS.ExcOwn
import HandS.More
import HandS.Property
import HandS.SortRule
import HandS.Style
import PyProof.Rows.StrRev
import HandS.FStr
import HandS.HotCalls
import PyProof.StrBlock2
import PyProof.Rows.StrJoinRep
import KE.KCallOwn
import HandS.SetBool
import HandS.TupSets
import HandS.DictComp
import HandS.MakeKw
import HandS.MakeKwOnly
import HandS.OwnEq
import PyProof.ListStr
import HandS.TryOnly
import KE.KStateDown
import HandS.Base
import HandS.Call
import HandS.Defaults
import HandS.Head0
import HandS.Head1
import HandS.Head2
import HandS.HeadEnd
import HandS.HeadHook1
import HandS.HeadHook2
import HandS.HeadNt
import PySem.Challenge.RW_smalti_k22_sketch_pictures
set_option Elab.async false
set_option linter.all false
set_option maxRecDepth 100000
set_option maxHeartbeats 16000000
/-! ### a def without parameters whose body returns a written text; e.replace(f(), "..") -/
namespace RepC
open PySem PySem.Spec PyProof.Rows L2 CwR
section
variable {X : Cx} {x x' c qual : Str} {f : Addr} {fd : FuncData} {st : Stmt} {j k : Nat} {p p' p1 pos : Pos} {N : List Str}
theorem eval_const0 {pins : List (Addr × Obj)} {σ : L2.St} {H : Hp} {s : Shared} {Q E : Value → Shared → Prop} (F : L2.Fun X.K x' qual st f fd) (S : FnScope N [] (defScope st)) (hbody : defBody st = [.Return (some (.Constant (.str c) j p)) p'])
    (hr : Room k X.A) (hg : Gl X x) (hm : X.mg x = some (.ref f)) (hb : Binds X.K fd [] []) (I : L2.Inv X pins σ H s) (h1 : 1 ≤ s.toks)
    (h : ∀ t s', 1 ≤ t → t < s'.toks → L2.Inv X pins σ H s' → Q (.str c t) s') (hdb : (x == ("__debug__" : Str)) = false := by decide) :
    wpAny (model X.prog X.w) X.A (eval (.Call (.Name x p1) [] [] pos) X.env) Q E s := by
  obtain ⟨oc, od, kV, doc, pm, an, cdv, ct, osl, rfl, lk, hcd⟩ := F.ex
  refine wpAny_Call_Name_kw (ld_glob I hg hm ?_ hdb)
  refine PyProof.Rows.callWith_meth0 rfl (I.kIn _ _ lk) ?_
  refine wpAny_call (codeAny_call_function hr.depth (I.kIn _ _ lk) rfl S.co S.gen rfl (PySem.W.codeRec_of I.kIn hcd) (hb s [] I.kIn rfl _ _ _ _ ?_))
  refine wpAny_mono (PySem.wpAny_toks (wpAny_newFunctionEnv_cells (Q := fun env s1 => InCallC s env.locals (bindL env.kindOf [] fun _ => none) env.cells (bindC env.kindOf [] fun _ => none) s1) S.kind (fun _ z => nomatch z) fun env he s1 y => y)) (fun env s1 q => ?_) fun _ _ z => z.2
  obtain ⟨tk, y⟩ := q
  refine ⟨I.mod.nolimit.keeps fun b o e => y.toInCall.keep b o (I.bk b o e), codeAny_func ?_⟩
  rw [hbody]
  refine wpAny_execs_cons (wpAny_Return_some (wpAny_Constant_str ?_))
  obtain ⟨h', t', e, kp⟩ := y.done
  subst e
  exact h t' _ (Nat.le_trans h1 tk) (Nat.lt_succ_self _) (I.kept kp)
/-- o.replace(f(), z) -/
theorem pet_replF {o : Expr} {to : TE} {z : Str} {apos pos2 c1 : Pos} {i : Nat} (ho : PE X o to) (F : L2.Fun X.K x' qual st f fd) (S : FnScope N [] (defScope st)) (hbody : defBody st = [.Return (some (.Constant (.str c) j p)) p'])
    (hr : Room k X.A) (hg : Gl X x) (hm : X.mg x = some (.ref f)) (hb : Binds X.K fd [] []) (hyz : (c == z) = false := by decide) (hdb : (x == ("__debug__" : Str)) = false := by decide)
    (hst : starEach [.Call (.Name x p1) [] [] pos, .Constant (.str z) i c1] X.env = [(false, eval (.Call (.Name x p1) [] [] pos) X.env), (false, eval (.Constant (.str z) i c1) X.env)] := by rfl)
    (hbase : attributeBase o "replace" X.env (eval o X.env) = eval o X.env := by rfl) (hline : (apos.endLine == pos2.line) = true := by rfl) :
    PET X (.Call (.Attribute o "replace" apos) [.Call (.Name x p1) [] [] pos, .Constant (.str z) i c1] [] pos2) (tReplC to c z) := by
  intro pins s σ H Q h0 I h
  refine PySem.Call_method2 hbase hst hline (wpAny_mono (PySem.wpAny_toks (ho.run pins s σ H _ I h)) (fun v s1 q => ?_) fun _ _ z => z.2)
  obtain ⟨hk, v', H1, I1, r1, x1, e1, hl, q⟩ := q
  subst e1
  obtain ⟨tx, e2⟩ := r1
  subst e2
  refine ⟨"str", _, PySem.F.plainAttrs_str, PySem.F.slot_str_replace, PySem.F.type_str_replace, typeIs_str _ _ _, (fun _ e => nomatch e), Calls.callWith_builtin rfl (Calls.evalArgs_plain (Calls.spliced_cons ?_))⟩
  refine eval_const0 F S hbody hr hg hm hb I1 (Nat.le_trans h0 hk) (fun t s2 ht hs I2 => ?_) hdb
  refine Calls.spliced_cons (Calls.Constant_str (Calls.spliced_nil ?_))
  have a1 : t ≠ 0 := Nat.ne_of_gt ht
  have a2 : s2.toks ≠ 0 := Nat.ne_of_gt (Nat.lt_of_le_of_lt (Nat.zero_le _) hs)
  have a3 : t ≠ s2.toks := Nat.ne_of_lt hs
  exact PySem.SC.replace a1 a2 a3 hyz hl fun t' k => ⟨.str (Txt.replace x1 c z), H1, I2.tok k, ⟨t', rfl⟩, q⟩
end
section
variable {P : Program} {w : World} {K : PySem.W.Frag} {mg : Str → Option Value} {base : Heap}
/-- a def with a parameter and no cells: its body may use that a token is out -/
theorem okT {x qual : Str} {st : Stmt} {f : Addr} {fd : FuncData} {N ps : List Str} {k : Nat} {sp : Sp} (F : L2.Fun K x qual st f fd) (S : FnScope N ps (defScope st)) (hnc : ∀ y ∈ (defScope st).names, y.2 ≠ .cell) (hps : 1 ≤ ps.length) (len : ∀ vs H Q E, sp vs H Q E → vs.length = ps.length)
    (hbody : ∀ (cdv : Value) (A : Around) (outer : List Env) (s : Shared) (H : Hp) (vs : List V) (Q : VK) (E : XK), Room k (A.deeper (envOfC qual (defScope st) s.heap.objs.size f cdv)) → sp vs H Q E →
      ∃ t, PSsT (cxOf CX0 P w K mg base N qual (defScope st) f cdv A outer s H E) (defBody st) t ∧ t { nx := fun _ H' => Q .non H', rt := Q } (start N vs) H) : FnOk P w K mg base CX0 (k + 1) f fd ps sp := by
  obtain ⟨oc, od, kV, doc, pm, an, cdv, ct, osl, rfl, lk, hcd⟩ := F.ex
  exact fn_ofT lk hcd S hnc hps len fun A outer s H vs Q E hr hsp => hbody cdv A outer s H vs Q E hr hsp
end
end RepC
namespace Pm
open PySem L2
/-! ### the text by places -/
def top (i : Nat) : Stmt := PySem.Challenge.pw_smalti_k22_sketch_pictures.main.body.getD i (.Pass ⟨0, 0, 0, 0⟩)
abbrev gWall : Stmt := top 0
abbrev gDecimal : Stmt := top 4
abbrev cRegionInit : Stmt := inClass (top 5) 0
abbrev cRegionOf : Stmt := inClass (top 5) 1
abbrev cRegionCells : Stmt := inClass (top 5) 2
abbrev cRegionWithin : Stmt := inClass (top 5) 3
abbrev cRegionOr : Stmt := inClass (top 5) 4
abbrev cRegionAnd : Stmt := inClass (top 5) 5
abbrev cRegionSub : Stmt := inClass (top 5) 6
abbrev cRegionXor : Stmt := inClass (top 5) 7
abbrev cRegionEq : Stmt := inClass (top 5) 8
abbrev cRegionContains : Stmt := inClass (top 5) 9
abbrev cRegionLen : Stmt := inClass (top 5) 10
abbrev cRegionBool : Stmt := inClass (top 5) 11
abbrev cRegionStr : Stmt := inClass (top 5) 12
abbrev cInvalidPictureInit : Stmt := inClass (top 8) 0
abbrev cInvalidSketchInit : Stmt := inClass (top 9) 0
abbrev cInvalidSignsInit : Stmt := inClass (top 10) 0
abbrev cOutOfPictureInit : Stmt := inClass (top 11) 0
abbrev cEmptyCellInit : Stmt := inClass (top 12) 0
abbrev gIsStone : Stmt := top 17
abbrev gIsStoneOrHole : Stmt := top 18
abbrev gAreDifferentSigns : Stmt := top 19
abbrev gInAsciiOrder : Stmt := top 20
abbrev gIsBadRow : Stmt := top 21
abbrev gBadLine : Stmt := top 23
abbrev cPictureInit : Stmt := inClass (top 25) 2
abbrev cPictureRead : Stmt := inClass (top 25) 3
abbrev cPicturePlain : Stmt := inClass (top 25) 4
abbrev cPictureLines : Stmt := inClass (top 25) 5
abbrev cPictureEveryCell : Stmt := inClass (top 25) 6
abbrev cPictureStones : Stmt := inClass (top 25) 7
abbrev cPictureHoles : Stmt := inClass (top 25) 8
abbrev cPictureContains : Stmt := inClass (top 25) 9
abbrev cPictureWithSign : Stmt := inClass (top 25) 10
abbrev cPictureGetitem : Stmt := inClass (top 25) 11
abbrev cPictureIter : Stmt := inClass (top 25) 12
abbrev cPictureLen : Stmt := inClass (top 25) 13
abbrev cPictureEq : Stmt := inClass (top 25) 14
abbrev cPictureSub : Stmt := inClass (top 25) 15
abbrev cPictureStr : Stmt := inClass (top 25) 16
abbrev gAreAllowedSigns : Stmt := top 28
abbrev gCheckSizes : Stmt := top 29
abbrev gIsBadRowSketches : Stmt := top 30
abbrev gBadLineSketches : Stmt := top 32
abbrev gReadWord : Stmt := top 34
abbrev gCommonSigns : Stmt := top 35
abbrev cSketchInit : Stmt := inClass (top 36) 1
abbrev cSketchRead : Stmt := inClass (top 36) 2
abbrev cSketchOf : Stmt := inClass (top 36) 3
abbrev cSketchAllow : Stmt := inClass (top 36) 4
abbrev cSketchText : Stmt := inClass (top 36) 5
abbrev cSketchFits : Stmt := inClass (top 36) 6
abbrev cSketchWays : Stmt := inClass (top 36) 7
abbrev cSketchCopy : Stmt := inClass (top 36) 8
abbrev cSketchCheckCell : Stmt := inClass (top 36) 9
abbrev cSketchGetitem : Stmt := inClass (top 36) 10
abbrev cSketchSetitem : Stmt := inClass (top 36) 11
abbrev cSketchIter : Stmt := inClass (top 36) 12
abbrev cSketchAnd : Stmt := inClass (top 36) 13
abbrev cSketchEq : Stmt := inClass (top 36) 14
abbrev gRequiredCells : Stmt := top 37
abbrev lBag : Stmt := top 39
abbrev lTake : Stmt := top 40
abbrev lIsInt : Stmt := top 41
abbrev lIsCell : Stmt := top 42
abbrev lIsCells : Stmt := top 43
abbrev lOnce : Stmt := top 44
abbrev lPalette : Stmt := top 45
abbrev lRow : Stmt := top 46
abbrev lGrid : Stmt := top 47
abbrev lCells : Stmt := top 48
abbrev lStones : Stmt := top 49
abbrev lPut : Stmt := top 50
abbrev lRegionIs : Stmt := top 51
abbrev lBigGrid : Stmt := top 52
abbrev lAny : Stmt := top 53
abbrev lAllowed : Stmt := top 54
abbrev lTable : Stmt := top 55
abbrev lSketchText : Stmt := top 56
abbrev lAt : Stmt := top 57
abbrev lRequired : Stmt := top 58
abbrev lWithin : Stmt := top 59
abbrev lSketchIs : Stmt := top 60
abbrev lAgree : Stmt := top 61
abbrev lAllowTwo : Stmt := top 62
abbrev lLaw : Stmt := top 63
end Pm
namespace Pm
open PySem PySem.Spec PyProof.Rows L2
/-- all that stood stands, but r -/
def SameBut (r : Addr) (H H' : Hp) : Prop := ∀ b o, b ≠ r → H b = some o → H' b = some o
theorem tyes {σ : L2.St} {G : Hp} {R : Bool → Hp → Prop} (h : R true G) : tYes σ G R := h
theorem same_upd {H : Hp} {p : Addr} {o : HO} (h : H p = none) : Same H (upd H p o) := fun b x e => by
  rw [upd_ne (ne_of_none e h)]
  exact e
theorem back {H H' : Hp} (s : Same H H') {t : Addr} (h : H' t = none) : H t = none := by
  cases z : H t with
  | none => rfl
  | some o =>
    rw [s _ _ z] at h
    cases h
theorem but_back {b : Addr} {H H' : Hp} {xs : List V} (hb : H b = some (.lst xs)) (s : SameBut b H H') {t : Addr} (ne : t ≠ b) (h : H' t = none) : H t = none := by
  cases z : H t with
  | none => rfl
  | some o =>
    rw [s _ _ ne z] at h
    cases h
theorem cut_to (xs : List V) (n : Nat) : cutV xs none (some (n : Int)) = xs.take n := by
  unfold cutV
  rw [HT.sIx_none, HT.sIx_nat, List.drop_zero, Nat.sub_zero]
  rcases Nat.le_total n xs.length with h | h
  · rw [Nat.min_eq_left h]
  · rw [Nat.min_eq_right h, List.take_of_length_le (Nat.le_refl _), List.take_of_length_le h]
theorem iteFe {b : Bool} {p q : Prop} (h : b = false) (z : q) : if b = true then p else q := by
  subst h
  exact iteF z
theorem iteTe {b : Bool} {p q : Prop} (h : b = true) (z : p) : if b = true then p else q := by
  subst h
  exact iteT z
/-- the built-ins by their names -/
structure LTxt (K : PySem.W.Frag) (mg : Str → Option Value) : Prop where
  isi : mg "isinstance" = none
  int : mg "int" = none
  lst : mg "list" = none
  len : mg "len" = none
  rng : mg "range" = none
/-- a def that may be called by its name -/
structure Cl (P : Program) (w : World) (K : PySem.W.Frag) (mg : Str → Option Value) (base : Heap) (CX : CXT) (k : Nat) (name : Str) (ps : List Str) (sp : Sp) (f : Addr) (fd : FuncData) : Prop where
  ok : FnOk P w K mg base CX k f fd ps sp
  kp : PySem.W.keepIn K (.ref f) = true
  bd : Binds K fd ps []
  gl : mg name = some (.ref f)
/-! ### the bag of drawn numbers -/
/-- the bag at b: four places; the first a list of ints, the second a place in it or its end, the third at least 0 -/
abbrev BagL (H : Hp) (b l : Addr) : Prop := ∃ (ns : List Int) (i p q : Int),
  H b = some (.lst [.ref l, .int i, .int p, .int q]) ∧ H l = some (.lst (ns.map V.int)) ∧ 0 ≤ i ∧ 0 ≤ p ∧ l ≠ b ∧ ns.length ≤ 63
/-- all but b stands as it stood -/
def But (b : Addr) (H H' : Hp) : Prop := ∀ a, a ≠ b → H' a = H a
theorem But.refl (b : Addr) (H : Hp) : But b H H := fun _ _ => rfl
theorem But.trans {b : Addr} {H H1 H2 : Hp} (x : But b H H1) (y : But b H1 H2) : But b H H2 := fun a h => (y a h).trans (x a h)
theorem But.upd {b : Addr} {H : Hp} {o : HO} : But b H (upd H b o) := fun _ h => upd_ne h
def spTake : Sp := fun vs H Q _ => ∃ (b l : Addr) (size : Int), vs = [.ref b, .int size] ∧ BagL H b l ∧ 0 < size ∧ size < 1073741824 ∧
  ∀ (n : Int) (H' : Hp), 0 ≤ n → n < size → But b H H' → BagL H' b l → Q (.int n) H'
theorem scTake : FnScope ["_law_bag_here", "_law_size", "_law_cell", "_law_digit"] ["_law_bag_here", "_law_size"] (defScope lTake) := ⟨rfl, rfl, rfl, by decide +kernel, rfl, by decide +kernel, by decide +kernel⟩
theorem at4 {a b c d : V} : atI [a, b, c, d] 0 = some a ∧ atI [a, b, c, d] 1 = some b ∧ atI [a, b, c, d] 2 = some c ∧ atI [a, b, c, d] 3 = some d := ⟨rfl, rfl, rfl, rfl⟩
section
variable {P : Program} {w : World} {K : PySem.W.Frag} {mg : Str → Option Value} {base : Heap}
theorem ok_take {f : Addr} {fd : FuncData} (F : Fun K "_law_take" "_law_take" lTake f fd) (mlen : mg "len" = none) (mint : mg "int" = none) : FnOk P w K mg base CX0 1 f fd ["_law_bag_here", "_law_size"] spTake := by
  refine F.ok scTake (fun vs H Q E h => ?_) (fun cdv A outer s H vs Q E hr h => ?_)
  · obtain ⟨b, l, size, rfl, _⟩ := h
    rfl
  · obtain ⟨b, l, size, rfl, ⟨ns, i, p, q, hb, hl, i0, p0, nlb, n63⟩, s0, s1, k⟩ := h
    refine ⟨_, C8.pss_cut (ps_if (PW.pt (pw_and (pt_cmpR op_eq (pe_ix ix_list (pv 0) pe_int (fun _ _ => rfl)) pe_int (nomark _))
          (pw_and1 (pt_cmpR op_lt (pe_ix ix_list (pv 0) pe_int (fun _ _ => rfl)) (pe_callB call_len_seq (by rfl) mlen PySem.boot_len (pa_cons (pe_ix ix_list (pv 0) pe_int (fun _ _ => rfl)) pa_nil)) (nomark _)))))
        (pss_cons (ps_set (i := 2) scTake.nd rfl (.inl rfl) (pe_ix ix_list (pe_ix ix_list (pv 0) pe_int (fun _ _ => rfl)) (pe_ix ix_list (pv 0) pe_int (fun _ _ => rfl)) (fun _ _ => rfl)))
        (pss_cons (ps_asg (pe_op op_add (pe_ix ix_list (pv 0) pe_int (fun _ _ => rfl)) pe_int) (pg_sub (pv 0) pe_int set_list))
        (pss_one (ps_if (pt_cmpR op_ge (pv 2) (pe_op op_pow pe_int pe_int) (nomark _))
          (pss_one (ps_asg (pv 2) (pg_sub (pv 0) pe_int set_list)))
          (pss_one (ps_asg (pe_op op_mod (pe_callTy call_int1 (by rfl) mint (by decide +kernel) (pa_cons (pe_op op_add (pe_op op_add (pe_op op_mul (pe_ix ix_list (pv 0) pe_int (fun _ _ => rfl)) pe_int) (pe_op op_mul (pv 2) pe_int)) pe_int) pa_nil)) pe_int) (pg_sub (pv 0) pe_int set_list)))))))
        pss_nil)
      (pss_cons (ps_if (pt_cmpR op_gt (pe_ix ix_list (pv 0) pe_int (fun _ _ => rfl)) pe_int (nomark _))
        (pss_cons (ps_set (i := 3) scTake.nd rfl (.inl rfl) (pe_op op_mod (pe_callTy call_int1 (by rfl) mint (by decide +kernel) (pa_cons (pe_ix ix_list (pv 0) pe_int (fun _ _ => rfl)) pa_nil)) (pv 1)))
        (pss_cons (ps_asg (pe_op op_fdiv (pe_ix ix_list (pv 0) pe_int (fun _ _ => rfl)) (pv 1)) (pg_sub (pv 0) pe_int set_list))
        (pss_one (ps_ret (pv 3)))))
        pss_nil)
      (pss_cons (ps_asg (pe_op op_mod (pe_callTy call_int1 (by rfl) mint (by decide +kernel) (pa_cons (pe_op op_add (pe_op op_mul (pe_ix ix_list (pv 0) pe_int (fun _ _ => rfl)) pe_int) pe_int) pa_nil)) pe_int) (pg_sub (pv 0) pe_int set_list))
      (pss_one (ps_ret (pe_op op_mod (pe_callTy call_int1 (by rfl) mint (by decide +kernel) (pa_cons (pe_op op_fdiv (pe_ix ix_list (pv 0) pe_int (fun _ _ => rfl)) pe_int) pa_nil)) (pv 1)))))), ?_⟩
    have seven : ∀ q' : Int, (0 : Int) < 2147483647 := fun _ => by decide
    refine ⟨fun σ H1 => ∃ (c : Option V) (i' p' q' : Int), σ = [some (.ref b), some (.int size), c, Option.none] ∧ But b H H1 ∧ H1 b = some (.lst [.ref l, .int i', .int p', .int q']) ∧ 0 ≤ i' ∧ 0 ≤ p', ?_, ?_⟩
    · -- if bag[2] == 0 and bag[1] < len(bag[0])
      refine ⟨_, rfl, b, _, 2, _, rfl, rfl, SqL.of hb, rfl, rfl, _, rfl, ite2 (fun _ => ?_) (fun _ => ⟨_, i, p, q, rfl, But.refl b H, hb, i0, p0⟩)⟩
      refine ⟨_, rfl, b, _, 1, _, rfl, rfl, SqL.of hb, rfl, _, rfl, b, _, 0, _, rfl, rfl, SqL.of hb, rfl, l, _, rfl, .inl (SqL.of hl), _, _, rfl, rfl, _, rfl, ite2 (fun e => ?_) (fun _ => ⟨_, i, p, q, rfl, But.refl b H, hb, i0, p0⟩)⟩
      have elt : i < ((ns.map V.int).length : Int) := of_decide_eq_true e
      rw [List.length_map] at elt
      obtain ⟨j, rfl⟩ : ∃ j : Nat, i = (j : Int) := ⟨i.toNat, by omega⟩
      have hj : j < ns.length := by omega
      have gj : (ns.map V.int)[j]? = some (.int ns[j]) := by
        rw [List.getElem?_map, List.getElem?_eq_getElem hj]
        rfl
      -- cell = bag[0][bag[1]]
      refine ⟨_, rfl, b, _, 0, _, rfl, rfl, SqL.of hb, rfl, _, rfl, b, _, 1, _, rfl, rfl, SqL.of hb, rfl, l, _, (j : Int), _, rfl, rfl, SqL.of hl, atI_nat gj, ?_⟩
      -- bag[1] = bag[1] + 1
      refine ⟨_, rfl, b, _, 1, _, rfl, rfl, SqL.of hb, rfl, _, _, rfl, rfl, _, rfl, b, _, 1, 1, rfl, rfl, hb, rfl, ?_⟩
      have hb1 : (upd H b (.lst [.ref l, .int ((j : Int) + 1), .int p, .int q])) b = some (.lst [.ref l, .int ((j : Int) + 1), .int p, .int q]) := upd_same
      have bu : But b H (upd H b (.lst [.ref l, .int ((j : Int) + 1), .int p, .int q])) := But.upd
      refine ⟨_, rfl, _, _, rfl, rfl, ⟨by decide, by decide, by decide⟩, _, _, rfl, rfl, _, rfl, ite2 (fun e2 => ?_) (fun _ => ?_)⟩
      · have big : (10 : Int) ^ (18 : Int).toNat ≤ ns[j] := of_decide_eq_true e2
        have pos : (0 : Int) ≤ (10 : Int) ^ (18 : Int).toNat := by decide
        refine ⟨_, rfl, _, rfl, b, _, 2, 2, rfl, rfl, hb1, rfl, ?_⟩
        exact ⟨_, (j : Int) + 1, ns[j], q, rfl, bu.trans But.upd, upd_same, by omega, by omega⟩
      · refine ⟨_, rfl, b, _, 3, _, rfl, rfl, SqL.of hb1, rfl, _, _, rfl, rfl, .inr ⟨by decide, by decide⟩, _, rfl, _, _, rfl, rfl, .inr ⟨by decide, by decide⟩, _, _, rfl, rfl, _, _, rfl, rfl, .inl ⟨_, rfl, _, _, rfl, rfl, seven 0, _, rfl, b, _, 3, 3, rfl, rfl, hb1, rfl, ?_⟩⟩
        exact ⟨_, (j : Int) + 1, p, _, rfl, bu.trans But.upd, upd_same, by omega, p0⟩
    · rintro σ H1 ⟨c, i', p', q', rfl, bu, hb1, i1, p1⟩
      have hl1 : H1 l = some (.lst (ns.map V.int)) := (bu l nlb).trans hl
      refine ⟨_, rfl, b, _, 2, _, rfl, rfl, SqL.of hb1, rfl, _, _, rfl, rfl, _, rfl, ite2 (fun _ => ?_) (fun _ => ?_)⟩
      · -- digit = int(bag[2]) % size; bag[2] = bag[2] // size; return digit
        refine ⟨_, rfl, b, _, 2, _, rfl, rfl, SqL.of hb1, rfl, .inl ⟨_, rfl, _, rfl, _, _, rfl, rfl, s0, ?_⟩⟩
        refine ⟨_, rfl, b, _, 2, _, rfl, rfl, SqL.of hb1, rfl, _, rfl, _, _, rfl, rfl, ⟨s0, s1⟩, _, rfl, b, _, 2, 2, rfl, rfl, hb1, rfl, _, rfl, ?_⟩
        refine k _ _ (Int.emod_nonneg _ (by omega)) (Int.emod_lt_of_pos _ s0) (bu.trans But.upd) ⟨ns, i', p' / size, q', upd_same, ?_, i1, Int.ediv_nonneg p1 (by omega), nlb, n63⟩
        rw [upd_ne nlb]
        exact hl1
      · refine ⟨_, rfl, b, _, 3, _, rfl, rfl, SqL.of hb1, rfl, _, _, rfl, rfl, .inr ⟨by decide, by decide⟩, _, _, rfl, rfl, .inl ⟨_, rfl, _, _, rfl, rfl, seven 0, _, rfl, b, _, 3, 3, rfl, rfl, hb1, rfl, ?_⟩⟩
        have hb2 : (upd H1 b (.lst [.ref l, .int i', .int p', .int ((q' * 48271 + 11) % 2147483647)])) b = some (.lst [.ref l, .int i', .int p', .int ((q' * 48271 + 11) % 2147483647)]) := upd_same
        refine ⟨_, rfl, b, _, 3, _, rfl, rfl, SqL.of hb2, rfl, _, _, rfl, rfl, ⟨by decide, by decide⟩, .inl ⟨_, rfl, _, rfl, _, _, rfl, rfl, s0, ?_⟩⟩
        refine k _ _ (Int.emod_nonneg _ (by omega)) (Int.emod_lt_of_pos _ s0) (bu.trans But.upd) ⟨ns, i', p', _, upd_same, ?_, i1, p1, nlb, n63⟩
        rw [upd_ne nlb]
        exact hl1
def spBag (K : PySem.W.Frag) : Sp := fun vs H Q _ => ∃ (a : Addr) (ns : List Int), vs = [.ref a] ∧ SqL K H a (ns.map V.int) ∧ ns.length ≤ 63 ∧ ∀ b l H', Same H H' → H b = none → BagL H' b l → Q (.ref b) H'
abbrev nBag : List Str := ["_law_script", "_law_cell"]
theorem scBag : FnScope nBag ["_law_script"] (defScope lBag) := ⟨rfl, rfl, rfl, by decide +kernel, rfl, by decide +kernel, by decide +kernel⟩
theorem ok_bag {f : Addr} {fd : FuncData} (F : Fun K "_law_bag" "_law_bag" lBag f fd) (T : LTxt K mg) : FnOk P w K mg base CX0 1 f fd ["_law_script"] (spBag K) := by
  refine F.ok scBag (fun vs H Q E h => ?_) (fun cdv A outer s H vs Q E hr h => ?_)
  · obtain ⟨a, ns, rfl, _⟩ := h
    rfl
  · obtain ⟨a, ns, rfl, ha, few, k⟩ := h
    refine ⟨_, pss_one (ps_ret (pe_lst (pa_cons (pe_lc (own := [("_law_cell", 1)]) (g := gName 1) (tt := tYes) rfl scBag.nd (pi_list (pe_slice sl_list (pv 0) po_none (po_some pe_int)))
      (blkOk_by (own := [("_law_cell", 1)]) (N := nBag) (sc := defScope lBag) (by decide +kernel)) (fun _ _ _ _ _ => pg_name (i := 1) scBag.nd rfl (Or.inl rfl)) (fun _ _ _ _ _ => pts_nil)
      (fun _ _ _ _ _ => pe_callTy call_int1 (by rfl) T.int (by decide +kernel) (pa_cons (pv 1) pa_nil))) (pa_cons pe_int (pa_cons pe_int (pa_cons pe_int pa_nil)))))), ?_⟩
    refine ⟨_, rfl, 63, rfl, a, _, rfl, ha, fun q nq => ?_⟩
    have ec : cutV (ns.map V.int) none (some 63) = ns.map V.int := by
      rw [show (some 63 : Option Int) = some ((63 : Nat) : Int) from rfl, cut_to, List.take_of_length_le (by rw [List.length_map]; exact few)]
    rw [ec]
    have s1 := same_upd (o := .lst (ns.map V.int)) nq
    refine ⟨q, rfl, ⟨_, SqL.of upd_same⟩, fun D nD => lc_list (K := K) (a := q) (xs := ns.map V.int) (fun i G => Same (upd H q (.lst (ns.map V.int))) G ∧ G D = some (.lst ((ns.take i).map V.int))) ⟨same_upd nD, upd_same⟩ (fun i G _ ⟨sm, _⟩ => SqL.of (sm _ _ upd_same)) ?_ ?_⟩
    · rintro i x G hx ⟨sm, hD⟩
      rw [List.getElem?_map] at hx
      cases e : ns[i]? with
      | none =>
        rw [e] at hx
        cases hx
      | some n =>
        rw [e] at hx
        cases hx
        refine ⟨rfl, tyes (iteT ⟨_, rfl, .inl ⟨n, rfl, _, hD, ?_, fun b o eb => ?_, ?_⟩⟩)⟩
        · rw [List.length_map, List.length_take]
          exact small1000 (by omega)
        · rw [upd_ne (ne_of_none eb nD)]
          exact sm _ _ eb
        · rw [upd_same, List.take_add_one, e, List.map_append]
          rfl
    · rintro G ⟨sm, hD⟩
      rw [List.length_map, List.take_of_length_le (Nat.le_refl _)] at hD
      refine ⟨(by show 4 ≤ sizeLine; decide), fun b nb => ?_⟩
      have nb0 : H b = none := by
        cases z : H b with
        | none => rfl
        | some o =>
          rw [sm _ _ (s1 _ _ z)] at nb
          cases nb
      have ndb : D ≠ b := ne_of_none hD nb
      exact k b D _ (fun x o e => by
        rw [upd_ne (ne_of_none (sm _ _ (s1 _ _ e)) nb)]
        exact sm _ _ (s1 _ _ e)) nb0 ⟨ns, 0, 0, 7, upd_same, by rw [upd_ne ndb]; exact hD, by decide, by decide, ndb, few⟩
end
end Pm
/-! ### replacing in joined words -/
namespace Pm
open PySem PySem.Spec PyProof.Rows L2 SX
open PySem.StrLaws (replL replL_hit replL_miss replL_nil)
theorem take_sep {y : List Nat} {c : Nat} (hc : c ∉ y) : ∀ {w rest : List Nat}, (w ++ c :: rest).take y.length = y → w.take y.length = y ∧ y.length ≤ w.length := by
  intro w rest h
  have le : y.length ≤ w.length := by
    rcases Nat.lt_or_ge w.length y.length with l | l
    · exfalso
      apply hc
      rw [← h]
      have e : (w ++ c :: rest)[w.length]? = some c := by rw [List.getElem?_append_right (Nat.le_refl _), Nat.sub_self]; rfl
      have e2 : ((w ++ c :: rest).take y.length)[w.length]? = some c := by rw [List.getElem?_take_of_lt l]; exact e
      exact List.mem_of_getElem? e2
    · exact l
  rw [List.take_append_of_le_length le] at h
  exact ⟨h, le⟩
theorem repl_sep {y z : List Nat} {c : Nat} (hy : y ≠ []) (hc : c ∉ y) : ∀ (n : Nat) (w rest : List Nat), w.length ≤ n → replL y z (w ++ c :: rest) = replL y z w ++ c :: replL y z rest
  | n, [], rest, _ => by
    rw [replL_nil, List.nil_append, List.nil_append]
    refine replL_miss fun h => ?_
    have := (take_sep hc (w := []) (rest := rest) h).2
    cases y with
    | nil => exact hy rfl
    | cons => simp at this
  | 0, a :: w, rest, h => absurd h (by simp)
  | n + 1, a :: w, rest, h => by
    have lw : w.length ≤ n := by simpa using h
    by_cases e : (a :: w).take y.length = y
    · have le : y.length ≤ (a :: w).length := by
        have := congrArg List.length e
        rw [List.length_take] at this
        omega
      have y1 : 0 < y.length := List.length_pos_iff.mpr hy
      have e2 : ((a :: w) ++ c :: rest).take y.length = y := by rw [List.take_append_of_le_length le]; exact e
      have l2 : ((a :: w).drop y.length).length ≤ n := by rw [List.length_drop, List.length_cons]; omega
      rw [List.cons_append] at e2 ⊢
      rw [replL_hit hy e2, replL_hit hy e, ← List.cons_append, List.drop_append_of_le_length le, repl_sep hy hc n _ _ l2, List.append_assoc]
    · have e2 : ¬ ((a :: w) ++ c :: rest).take y.length = y := fun h2 => e (take_sep hc h2).1
      rw [List.cons_append] at e2 ⊢
      rw [replL_miss e2, replL_miss e, repl_sep hy hc n _ _ lw, List.cons_append]
theorem repl_short {y z : List Nat} : ∀ (w : List Nat), w.length < y.length → replL y z w = w
  | [], _ => replL_nil
  | a :: w, h => by
    have e : ¬ (a :: w).take y.length = y := fun e => by
      have := congrArg List.length e
      rw [List.length_take] at this
      omega
    rw [replL_miss e, repl_short w (by rw [List.length_cons] at h; omega)]
theorem repl_word {y z w : List Nat} (hy : y ≠ []) (h : w.length ≤ y.length) : replL y z w = if w = y then z else w := by
  by_cases e : w = y
  · rw [if_pos e, e]
    cases y with
    | nil => exact absurd rfl hy
    | cons a y =>
      rw [replL_hit hy (List.take_of_length_le (Nat.le_refl _)), List.drop_length, replL_nil, List.append_nil]
  · rw [if_neg e]
    cases w with
    | nil => exact replL_nil
    | cons a w =>
      have ne : ¬ (a :: w).take y.length = y := fun e2 => e (by rw [List.take_of_length_le h] at e2; exact e2)
      rw [replL_miss ne, repl_short w (by rw [List.length_cons] at h; omega)]
theorem repl_join {y z : List Nat} {c : Nat} (hy : y ≠ []) (hc : c ∉ y) (f : List Nat → List Nat) : ∀ (ws : List (List Nat)), (∀ w ∈ ws, replL y z w = f w) → replL y z (TL.joinL [c] ws) = TL.joinL [c] (ws.map f)
  | [], _ => replL_nil
  | [w], h => h w List.mem_cons_self
  | w :: v :: ws, h => by
    show replL y z (w ++ ([c] ++ TL.joinL [c] (v :: ws))) = f w ++ ([c] ++ TL.joinL [c] (f v :: ws.map f))
    have ih := repl_join hy hc f (v :: ws) fun u m => h u (List.mem_cons_of_mem _ m)
    have e := repl_sep (z := z) hy hc w.length w (TL.joinL [c] (v :: ws)) (Nat.le_refl _)
    rw [List.cons_append, List.nil_append, e, ih, h w List.mem_cons_self]
    rfl
/-! #### words of a sketch -/
def anyL : List Nat := 46 :: (List.range 26).map (· + 97)
theorem anyL_len : anyL.length = 27 := by decide
def starW (w : List Nat) : List Nat := if w = anyL then [42] else w
/-- a table of words -/
abbrev Tab := List (List (List Nat))
def starT (T : Tab) : Tab := T.map fun r => r.map starW
def tabT (T : Tab) : List Nat := TL.joinL [10] (T.map fun r => TL.joinL [32] r)
theorem repl_tab {T : Tab} (h : ∀ r ∈ T, ∀ w ∈ r, w.length ≤ 27) : replL anyL [42] (tabT T) = tabT (starT T) := by
  have hy : anyL ≠ [] := by decide
  unfold tabT starT
  rw [repl_join hy (by decide) (replL anyL [42]) (T.map fun r => TL.joinL [32] r) (fun _ _ => rfl), List.map_map, List.map_map]
  congr 1
  refine List.map_congr_left fun r m => ?_
  show replL anyL [42] (TL.joinL [32] r) = TL.joinL [32] (r.map starW)
  exact repl_join hy (by decide) starW r fun w mw => repl_word hy (by rw [anyL_len]; exact h r m w mw)
end Pm
namespace Pm
open PySem PySem.Spec PyProof.Rows L2 SX
/-! ### signs -/
abbrev alphaS : Str := "abcdefghijklmnopqrstuvwxyz"
def Let (c : Nat) : Prop := 97 ≤ c ∧ c ≤ 122
def Good (c : Nat) : Prop := c = 46 ∨ Let c
instance (c : Nat) : Decidable (Let c) := by unfold Let; infer_instance
instance (c : Nat) : Decidable (Good c) := by unfold Good; infer_instance
theorem alpha_at : ∀ n : Nat, n < 26 → alphaS.cps.toList[n]? = some (97 + n) := by decide +kernel
theorem alpha_mem (c : Nat) : c ∈ alphaS.cps.toList ↔ Let c := by
  have e : alphaS.cps.toList = List.range' 97 26 := by decide +kernel
  rw [e, List.mem_range'_1]
  unfold Let
  omega
theorem alpha_len : alphaS.length = 26 := by decide +kernel
theorem len_S (a : List Nat) : (S a).length = a.length := S_len a
theorem small_line {n : Nat} (h : n ≤ 1000) : n ≤ sizeLine := Nat.le_of_lt (small1000 h)
theorem dot_S : ("." : Str) = S [46] := by decide +kernel
/-- three letters -/
def Pal (z : List Nat) : Prop := ∃ c d e, z = [c, d, e] ∧ Let c ∧ Let d ∧ Let e
theorem Pal.len {z : List Nat} (h : Pal z) : z.length = 3 := by
  obtain ⟨c, d, e, rfl, _⟩ := h
  rfl
theorem Pal.good {z : List Nat} (h : Pal z) {c : Nat} (m : c ∈ z) : Let c := by
  obtain ⟨a, b, e, rfl, ha, hb, he⟩ := h
  simp only [List.mem_cons, List.not_mem_nil, or_false] at m
  rcases m with rfl | rfl | rfl <;> assumption
theorem draw_at {z : List Nat} (h : Pal z) {n : Int} (n0 : 0 ≤ n) (n7 : n < 7) : ∃ c, atI ([46] ++ z ++ z) n = some c ∧ Good c := by
  obtain ⟨j, rfl⟩ : ∃ j : Nat, n = (j : Int) := ⟨n.toNat, by omega⟩
  have len : ([46] ++ z ++ z).length = 7 := by simp [h.len]
  have hj : j < ([46] ++ z ++ z).length := by omega
  refine ⟨([46] ++ z ++ z)[j], atI_nat (List.getElem?_eq_getElem hj), ?_⟩
  have m := List.getElem_mem hj
  rcases List.mem_append.mp m with m | m
  · rcases List.mem_append.mp m with m | m
    · exact .inl (by simpa using m)
    · exact .inr (h.good m)
  · exact .inr (h.good m)
section
variable {P : Program} {w : World} {K : PySem.W.Frag} {mg : Str → Option Value} {base : Heap}
def spPal : Sp := fun vs H Q _ => ∃ b l, vs = [.ref b] ∧ BagL H b l ∧ ∀ z H', Pal z → But b H H' → BagL H' b l → Q (.str (S z)) H'
theorem scPal : FnScope ["_law_bag_here", "_law_letters", "_law_first", "_law_second", "_law_third"] ["_law_bag_here"] (defScope lPalette) := ⟨rfl, rfl, rfl, by decide +kernel, rfl, by decide +kernel, by decide +kernel⟩
abbrev tkNames : List Str := ["_law_bag_here", "_law_size"]
theorem ok_pal {f t : Addr} {fd td : FuncData} (F : Fun K "_law_palette" "_law_palette" lPalette f fd) (T : Cl P w K mg base CX0 1 "_law_take" tkNames spTake t td) (L : LTxt K mg) : FnOk P w K mg base CX0 2 f fd ["_law_bag_here"] spPal := by
  refine F.ok scPal (fun vs H Q E h => ?_) (fun cdv A outer s H vs Q E hr h => ?_)
  · obtain ⟨b, l, rfl, _⟩ := h
    rfl
  · obtain ⟨b, l, rfl, hb, k⟩ := h
    refine ⟨_, pss_cons (ps_set (i := 1) scPal.nd rfl (.inl rfl) pe_str)
      (pss_cons (ps_set (i := 2) scPal.nd rfl (.inl rfl) (pe_call T.ok hr (by rfl) T.gl T.kp T.bd .nil pass0 (pa_cons (pv 0) (pa_cons pe_int pa_nil))))
      (pss_cons (ps_set (i := 3) scPal.nd rfl (.inl rfl) (pe_op op_mod (pe_callTy call_int1 (by rfl) L.int (by decide +kernel) (pa_cons (pe_op op_add (pe_op op_add (pv 2) pe_int) (pe_call T.ok hr (by rfl) T.gl T.kp T.bd .nil pass0 (pa_cons (pv 0) (pa_cons pe_int pa_nil)))) pa_nil)) pe_int))
      (pss_cons (ps_set (i := 4) scPal.nd rfl (.inl rfl) (pe_op op_mod (pe_callTy call_int1 (by rfl) L.int (by decide +kernel) (pa_cons (pe_op op_add (pe_op op_add (pv 3) pe_int) (pe_call T.ok hr (by rfl) T.gl T.kp T.bd .nil pass0 (pa_cons (pv 0) (pa_cons pe_int pa_nil)))) pa_nil)) pe_int))
      (pss_one (ps_ret (pe_op op_add_str (pe_op op_add_str (pe_ix ix_str (pv 1) (pv 2) (fun _ _ => rfl)) (pe_ix ix_str (pv 1) (pv 3) (fun _ _ => rfl))) (pe_ix ix_str (pv 1) (pv 4) (fun _ _ => rfl)))))))), ?_⟩
    refine ⟨_, rfl, b, l, 26, rfl, hb, by decide, by decide, fun n H1 n0 n1 u1 b1 => ?_⟩
    refine ⟨_, rfl, _, _, rfl, rfl, _, rfl, b, l, 25, rfl, b1, by decide, by decide, fun n2 H2 p0 p1 u2 b2 => ⟨_, _, rfl, rfl, .inl ⟨_, rfl, _, _, rfl, rfl, (by show (0 : Int) < 26; decide), ?_⟩⟩⟩
    refine ⟨_, rfl, _, _, rfl, rfl, _, rfl, b, l, 25, rfl, b2, by decide, by decide, fun n3 H3 q0 q1 u3 b3 => ⟨_, _, rfl, rfl, .inl ⟨_, rfl, _, _, rfl, rfl, (by show (0 : Int) < 26; decide), ?_⟩⟩⟩
    have at_ : ∀ m : Int, 0 ≤ m → m < 26 → ∃ c, atI alphaS.cps.toList m = some c ∧ Let c := fun m h0 h1 => by
      obtain ⟨j, rfl⟩ : ∃ j : Nat, m = (j : Int) := ⟨m.toNat, by omega⟩
      exact ⟨97 + j, atI_nat (alpha_at j (by omega)), by unfold Let; omega⟩
    obtain ⟨c, ec, hc⟩ := at_ n n0 n1
    obtain ⟨d, ed, hd⟩ := at_ _ (Int.emod_nonneg (n + 1 + n2) (show (26 : Int) ≠ 0 by decide)) (Int.emod_lt_of_pos (n + 1 + n2) (show (0 : Int) < 26 by decide))
    obtain ⟨e, ee, he⟩ := at_ _ (Int.emod_nonneg ((n + 1 + n2) % 26 + 1 + n3) (show (26 : Int) ≠ 0 by decide)) (Int.emod_lt_of_pos ((n + 1 + n2) % 26 + 1 + n3) (show (0 : Int) < 26 by decide))
    have al : alphaS.length ≤ sizeLine := by rw [alpha_len]; exact small_line (by decide)
    refine ⟨_, rfl, _, rfl, _, _, _, rfl, rfl, al, ec, ?_⟩
    refine ⟨_, rfl, _, rfl, _, _, _, rfl, rfl, al, ed, _, _, rfl, rfl, by show 1 + 1 ≤ sizeLine; decide, ?_⟩
    refine ⟨_, rfl, _, rfl, _, _, _, rfl, rfl, al, ee, _, _, rfl, rfl, by show 2 + 1 ≤ sizeLine; decide, ?_⟩
    have z : (S [c] ++ S [d]) ++ S [e] = S [c, d, e] := by rw [S_cat, S_cat]; rfl
    have y := k [c, d, e] H3 ⟨c, d, e, rfl, hc, hd, he⟩ ((u1.trans u2).trans u3) b3
    rw [← z] at y
    exact y
def spRow : Sp := fun vs H Q _ => ∃ b l z w, vs = [.ref b, .str (S z), .int w] ∧ BagL H b l ∧ Pal z ∧ 0 ≤ w ∧ w ≤ 8 ∧
  ∀ r H', (r.length : Int) = w → (∀ c ∈ r, Good c) → But b H H' → BagL H' b l → Q (.str (S r)) H'
theorem scRow : FnScope ["_law_bag_here", "_law_palette_here", "_law_wide", "_law_row_here", "_law_k"] ["_law_bag_here", "_law_palette_here", "_law_wide"] (defScope lRow) := ⟨rfl, rfl, rfl, by decide +kernel, rfl, by decide +kernel, by decide +kernel⟩
theorem ok_row {f t : Addr} {fd td : FuncData} (F : Fun K "_law_row" "_law_row" lRow f fd) (T : Cl P w K mg base CX0 1 "_law_take" tkNames spTake t td) (L : LTxt K mg) : FnOk P w K mg base CX0 2 f fd ["_law_bag_here", "_law_palette_here", "_law_wide"] spRow := by
  refine F.ok scRow (fun vs H Q E h => ?_) (fun cdv A outer s H vs Q E hr h => ?_)
  · obtain ⟨b, l, z, w, rfl, _⟩ := h
    rfl
  · obtain ⟨b, l, z, w, rfl, hb, hz, w0, w8, k⟩ := h
    refine ⟨_, pss_cons (ps_set (i := 3) scRow.nd rfl (.inl rfl) pe_str)
      (pss_cons (ps_for PassesOwn.never rfl (pi_range1 (by rfl) L.rng (pa_cons (pv 2) pa_nil)) (pg_name (i := 4) scRow.nd rfl (.inl rfl))
        (pss_one (ps_set (i := 3) scRow.nd rfl (.inl rfl) (pe_op op_add_str (pv 3) (pe_ix ix_str (pe_op op_add_str (pe_op op_add_str pe_str (pv 1)) (pv 1)) (pe_call T.ok hr (by rfl) T.gl T.kp T.bd .nil pass0 (pa_cons (pv 0) (pa_cons pe_int pa_nil))) (fun _ _ => rfl))))))
      (pss_one (ps_ret (pv 3)))), ?_⟩
    have lz := hz.len
    refine ⟨_, rfl, w, rfl, by omega, by omega, for_range (lo := 0) (n := w.toNat) (fun i σ G => ∃ y r, σ = [some (.ref b), some (.str (S z)), some (.int w), some (.str (S r)), y] ∧ r.length = i ∧ (∀ c ∈ r, Good c) ∧ But b H G ∧ BagL G b l)
      ⟨_, [], rfl, rfl, (fun c m => nomatch m), But.refl b H, hb⟩ ?_ ?_⟩
    · rintro i σ G hi ⟨y, r, rfl, lr, gr, bu, bG⟩
      have e1 : ("." : Str) ++ S z ++ S z = S ([46] ++ z ++ z) := by rw [dot_S, S_cat, S_cat]
      refine ⟨_, rfl, _, rfl, _, _, rfl, rfl, by rw [dot_S, len_S, len_S, lz]; decide, _, rfl, _, _, rfl, rfl, by rw [dot_S, S_cat, len_S, len_S]; simp [lz]; decide, _, rfl, b, l, 7, rfl, bG, by decide, by decide, fun n G1 n0 n1 u1 b1 => ?_⟩
      obtain ⟨c, ec, gc⟩ := draw_at hz n0 n1
      refine ⟨_, n, c, rfl, rfl, by rw [e1, len_S]; simp [lz]; exact small_line (by decide), by rw [e1]; exact ec, _, _, rfl, rfl, ?_, some (.int (0 + (i : Int))), r ++ [c], ?_, ?_, ?_, bu.trans u1, b1⟩
      · rw [len_S]
        show r.length + 1 ≤ sizeLine
        exact small_line (by omega)
      · exact congrArg (fun x => [some (V.ref b), some (V.str (S z)), some (V.int w), some (V.str x), some (V.int (0 + (i : Int)))]) (S_cat r [c])
      · rw [List.length_append, lr]
        rfl
      · intro d hd
        rcases List.mem_append.mp hd with m | m
        · exact gr d m
        · rw [List.mem_singleton.mp m]
          exact gc
    · rintro σ G ⟨y, r, rfl, lr, gr, bu, bG⟩
      exact ⟨_, rfl, k r G (by omega) gr bu bG⟩
/-! ### grids -/
abbrev Rows := List (List Nat)
def rowsV (R : Rows) : List V := R.map fun r => V.str (S r)
structure Grid (R : Rows) (w : Nat) : Prop where
  w1 : 1 ≤ w
  w8 : w ≤ 8
  h1 : 1 ≤ R.length
  h8 : R.length ≤ 8
  row : ∀ r ∈ R, r.length = w
  sgn : ∀ r ∈ R, ∀ c ∈ r, Good c
theorem rowsV_len (R : Rows) : (rowsV R).length = R.length := List.length_map _
theorem bag_upd {H : Hp} {b l t : Addr} {o : HO} (h : BagL H b l) (n : H t = none) : BagL (upd H t o) b l := by
  obtain ⟨ns, i, p, q, hb, hl, r⟩ := h
  exact ⟨ns, i, p, q, by rw [upd_ne (ne_of_none hb n)]; exact hb, by rw [upd_ne (ne_of_none hl n)]; exact hl, r⟩
theorem bag_b {H : Hp} {b l : Addr} (h : BagL H b l) : ∃ xs, H b = some (.lst xs) := by
  obtain ⟨_, _, _, _, hb, _⟩ := h
  exact ⟨_, hb⟩
theorem bag_ne {H : Hp} {b l t : Addr} {o : HO} (h : BagL H b l) (tb : t ≠ b) (tl : t ≠ l) : BagL (upd H t o) b l := by
  obtain ⟨ns, i, p, q, hb, hl, r⟩ := h
  exact ⟨ns, i, p, q, by rw [upd_ne (Ne.symm tb)]; exact hb, by rw [upd_ne (Ne.symm tl)]; exact hl, r⟩
theorem bag_l {H : Hp} {b l : Addr} (h : BagL H b l) : ∃ xs, H l = some (.lst xs) := by
  obtain ⟨_, _, _, _, _, hl, _⟩ := h
  exact ⟨_, hl⟩
theorem but_same {b : Addr} {H H' : Hp} (h : But b H H') : SameBut b H H' := fun a o ha e => (h a ha).trans e
theorem sb_trans {b : Addr} {H H1 H2 : Hp} (h : SameBut b H H1) (k : SameBut b H1 H2) : SameBut b H H2 := fun a o ha e => k a o ha (h a o ha e)
theorem sb_refl (b : Addr) (H : Hp) : SameBut b H H := fun _ _ _ e => e
theorem same_sb {b : Addr} {H H' : Hp} (h : Same H H') : SameBut b H H' := fun a o _ e => h a o e
def spGrid : Sp := fun vs H Q _ => ∃ b l z, vs = [.ref b, .str (S z)] ∧ BagL H b l ∧ Pal z ∧
  ∀ p R w H', Grid R w → SameBut b H H' → BagL H' b l → H p = none → H' p = some (.lst (rowsV R)) → Q (.ref p) H'
abbrev nGrid : List Str := ["_law_bag_here", "_law_palette_here", "_law_wide", "_law_k"]
theorem scGrid : FnScope nGrid ["_law_bag_here", "_law_palette_here"] (defScope lBigGrid) := ⟨rfl, rfl, rfl, by decide +kernel, rfl, by decide +kernel, by decide +kernel⟩
theorem ok_grid {f t g : Addr} {fd td gd : FuncData} (F : Fun K "_law_big_grid" "_law_big_grid" lBigGrid f fd) (T : Cl P w K mg base CX0 1 "_law_take" tkNames spTake t td) (R : Cl P w K mg base CX0 2 "_law_row" ["_law_bag_here", "_law_palette_here", "_law_wide"] spRow g gd) (L : LTxt K mg) :
    FnOk P w K mg base CX0 3 f fd ["_law_bag_here", "_law_palette_here"] spGrid := by
  refine F.ok scGrid (fun vs H Q E h => ?_) (fun cdv A outer s H vs Q E hr h => ?_)
  · obtain ⟨b, l, z, rfl, _⟩ := h
    rfl
  · obtain ⟨b, l, z, rfl, hb, hz, k⟩ := h
    have hr1 : Room 1 _ := hr.mono (by decide)
    refine ⟨_, pss_cons (ps_set (i := 2) scGrid.nd rfl (.inr rfl) (pe_op op_add pe_int (pe_call T.ok hr1 (by rfl) T.gl T.kp T.bd .nil pass0 (pa_cons (pv 0) (pa_cons pe_int pa_nil)))))
      (pss_one (ps_ret (pe_lc (own := [("_law_k", 3)]) (g := gName 3) (tt := tYes) rfl scGrid.nd (pi_range1 (by rfl) L.rng (pa_cons (pe_op op_add pe_int (pe_call T.ok hr1 (by rfl) T.gl T.kp T.bd .nil pass0 (pa_cons (pv 0) (pa_cons pe_int pa_nil)))) pa_nil)) (blkOk_by (N := nGrid) (sc := defScope lBigGrid) (by decide +kernel)) (fun _ _ _ _ _ => pg_name (i := 3) scGrid.nd rfl (.inl rfl)) (fun _ _ _ _ _ => pts_nil)
        (fun _ _ _ _ _ => pe_call R.ok hr (by rfl) R.gl R.kp R.bd .nil pass0 (pa_cons (pv 0) (pa_cons (pv 1) (pa_cons (pv 2) pa_nil))))))), ?_⟩
    refine ⟨_, rfl, b, l, 8, rfl, hb, by decide, by decide, fun n H1 n0 n1 u1 b1 => ⟨_, _, rfl, rfl, ?_⟩⟩
    refine ⟨_, rfl, b, l, 8, rfl, b1, by decide, by decide, fun m H2 m0 m1 u2 b2 => ⟨_, _, rfl, rfl, 1 + m, rfl, by omega, by omega, fun D nD => ?_⟩⟩
    have s2 : SameBut b H H2 := but_same (u1.trans u2)
    have nDb : D ≠ b := fun e => by
      obtain ⟨xs, e2⟩ := bag_b b2
      rw [e, e2] at nD
      cases nD
    have nDl : D ≠ l := fun e => by
      obtain ⟨xs, e2⟩ := bag_l b2
      rw [e, e2] at nD
      cases nD
    have nD0 : H D = none := by
      obtain ⟨xs, e2⟩ := bag_b hb
      exact but_back e2 s2 nDb nD
    refine lc_range (lo := 0) (n := (1 + m).toNat) (fun i G => ∃ R : Rows, R.length = i ∧ (∀ r ∈ R, (r.length : Int) = 1 + n ∧ ∀ c ∈ r, Good c) ∧ SameBut b H G ∧ BagL G b l ∧ G D = some (.lst (rowsV R))) ⟨[], rfl, (fun r hr => nomatch hr), fun a o ha e => ?_, bag_upd b2 nD, upd_same⟩ ?_ ?_
    · rw [upd_ne (ne_of_none (s2 a o ha e) nD)]
      exact s2 a o ha e
    · rintro i G hi ⟨R, lR, gR, sG, bG, hD⟩
      refine ⟨rfl, tyes (iteT ⟨_, rfl, _, rfl, _, rfl, b, l, z, 1 + n, rfl, bG, hz, by omega, by omega, fun r G1 lr gr u3 b3 => ⟨rowsV R, (u3 D nDb).trans hD, ?_, R ++ [r], ?_, ?_, fun a o ha e => ?_, ?_, ?_⟩⟩)⟩
      · rw [rowsV_len]
        exact small1000 (by omega)
      · rw [List.length_append, lR]
        rfl
      · intro q hq
        rcases List.mem_append.mp hq with y | y
        · exact gR q y
        · rw [List.mem_singleton.mp y]
          exact ⟨lr, gr⟩
      · rw [upd_ne (ne_of_none e nD0)]
        exact (u3 a ha).trans (sG a o ha e)
      · exact bag_ne b3 nDb nDl
      · rw [upd_same]
        unfold rowsV
        rw [List.map_append]
        rfl
    · rintro G ⟨R, lR, gR, sG, bG, hD⟩
      refine k D R (1 + n).toNat G ⟨by omega, by omega, by omega, by omega, fun r hr => by have := (gR r hr).1; omega, fun r hr => (gR r hr).2⟩ sG bG nD0 hD
end
end Pm
namespace Pm
open PySem PySem.Spec PyProof.Rows L2 SX
/-! ### for i, x in enumerate(xs, start=1) -/
/-- the list at a, item by item, each with its number counted from 1, in a new pair -/
def ItS (K : PySem.W.Frag) (a : Addr) : It where
  go := fun i H => ∃ (xs : List V) (x : V), SqL K H a xs ∧ xs[i]? = some x
  yld := fun i H v H' => ∃ T x, v = .ref T ∧ H T = none ∧ H' = upd H T (.tup [.int ((i : Int) + 1), x]) ∧ ∀ xs, SqL K H a xs → xs[i]? = some x
  stop := fun i H => ∃ xs : List V, SqL K H a xs ∧ xs.length = i
/-- a list's draws, counted from 1 -/
theorem draws1 {prog : Program} {w : World} {A : Around} (hh : A.handled = none) (it l : Addr) (ne : l ≠ it) (xs : Array Value) :
    Draws prog w A it [it, l] (xs.size + 1) (fun i v => xs[i - 1]? = some v) (fun i h => 1 ≤ i ∧ h.IsListIter it l (i - 1) ∧ h.IsList l xs) := by
  have D := Draws.list (prog := prog) (w := w) hh it l ne xs
  refine ⟨fun i h st => D.live (i - 1) h st.2, fun i h g st k => ⟨st.1, D.frame (i - 1) h g st.2 k⟩, ?_, fun s Q E st q => D.done s Q E st.2 q⟩
  intro i s Q E lt st q
  obtain ⟨j, rfl⟩ : ∃ j, i = j + 1 := ⟨i - 1, by have := st.1; omega⟩
  exact D.item j s Q E (by omega) st.2 fun x g tk px sx sb => q x g tk px ⟨by omega, sx⟩ sb
theorem apartL {h : Heap} {a it : Addr} {xs : Array Value} {i : Nat} (isl : h.IsList a xs) (h2 : h.IsListIter it a i) : a ≠ it := fun z => by
  obtain ⟨o, y, yc, n, yd⟩ := isl
  obtain ⟨o', y', _, yd'⟩ := h2
  rw [z, y'] at y
  cases y
  rw [yd'] at yd
  cases yd
theorem apartE {h : Heap} {a e it : Addr} {xs : Array Value} {i : Int} {w : Value} (isl : h.IsList a xs) (h1 : IsEnum h e it i w) : e ≠ a := fun z => by
  obtain ⟨o, y, yc, n, yd⟩ := isl
  rw [← z, h1] at y
  cases y
  cases yd
def tnS (e it a : Addr) (i : Nat) (h : Heap) : Prop := (∃ o, IsEnum h e it ((i + 1 : Nat) : Int) o) ∧ h.IsListIter it a i ∧ e ≠ it
theorem turnS {P : Program} {w : World} {K : PySem.W.Frag} {es : List Expr} {kk : Nat} {tp : Pos} (a e it : Addr) : Turn P w K (.Tuple es kk tp) (ItS K a) [e, it] e (tnS e it a) := by
  have two : ∀ {b : Addr}, b ∈ [e, it] → b = e ∨ b = it := fun m => by simpa using m
  constructor
  case mem => exact List.mem_cons_self
  case obj =>
    rintro i h ⟨⟨o1, h1⟩, ⟨o2, h2, _, d2⟩, _⟩ b m
    rcases two m with rfl | rfl
    · exact ⟨_, h1, fun v q => nomatch q⟩
    · refine ⟨o2, h2, fun v q => ?_⟩
      rw [d2] at q
      cases q
  case keep =>
    rintro i h g ⟨⟨o1, h1⟩, h2, ne⟩ k
    exact ⟨⟨o1, k e (by simp) _ h1⟩, h2.at fun o y => k it (by simp) o y, ne⟩
  case self =>
    rintro A i s Q E ⟨⟨_, h1⟩, _⟩ q
    exact wpAny_pyIter_enum h1 q
  case done =>
    rintro X rfl rfl rfl calm i pins s σ H E I free ⟨⟨o1, h1⟩, h2, ne⟩ ⟨xs, hx, rfl⟩
    obtain ⟨us, rv, isl, _⟩ := I.list hx
    obtain ⟨f0, f1, f2, f3, f4, f5⟩ := free it (by simp)
    have D := draws1 (prog := X.prog) (w := X.w) (A := X.A.in1) (I.ok.hd calm) it a (apartL isl.isList h2) us.toArray
    have e5 : us.toArray.size = xs.length := by simpa using rv.length.symm
    rw [e5] at D
    exact wpAny_pyNext_enum_endD D h1 ⟨by omega, h2, isl.isList⟩ fun g eb => ⟨rfl, I.turned (t' := s.toks) (fun b o nb y => eb b o nb y) f0 f1 f3 f4 f5⟩
  case item =>
    rintro X rfl rfl rfl calm i pins s σ H E I free ⟨⟨o1, h1⟩, h2, ne⟩ ⟨xs, x, hx, gx⟩
    obtain ⟨us, rv, isl, _⟩ := I.list hx
    obtain ⟨u, gu, ru⟩ := rv.get gx
    have nl := apartL isl.isList h2
    have D := draws1 (prog := X.prog) (w := X.w) (A := X.A.in1) (I.ok.hd calm) it a nl us.toArray
    have big : e < s.heap.objs.size := Heap.lt_size h1
    have sz : i < us.length := by
      rcases List.getElem?_eq_some_iff.mp gu with ⟨y, _⟩
      exact y
    refine wpAny_pyNext_enum_itemD (i := i + 1) D h1 ⟨by omega, h2, isl.isList⟩ (by simpa using sz) ne (fun m => ?_) fun v g tk pv eo st gT gs gk => ?_
    · rcases List.mem_cons.mp m with z | z
      · exact ne z
      · exact apartE isl.isList h1 (List.mem_singleton.mp z)
    · have ev : v = u := by
        have y : us.toArray[i]? = some v := pv
        rw [List.getElem?_toArray, gu] at y
        exact (Option.some.inj y).symm
      subst ev
      refine ⟨_, rfl, wpAny_letOwnedTupleGo_enum (s := { s with heap := g, toks := tk + 1 }) eo fun g2 e2 sb => ?_⟩
      have T2 : g2.get? s.heap.objs.size = some { cls := .type "tuple", data := .seq #[.int ((i + 1 : Nat) : Int) tk, v] } :=
        (sb.2 _ (Nat.ne_of_gt big)).trans gT
      have fresh : H s.heap.objs.size = none := I.hok.fresh (Nat.le_refl _)
      have pair : ObjOk X.prog X.w (upd H s.heap.objs.size (.tup [.int ((i : Int) + 1), x])) g2 s.heap.objs.size (.tup [.int ((i : Int) + 1), x]) :=
        ⟨small_line (by show 2 ≤ 1000; decide), [.int ((i + 1 : Nat) : Int) tk, v], .cons ⟨_, rfl⟩ (.cons ru .nil), ⟨_, T2, rfl, _, rfl⟩⟩
      have J : L2.Inv X pins σ (upd H s.heap.objs.size (.tup [.int ((i : Int) + 1), x])) { s with heap := g2, toks := tk + 1 } :=
        I.turnedNew (ch := [e, it]) (fun b o nb y => (sb.2 b (fun z => nb (by simp [z]))).trans (gk b o (fun z => nb (by simp [z])) (fun z => nb (by simp [z])) y)) free (Nat.le_refl _) pair
      refine ⟨.ref s.heap.objs.size, _, J, rfl, ⟨_, x, rfl, fresh, rfl, fun ys hy => ?_⟩, ⟨⟨v, e2⟩, st.2.1.at fun o y => (sb.2 it (Ne.symm ne)).trans y, ne⟩, fun b m => ?_⟩
      · rw [I.list_inj hy hx]
        exact gx
      · rw [upd_ne (fun z => ?_)]
        · exact (free b m).1
        · rcases two m with y | y
          · rw [y] at z
            rw [← z] at big
            exact Nat.lt_irrefl _ big
          · have lt2 : it < s.heap.objs.size := by
              obtain ⟨_, y2, _⟩ := h2
              exact Heap.lt_size y2
            rw [y] at z
            rw [← z] at lt2
            exact Nat.lt_irrefl _ lt2
/-! ### its making -/
section
variable {M : Model} {A : Around} {E : Value → Shared → Prop} {s : Shared} {env : Env}
theorem kw_type {pos : Pos} {T : String} {e : Expr} {es : List Expr} {kws : List Keyword} {Q : Value → Shared → Prop}
    (h : wpAny M A (spliced (backTo pos (starEach (e :: es) env))) (fun us s1 => wpAny M A (evalAll ((backToKw pos (keywordEach kws env)).map (·.2)))
      (fun ks s2 => wpAny M A (call (.type T) us (((backToKw pos (keywordEach kws env)).filterMap (·.1)).zip ks)) Q E s2) E s1) E s)
    (h1 : backTo pos (starEach (e :: es) env) = (false, eval e env) :: backTo pos (starEach es env) := by rfl) (h2 : (backTo pos (starEach (e :: es) env)).any (·.1) = false := by rfl)
    (h3 : (backToKw pos (keywordEach kws env)).all (·.1.isSome) = true := by rfl) (h4 : (backToKw pos (keywordEach kws env)).any (·.1.isNone) = false := by rfl) :
    wpAny M A (callWith pos (.type T) [] (backTo pos (starEach (e :: es) env)) (backToKw pos (keywordEach kws env))) Q E s := by
  have go : wpAny M A (evalArgs (.type T) true (backTo pos (starEach (e :: es) env)) (backToKw pos (keywordEach kws env))) (fun a s1 => wpAny M A (call (.type T) ([] ++ a.pos) a.kw) Q E s1) E s := by
    rw [h1] at h ⊢
    exact evalArgs_kwB h3 h
  unfold callWith
  refine wpAny_bind (wpAny_holding (wpAny_mono go (fun a s1 r => wpAny_bind (wpAny_standAt ?_)) fun _ _ y => y))
  simp only [h2, h4, Bool.or_false]
  exact wpAny_bind (wpAny_pure (wpAny_bind (wpAny_mono r (fun u s2 q => wpAny_bind (wpAny_holding (wpAny_point (wpAny_pure q)))) fun _ _ y => y)))
end
def iEnS (K : PySem.W.Frag) (ta tk : TA) : TI := fun σ H R => ta σ H fun vs H1 => tk σ H1 fun zs H2 => ∃ a xs, vs = [.ref a] ∧ zs = [.int 1] ∧ SqL K H2 a xs ∧ R (ItS K a) H2
theorem pi_enumS {X : Cx} {e ke : Expr} {ta tk : TA} {p kp pos tp : Pos} {es : List Expr} {kk : Nat} (hg : Gl X "enumerate") (hm : X.mg "enumerate" = none) (ha : PA X [e] ta) (hk : PK X [⟨some "start", ke, kp⟩] tk)
    (h1 : backTo pos (starEach [e] X.env) = (false, eval e X.env) :: backTo pos (starEach [] X.env) := by rfl) (h2 : (backTo pos (starEach [e] X.env)).any (·.1) = false := by rfl) :
    PI X (.Tuple es kk tp) (.Call (.Name "enumerate" p) [e] [⟨some "start", ke, kp⟩] pos) (iEnS X.K ta tk) := by
  refine ⟨fun pins s σ H R I h => ?_⟩
  refine wpAny_Call_Name_kw (ld_blt I hg hm boot_enumerate (kw_type (thn (ha.run pos pins s σ H _ I h) fun us s1 ⟨vs, H1, I1, r1, q1⟩ => thn (hk.run pos pins s1 σ H1 _ I1 q1) fun ks s2 ⟨zs, H2, I2, r2, a, xs, ev, ez, hx, q⟩ => ?_) h1 h2) (by decide) (by decide))
  subst ev ez
  match r1, r2 with
  | .cons ra .nil, .cons rk .nil =>
    cases ra
    obtain ⟨t, rfl⟩ := rk
    obtain ⟨vals, rv, isl, _⟩ := I2.list hx
    refine enum_begins_start (begins_list a vals.toArray) isl.isList (by decide) (by decide) fun g he hi hz hk2 => wpAny_pyIter_enum he ?_
    have J : L2.Inv X pins σ H2 { s2 with heap := g } := I2.kept (t' := s2.toks) hk2
    refine ⟨s2.heap.objs.size + 1, [s2.heap.objs.size + 1, s2.heap.objs.size], _, ItS X.K a, H2, rfl, J, turnS a (s2.heap.objs.size + 1) s2.heap.objs.size, ⟨⟨.none, he⟩, ⟨_, hi, rfl, rfl⟩, Nat.succ_ne_self _⟩, fun b m => ?_, q⟩
    have le : s2.heap.objs.size ≤ b := by
      rcases List.mem_cons.mp m with y | y
      · rw [y]
        exact Nat.le_succ _
      · rw [List.mem_singleton.mp y]
        exact Nat.le_refl _
    exact I2.fpOk le (I2.hok.fresh le)
end Pm
namespace Pm
open PySem PySem.Spec PyProof.Rows L2 SX
/-! ### sets of texts, filled from an iterator -/
/-- one more text, if it is new -/
def ddS (l : List Str) (v : Str) : List Str := if l.any (· == v) then l else l ++ [v]
def metS (val : Nat → Str) (i : Nat) : List Str := ((List.range i).map val).foldl ddS []
theorem metS_succ (val : Nat → Str) (i : Nat) : metS val (i + 1) = ddS (metS val i) (val i) := by
  unfold metS
  rw [List.range_succ, List.map_append, List.foldl_append]
  rfl
theorem metS_le (val : Nat → Str) : ∀ i, (metS val i).length ≤ i
  | 0 => Nat.le_refl _
  | i + 1 => by
    rw [metS_succ]
    have ih := metS_le val i
    unfold ddS
    split
    · omega
    · rw [List.length_append, List.length_singleton]
      omega
theorem ddS_any (l : List Str) (v k : Str) : (ddS l v).any (· == k) = (l.any (· == k) || decide (k = v)) := by
  unfold ddS
  by_cases h : l.any (· == v) = true
  · rw [if_pos h]
    by_cases e : k = v
    · subst e
      rw [h]
      simp
    · simp [e]
  · rw [if_neg h, List.any_append]
    by_cases e : k = v
    · subst e
      simp
    · have hb : (v == k) = false := by simpa [beq_iff_eq] using (fun h' : v = k => e h'.symm)
      simp [hb, e]
theorem ddS_len (l : List Str) (v : Str) : (ddS l v).length = if l.any (· == v) then l.length else l.length + 1 := by
  unfold ddS
  split <;> simp
section
variable {prog : Program} {w : World} {A : Around} {R : Result → Shared → Prop} {I : Addr} {fp wr : List Addr} {G : Array GenState → Array GenState → Prop} {n : Nat} {Pp : Nat → Value → Prop} {St : Nat → Shared → Prop}
theorem set_loopS (W : WalksS prog w A.in1 I fp wr G n Pp St) (S : Addr) (hSf : S ∉ fp) (val : Nat → Str) (hval : ∀ i v, Pp i v → ∃ t, v = .str (val i) t) (hb : n + 1 < scanBound) :
    ∀ (k i : Nat) (s : Shared), n - i = k → i ≤ n → St i s →
      s.heap.SetOf (PySem.strKind prog w) S (fun k' => (metS val i).any (· == k')) (metS val i).length →
      (∀ s', Moved (S :: wr) G s s' → s'.heap.SetOf (PySem.strKind prog w) S (fun k' => (metS val n).any (· == k')) (metS val n).length → R (.ok (.ret .none)) s') →
      codeAny (model prog w) A (.builtin "set.update.loop" ⟨[.ref S, .ref I], []⟩) R s := by
  have hSw : S ∉ wr := fun h => hSf (W.sub _ h)
  have hsub : ∀ b ∈ wr, b ∈ S :: wr := fun b hb => List.mem_cons_of_mem _ hb
  intro k
  induction k with
  | zero =>
    intro i s hk hi hst hS hR
    have hin : i = n := by omega
    subst hin
    refine codeAny_builtin PyProof.Rows.F.entry_set_update_loop ?_
    rw [Around.under_plainId PyProof.Rows.F.plain_set_update_loop _]
    show wpAny _ A.in1 (pyNext (.ref I) >>= _) _ _ s
    refine wpAny_bind (W.done s _ _ hst fun s' hm => ?_)
    show wpAny _ A.in1 (ret Value.none) _ _ s'
    exact wpAny_pure (hR s' (hm.mono hsub) (by
      obtain ⟨o, es, ep, t, ho, rest⟩ := hS
      exact ⟨o, es, ep, t, hm.heap S _ hSw ho, rest⟩))
  | succ k ih =>
    intro i s hk hi hst hS hR
    have hlt : i < n := by omega
    refine codeAny_builtin PyProof.Rows.F.entry_set_update_loop ?_
    rw [Around.under_plainId PyProof.Rows.F.plain_set_update_loop _]
    show wpAny _ A.in1 (pyNext (.ref I) >>= _) _ _ s
    refine wpAny_bind (W.item i s _ _ hlt hst fun v s' hP hst' hm => ?_)
    obtain ⟨t, rfl⟩ := hval i v hP
    have hS' : s'.heap.SetOf (PySem.strKind prog w) S (fun k' => (metS val i).any (· == k')) (metS val i).length := by
      obtain ⟨o, es, ep, tb, ho, rest⟩ := hS
      exact ⟨o, es, ep, tb, hm.heap S _ hSw ho, rest⟩
    have iskey : (PySem.strKind prog w).is (val i) (.str (val i) t) = true := Froz.is_str _ _
    show wpAny _ A.in1 (holding [Value.str (val i) t] (setAdd S (.str (val i) t)) >>= _) _ _ s'
    refine wpAny_bind (wpAny_holding ?_)
    unfold setAdd
    refine wpAny_holding ?_
    refine wpAny_bind ((PySem.strKind prog w).pyHash (k := val i) iskey ?_)
    have hroom : (metS val i).length + 1 < scanBound := by
      have := metS_le val i
      omega
    refine wpAny_setAddHashed_of (knd := PySem.strKind prog w) (s := { s' with toks := s'.toks + 1 }) iskey rfl hS' hroom fun h' hsb hS2 => ?_
    have hSi : h'.SetOf (PySem.strKind prog w) S (fun k' => (metS val (i + 1)).any (· == k')) (metS val (i + 1)).length :=
      SetOf_congr hS2 (fun k' => by rw [metS_succ, ddS_any]) (by rw [metS_succ, ddS_len])
    refine wpAny_pure ⟨plainId_quiet PyProof.Rows.F.plain_set_update_loop _, ih (i + 1) _ (by omega) hlt (W.frame _ s' _ _ hst' (Nat.le_succ _) fun b hb o e => ?_) hSi fun s'' hm'' hS'' => ?_⟩
    · rw [hsb.2 b (fun h : b = S => hSf (by rw [← h]; exact hb))]
      exact e
    · refine hR s'' (Moved.trans W.gtrans ((hm.mono hsub).then_heap (Nat.le_succ _) fun b o hb e => ?_) hm'') hS''
      rw [hsb.2 b (fun h : b = S => hb (by rw [h]; exact List.mem_cons_self))]
      exact e
end
end Pm
namespace Pm
open PySem PySem.Spec PyProof.Rows L2 SX
theorem sub_str_set' : isSubtype (.type "str") (.type "set") = pure false := by rw [isSubtype_type]; kernel_rfl
theorem sub_str_frozen' : isSubtype (.type "str") (.type "frozenset") = pure false := by rw [isSubtype_type]; kernel_rfl
section
variable {prog : Program} {w : World} {A : Around} {E : Value → Shared → Prop} {s : Shared}
theorem call_set_text {x : Str} {t : Tok} {Q : Value → Shared → Prop}
    (hh : A.handled = none) (hb : x.cps.size + 1 < scanBound)
    (h : ∀ (h' : Heap) (tk : Nat), h'.SetOf (PySem.strKind prog w) s.heap.objs.size (fun k' => (metS (fun i => ⟨#[x.cps.getD i 0]⟩) x.cps.size).any (· == k')) (metS (fun i => ⟨#[x.cps.getD i 0]⟩) x.cps.size).length →
      (∀ b o, b < s.heap.objs.size → s.heap.get? b = some o → h'.get? b = some o) → Q (.ref s.heap.objs.size) { s with heap := h', toks := tk }) :
    wpAny (model prog w) A (call (.type "set") [.str x t]) Q E s := by
  obtain ⟨c, tl, hmro⟩ := F.called_set.mro
  have hmade := F.called_set.made
  have hsub := F.called_set.sub
  refine wpAny_call (codeAny_of_tree ?_)
  show wpAny _ _ (callAny (.type "set") _) _ _ _
  refine wpAny_pure ⟨Code.quiet_builtin _ (by decide +kernel), codeAny_builtin F.entry_type_call ?_⟩
  rw [Around.under_plain (weight_type_call_type "set" [.str x t] []) rfl]
  have h1 := F.called_set.notType
  have h2 := F.called_set.canCreate
  have hct := F.typeCall_set_1 (.str x t)
  repeat (any_goals (first | assumption | wp_step))
  refine codeAny_mono (code_set_new_1 (.str x t) (E := E) (Q₁ := fun obj s₁ => ∃ led : Bool, obj = .ref s.heap.objs.size ∧ s₁ = { s with heap := s.heap.push { cls := .type "set", dict := none, data := .set #[] 0 (.fresh 0 0 led) } }) fun led => ⟨led, rfl, rfl⟩) fun r s₁ hr => ?_
  cases r with
  | error e => exact hr
  | ok fl =>
    cases fl with
    | ret obj =>
      obtain ⟨led, rfl, rfl⟩ := hr
      have hS : (s.heap.push { cls := .type "set", dict := none, data := .set #[] 0 (.fresh 0 0 led) }).get? s.heap.objs.size = some { cls := .type "set", dict := none, data := .set #[] 0 (.fresh 0 0 led) } := Heap.get?_push_size _ rfl
      have hT : Shared.TypeIs { s with heap := s.heap.push { cls := .type "set", dict := none, data := .set #[] 0 (.fresh 0 0 led) } } (.ref s.heap.objs.size) "set" := ⟨_, hS, rfl⟩
      have hli := F.called_set.init.lookup
      have hbi := F.called_set.init.bind (.ref s.heap.objs.size)
      repeat (any_goals (first | assumption | wp_step))
      refine codeAny_mono (codeAny_call_builtin (R := wants (fun r s₂ => r = .none ∧ ∃ h' tk, s₂ = { s with heap := h', toks := tk } ∧
          h'.SetOf (PySem.strKind prog w) s.heap.objs.size (fun k' => (metS (fun i => ⟨#[x.cps.getD i 0]⟩) x.cps.size).any (· == k')) (metS (fun i => ⟨#[x.cps.getD i 0]⟩) x.cps.size).length ∧
          (∀ b o, b < s.heap.objs.size → s.heap.get? b = some o → h'.get? b = some o)) E) F.called_set.init.plain F.entry_set_init (check_set_init_1 hT ?_)) fun r₂ s₂ hr₂ => ?_
      · have hsls := sub_str_set'
        have hslf := sub_str_frozen'
        have hne : (Value.type "str" == Value.type "dict") = false := by decide
        unfold Builtin.«set.__init__» noKeywords Builtin.Frozenset.updateFrom
        generalize hPI : pyIter = PI
        wp_walk
        subst hPI
        refine wpAny_pyIter_str fun o St W hst => ?_
        refine wpAny_bind (wpAny_runValue ?_)
        have hh3 : A.in1.in1.in1.handled = none := by simp [hh]
        have hSf : s.heap.objs.size ∉ [(s.heap.push { cls := .type "set", dict := none, data := .set #[] 0 (.fresh 0 0 led) }).objs.size] := by
          rw [Heap.size_push]
          simp only [List.mem_cons, List.not_mem_nil, or_false]
          exact Nat.ne_of_lt (Nat.lt_succ_self _)
        have hval : ∀ (i : Nat) (v : Value), SignAt x i v → ∃ t, v = .str ((fun i => (⟨#[x.cps.getD i 0]⟩ : Str)) i) t := fun i v ⟨c, u, hc, hv⟩ => by
          refine ⟨u, ?_⟩
          rw [hv]
          have e : x.cps.getD i 0 = c := by
            rw [Array.getD_eq_getD_getElem?, hc]
            rfl
          show _ = Value.str (⟨#[x.cps.getD i 0]⟩ : Str) u
          rw [e]
        refine set_loopS ((W _ hh3).toS) s.heap.objs.size hSf (fun i => ⟨#[x.cps.getD i 0]⟩) hval hb (x.cps.size - 0) 0 _ (by omega) (Nat.zero_le _) hst ?hS0 ?hR
        case hS0 =>
          have hget : ((s.heap.push { cls := .type "set", dict := none, data := .set #[] 0 (.fresh 0 0 led) }).push o).get? s.heap.objs.size
              = some { cls := .type "set", dict := none, data := .set #[] 0 (.fresh 0 0 led) } := Heap.get?_push_of_some _ hS
          exact PyProof.Rows.SetOf_congr ((PyProof.Rows.setObjOf_fresh (knd := PySem.strKind prog w) led).setOf hget (by unfold scanBound; omega)) (fun _ => rfl) rfl
        case hR =>
          intro s' hm hS'
          obtain ⟨h', g', d', tk', os'⟩ := s'
          have eg : g' = s.gens := hm.gens
          have ed : d' = s.drawn := hm.drawn
          have eo : os' = s.os := hm.os
          subst eg; subst ed; subst eo
          show wpAny _ _ _ _ _ _
          refine wpAny_pure ?_
          show wpAny _ _ (ret Value.none) _ _ _
          refine wpAny_pure ⟨rfl, h', tk', rfl, hS', fun b o hb e => ?_⟩
          have hb1 : b ≠ s.heap.objs.size := Nat.ne_of_lt hb
          have hb2 : b ≠ (s.heap.push { cls := .type "set", dict := none, data := .set #[] 0 (.fresh 0 0 led) }).objs.size := by
            rw [Heap.size_push]
            exact Nat.ne_of_lt (Nat.lt_succ_of_lt hb)
          exact hm.heap b o (by simp only [List.mem_cons, List.mem_singleton, List.not_mem_nil, or_false, not_or]; exact ⟨hb1, hb2⟩) (Heap.get?_push_of_some _ (Heap.get?_push_of_some _ e))
      · cases r₂ with
        | error e => exact hr₂
        | ok fl₂ =>
          cases fl₂ with
          | ret r =>
            obtain ⟨rfl, h', tk, rfl, hS', hk'⟩ := hr₂
            repeat (any_goals (first | assumption | wp_step))
            exact h _ _ hS' hk'
          | _ => exact hr₂.elim
    | _ => exact hr.elim
end
/-! ### len(set(text)) -/
theorem metS_nodup (val : Nat → Str) : ∀ i, ((metS val i).length = i ↔ ((List.range i).map val).Nodup)
  | 0 => by simp [metS]
  | i + 1 => by
    have mem : ∀ i k, k ∈ metS val i ↔ k ∈ (List.range i).map val := by
      intro i
      induction i with
      | zero => simp [metS]
      | succ i ih =>
        intro k
        have a : (metS val (i + 1)).any (· == k) = ((metS val i).any (· == k) || decide (k = val i)) := by rw [metS_succ, ddS_any]
        rw [List.range_succ, List.map_append, List.mem_append, ← ih k]
        constructor
        · intro m
          have z : (metS val (i + 1)).any (· == k) = true := List.any_eq_true.mpr ⟨k, m, beq_self_eq_true k⟩
          rw [a, Bool.or_eq_true] at z
          rcases z with z | z
          · obtain ⟨y, my, ey⟩ := List.any_eq_true.mp z
            rw [eq_of_beq ey] at my
            exact .inl my
          · exact .inr (by simp [of_decide_eq_true z])
        · intro m
          have z : (metS val (i + 1)).any (· == k) = true := by
            rw [a, Bool.or_eq_true]
            rcases m with m | m
            · exact .inl (List.any_eq_true.mpr ⟨k, m, beq_self_eq_true k⟩)
            · exact .inr (decide_eq_true (by simpa using m))
          obtain ⟨y, my, ey⟩ := List.any_eq_true.mp z
          rw [eq_of_beq ey] at my
          exact my
    have ih := metS_nodup val i
    have le := metS_le val i
    have lt : (metS val (i + 1)).length = if (metS val i).any (· == val i) then (metS val i).length else (metS val i).length + 1 := by rw [metS_succ, ddS_len]
    have anym : (metS val i).any (· == val i) = true ↔ val i ∈ (List.range i).map val := by
      rw [← mem i, List.any_eq_true]
      exact ⟨fun ⟨y, my, ey⟩ => eq_of_beq ey ▸ my, fun m => ⟨_, m, beq_self_eq_true _⟩⟩
    rw [List.range_succ, List.map_append, List.nodup_append, lt]
    constructor
    · intro e
      split at e
      · omega
      · rename_i na
        have nm : val i ∉ (List.range i).map val := fun m => na (anym.mpr m)
        refine ⟨ih.mp (by omega), by simp, fun a ha b hb eab => nm ?_⟩
        have hb : b = val i := by simpa using hb
        rw [← hb, ← eab]
        exact ha
    · rintro ⟨h1, _, h3⟩
      rw [if_neg fun z => h3 _ (anym.mp z) (val i) (by simp) rfl, ih.mpr h1]
/-- as many as the text has signs just if no sign stands there twice -/
theorem metS_text (z : List Nat) : (metS (fun i => ⟨#[(S z).cps.getD i 0]⟩) (S z).cps.size).length ≤ z.length ∧ ((metS (fun i => ⟨#[(S z).cps.getD i 0]⟩) (S z).cps.size).length = z.length ↔ z.Nodup) := by
  have e1 : (S z).cps.size = z.length := by simp
  rw [e1]
  refine ⟨metS_le _ _, (metS_nodup _ _).trans ?_⟩
  have e2 : (List.range z.length).map (fun i => (⟨#[(S z).cps.getD i 0]⟩ : Str)) = z.map fun c => S [c] := by
    refine List.ext_getElem (by simp) fun i h1 h2 => ?_
    have hi : i < z.length := by simpa using h1
    rw [List.getElem_map, List.getElem_map, List.getElem_range]
    show S [(S z).cps.getD i 0] = S [z[i]]
    rw [Array.getD_eq_getD_getElem?]
    simp [hi]
  rw [e2]
  constructor
  · intro h
    exact List.Pairwise.of_map (f := fun c => S [c]) (fun a b ne e => ne (by rw [e])) h
  · intro h
    exact List.pairwise_map.mpr (h.imp fun ne e => ne (by have := S_inj e; simpa using this))
def tLenSetS (ta : TE) : TE := fun σ H Q => ta σ H fun x H1 => ∃ z : List Nat, x = .str (S z) ∧ z.length ≤ 1000 ∧ ∀ n : Nat, n ≤ z.length → (n = z.length ↔ z.Nodup) → Q (.int (n : Int)) H1
theorem pe_lenSetS {X : Cx} {a : Expr} {ta : TE} {p p2 q pos : Pos} (hg : Gl X "len") (hm : X.mg "len" = none) (hg2 : Gl X "set") (hm2 : X.mg "set" = none) (ha : PE X a ta) (hc : X.calm = true := by rfl)
    (na : starEach [a] X.env = (false, eval a X.env) :: starEach [] X.env := by rfl) : PE X (.Call (.Name "len" p) [.Call (.Name "set" p2) [a] [] q] [] pos) (tLenSetS ta) := by
  refine ⟨fun pins s σ H Q I h => ?_⟩
  refine Call_ (ld_blt I hg hm boot_len ?_)
  refine PyProof.Rows.callWith_builtin1 (PyProof.Rows.args_cons ?_ rfl) rfl rfl
  refine Call_ (ld_blt I hg2 hm2 boot_set ?_)
  refine PyProof.Rows.callWith_type1 (PyProof.Rows.args_cons (thn (ha.run pins s σ H _ I h) fun v s1 ⟨x, H1, I1, r1, q1⟩ => PyProof.Rows.args_nil ?_) na) na rfl
  obtain ⟨z, rfl, few, q1⟩ := q1
  obtain ⟨t, rfl⟩ := r1
  have e1 : (S z).cps.size = z.length := by simp
  have m := metS_text z
  refine call_set_text (I1.ok.hd hc) (by rw [e1]; unfold scanBound; omega) fun h' tk hS hk => ?_
  refine PyProof.Rows.args_nil ?_
  generalize (metS (fun i => ⟨#[(S z).cps.getD i 0]⟩) (S z).cps.size) = L at hS m
  obtain ⟨o, es, ep, t, ho, hex, hd, _, _, _, hf, hn⟩ := hS
  have I2 : L2.Inv X pins σ H1 { s1 with heap := h', toks := tk } := I1.kept fun b o e => hk b o (Heap.lt_size e) e
  exact call_len_set ho hex hd hf (by rw [hn] <;> omega) ⟨.int L.length, H1, I2.tok _, ⟨_, by rw [hn]⟩, q1 _ m.1 m.2⟩
end Pm
namespace Pm
open PySem PySem.Spec PyProof.Rows L2 SX
/-! ### sorted(text) -/
/-- the signs, each a text of its own -/
def ones (z : List Nat) : List Str := z.map fun c => S [c]
theorem strs_signs : ∀ {us : List Value} {z : List Nat}, us.length = z.length → (∀ (j : Nat) (v : Value), us[j]? = some v → ∃ (c : Nat) (t : Tok), z[j]? = some c ∧ v = Value.str (S [c]) t) → StrsAre us (ones z)
  | [], [], _, _ => .nil
  | u :: us, k :: ks, hl, h => by
    obtain ⟨x, t, e1, e2⟩ := h 0 u rfl
    have e1' : k = x := Option.some.inj e1
    subst e1'
    subst e2
    refine .cons _ _ (strs_signs (by simpa using hl) fun j v e => ?_)
    obtain ⟨x, t, a, b⟩ := h (j + 1) v (by simpa using e)
    exact ⟨x, t, by simpa using a, b⟩
  | [], _ :: _, hl, _ => by simp at hl
  | _ :: _, [], hl, _ => by simp at hl
/-- sorted(text): its signs in a new list, in order -/
def rSortedTx : List V → Hp → VK → Prop := fun vs H Q => ∃ z : List Nat, vs = [.str (S z)] ∧ z.length ≤ 1000 ∧ ∀ (ys : List Nat) (p : Addr), ys.Perm z → ys.Pairwise (· ≤ ·) → H p = none → Q (.ref p) (upd H p (.lst ((ones ys).map V.str)))
theorem ones_perm {z : List Nat} : ∀ {l : List Str}, l.Perm (ones z) → ∃ ys : List Nat, ys.Perm z ∧ l = ones ys := fun {l} h => by
  refine ⟨l.map fun s => s.cps.toList.headD 0, ?_, ?_⟩
  · have q := h.map fun s => s.cps.toList.headD 0
    have e : (ones z).map (fun s : Str => s.cps.toList.headD 0) = z := by
      unfold ones
      rw [List.map_map]
      have : ((fun s : Str => s.cps.toList.headD 0) ∘ fun c => S [c]) = id := by
        funext c
        simp
      rw [this, List.map_id]
    rw [e] at q
    exact q
  · unfold ones
    rw [List.map_map]
    refine (List.map_id l).symm.trans (List.map_congr_left fun s hs => ?_)
    obtain ⟨c, _, rfl⟩ := List.mem_map.mp (h.mem_iff.mp hs)
    simp
theorem ones_sorted : ∀ {ys : List Nat}, sortedS (ones ys) = true → ys.Pairwise (· ≤ ·) := by
  have step : ∀ (p : Nat) (l : List Nat), risingS (S [p]) (ones l) = true → (p :: l).Pairwise (· ≤ ·) := by
    intro p l
    induction l generalizing p with
    | nil => intro _; exact List.pairwise_singleton _ _
    | cons x r ih =>
      intro h
      have h : (!ltCps (S [x]).cps.toList (S [p]).cps.toList && risingS (S [x]) (ones r)) = true := h
      rw [Bool.and_eq_true] at h
      have tl := ih x h.2
      have le : p ≤ x := by
        have z := h.1
        rw [ltCps_eq] at z
        by_cases y : x < p
        · rw [decide_eq_true (show (S [x]).cps.toList < (S [p]).cps.toList from List.Lex.rel y)] at z
          cases z
        · omega
      refine List.pairwise_cons.mpr ⟨fun y hy => ?_, tl⟩
      rcases List.mem_cons.mp hy with e | m
      · rw [e]
        exact le
      · exact Nat.le_trans le ((List.pairwise_cons.mp tl).1 y m)
  intro ys h
  cases ys with
  | nil => exact List.Pairwise.nil
  | cons x r => exact step x r h
theorem cr_sortedTx {X : Cx} (hcalm : X.calm = true) : CallR X (.builtin "sorted") rSortedTx := by
  intro pins s σ H xs us Q I r q
  obtain ⟨z, ex, few, q⟩ := q
  subst ex
  obtain ⟨u, eu, rx⟩ := vals1 r
  subst eu
  obtain ⟨t, rfl⟩ := rx
  have e1 : (S z).cps.size = z.length := by simp
  refine Calls.call_function_entry PyProof.Rows.kind_sorted PyProof.Rows.plain_sorted PyProof.Rows.entry_sorted (PyProof.Rows.args_sorted1 _) ?_
  unfold Builtin.«sorted»
  refine wpAny_bind (m := checkCount "sorted" 1 1 _) (wpAny_pure ?_)
  refine wpAny_bind (wpAny_collect_str (A := X.A.in1) (I.ok.hd hcalm) (S z) t (fun s1 acc hk hg hd ho hacc => ?_) (by rw [e1, sizeLine_eq]; omega))
  have hal : acc.toList.length = z.length := by rw [Array.length_toList, hacc.1, e1]
  have hS : StrsAre acc.toList (ones z) := strs_signs hal fun j v e => by
    obtain ⟨c, u, e2, e3⟩ := hacc.2 j v (by rw [← Array.getElem?_toList]; exact e)
    refine ⟨c, u, ?_, e3⟩
    rw [← Array.getElem?_toList] at e2
    exact e2
  obtain ⟨h', g', d', tk', os'⟩ := s1
  have hg : g' = s.gens := hg
  have hd : d' = s.drawn := hd
  have ho : os' = s.os := ho
  subst hg hd ho
  have I1 : L2.Inv X pins σ H { s with heap := h', toks := tk' } := I.kept hk
  refine wpAny_bind (wpAny_newList ?_ (by rw [hal, sizeLine_eq]; omega))
  have hoL : (h'.push (seqObj "list" acc.toList.toArray 0)).get? h'.objs.size = some (seqObj "list" acc.toList.toArray 0) := Heap.get?_push_size _ rfl
  show wpAny _ _ _ _ _ { s with heap := h'.push (seqObj "list" acc.toList.toArray 0), toks := tk' }
  refine wpAny_bind (wpAny_holding (wpAny_call_entry PyProof.Rows.slot_list_sort ⟨_, hoL, rfl⟩ PyProof.Rows.entry_list_sort
    (list_sort_treeKAny strKind_oneLt (s := { s with heap := h'.push (seqObj "list" acc.toList.toArray 0), toks := tk' }) hoL hS.keysOf (fun v₁ v₂ rest e => keyKind_strs (by rw [← e]; exact hS)) (by rw [hal, sizeLine_eq]; omega) fun st' hp hs => ⟨_, rfl, ?_⟩)
    (PyProof.Rows.args_list_sort _)))
  obtain ⟨ss, g1, g2, g3⟩ := sorted_out_str hS hp hs
  obtain ⟨ys, p1, rfl⟩ := ones_perm g2
  obtain ⟨e', he'⟩ := PyProof.Rows.sortedHeap_at (vs := acc.toList) (out := (arrOf st').map (·.2)) hoL
  have hlen : ((ones ys).map V.str).length ≤ sizeLine := by
    rw [List.length_map, g2.length_eq]
    show (ones z).length ≤ _
    rw [show (ones z).length = z.length from List.length_map _]
    exact small_line few
  refine wpAny_pure ⟨_, rfl, .ref h'.objs.size, upd H h'.objs.size (.lst ((ones ys).map V.str)), I1.laid (t' := tk') (fun b u e => ?_) (Nat.le_refl _)
    (show ObjOk X.prog X.w _ _ _ (.lst ((ones ys).map V.str)) from ⟨hlen, ((arrOf st').map (·.2)).toList, e', vals_of_strs g1, by rw [Array.toArray_toList]; exact he'⟩), rfl, q ys _ p1 (ones_sorted g3) (I1.hok.fresh (Nat.le_refl _))⟩
  have hb : b < h'.objs.size := Heap.lt_size e
  rw [PyProof.Rows.sortedHeap_old (Nat.ne_of_lt hb) (by rw [size_push']; exact Nat.lt_succ_of_lt hb)]
  exact Heap.get?_push_of_some _ e
end Pm
namespace Pm
open PySem PySem.Spec PyProof.Rows L2 SX
/-! ### which rows are good -/
def stoneB : List Nat → Bool
  | [c] => decide (Let c)
  | _ => false
def goodB : List Nat → Bool
  | [c] => decide (Good c)
  | _ => false
def okB (w : Int) (z : List Nat) : Bool := (decide (1 ≤ z.length) && decide (z.length ≤ 8) && decide ((z.length : Int) = w)) && z.all fun c => decide (Good c)
def lineOf : Rows → Int
  | [] => 1
  | r :: R => match ((r :: R).take 8).findIdx? (fun z => !okB (r.length : Int) z) with
    | some i => (i : Int) + 1
    | none => if 8 < (r :: R).length then 9 else 0
structure PTxt (K : PySem.W.Frag) (mg : Str → Option Value) (C : Addr) : Prop where
  gC : mg "Picture" = some (.ref C)
  cr : ∃ mc, ClX.CRead K C mc ∧ (∃ u, ClX.CVal K C mc "HOLE" (.str ".") u) ∧ ∃ u, ClX.CVal K C mc "EDGE" (.str "#") u
  stones : ∃ u, mg "STONES" = some u ∧ RelV (.str alphaS) u
  most : ∃ u, mg "MOST" = some u ∧ RelV (.int 8) u
  all : mg "all" = none
  enum : mg "enumerate" = none
theorem len_one {z : List Nat} (h : z.length = 1) : ∃ c, z = [c] := match z, h with | [c], _ => ⟨c, rfl⟩
theorem stoneB_ne {z : List Nat} (h : z.length ≠ 1) : stoneB z = false := by
  match z, h with
  | [], _ => rfl
  | [_], h => exact absurd rfl h
  | _ :: _ :: _, _ => rfl
theorem goodB_ne {z : List Nat} (h : z.length ≠ 1) : goodB z = false := by
  match z, h with
  | [], _ => rfl
  | [_], h => exact absurd rfl h
  | _ :: _ :: _, _ => rfl
section
variable {P : Program} {w : World} {K : PySem.W.Frag} {mg : Str → Option Value} {base : Heap} {C : Addr}
def spStone : Sp := fun vs H Q _ => ∃ z, vs = [.str (S z)] ∧ z.length ≤ 1000 ∧ Q (.bl (stoneB z)) H
theorem scStone : FnScope ["sign"] ["sign"] (defScope gIsStone) := ⟨rfl, rfl, rfl, by decide +kernel, rfl, by decide +kernel, by decide +kernel⟩
theorem ok_stone {f : Addr} {fd : FuncData} (F : Fun K "is_stone" "is_stone" gIsStone f fd) (L : LTxt K mg) (T : PTxt K mg C) : FnOk P w K mg base CX0 1 f fd ["sign"] spStone := by
  refine F.ok scStone (fun vs H Q E h => ?_) (fun cdv A outer s H vs Q E hr h => ?_)
  · obtain ⟨z, rfl, _⟩ := h
    rfl
  · obtain ⟨z, rfl, few, k⟩ := h
    obtain ⟨u, hu, ru⟩ := T.stones
    refine ⟨_, pss_one (ps_ret (pe_and (pe_cmpR op_eq (pe_callB call_len_str (by rfl) L.len PySem.boot_len (pa_cons (pv 0) pa_nil)) pe_int (nomark _)) (pe_one (pe_cmpR op_in_sign (pv 0) (pe_glob (by rfl) hu ru) (by rfl))))), ?_⟩
    refine ⟨_, rfl, _, rfl, by rw [len_S]; exact small_line few, rfl, _, rfl, ite2 (fun e => ?_) (fun e => ?_)⟩
    · have e1 : z.length = 1 := by
        have := of_decide_eq_true e
        simp only [V.int.injEq] at this
        rw [len_S] at this
        omega
      obtain ⟨c, rfl⟩ := len_one e1
      refine ⟨_, rfl, c, _, rfl, rfl, ?_⟩
      have y : decide (c ∈ alphaS.cps.toList) = stoneB [c] := decide_eq_decide.mpr (alpha_mem c)
      rw [y]
      exact k
    · have e1 : z.length ≠ 1 := fun y => e (decide_eq_true (by rw [len_S, y]; rfl))
      rw [stoneB_ne e1] at k
      exact k
def spSoh : Sp := fun vs H Q _ => ∃ z, vs = [.str (S z)] ∧ z.length ≤ 1000 ∧ Q (.bl (goodB z)) H
theorem scSoh : FnScope ["sign"] ["sign"] (defScope gIsStoneOrHole) := ⟨rfl, rfl, rfl, by decide +kernel, rfl, by decide +kernel, by decide +kernel⟩
theorem ok_soh {f g : Addr} {fd gd : FuncData} (F : Fun K "is_stone_or_hole" "is_stone_or_hole" gIsStoneOrHole f fd) (G : Cl P w K mg base CX0 1 "is_stone" ["sign"] spStone g gd) (T : PTxt K mg C) : FnOk P w K mg base CX0 2 f fd ["sign"] spSoh := by
  refine F.ok scSoh (fun vs H Q E h => ?_) (fun cdv A outer s H vs Q E hr h => ?_)
  · obtain ⟨z, rfl, _⟩ := h
    rfl
  · obtain ⟨z, rfl, few, k⟩ := h
    obtain ⟨mc, cr, ⟨u, hu⟩, _⟩ := T.cr
    refine ⟨_, pss_one (ps_ret (pe_or (pe_cmpR op_eq (pv 0) (ClX.pe_cval (pe_glob (v := .ref C) (by rfl) T.gC rfl)) (nomark _)) (pe_one (pe_call G.ok hr (by rfl) G.gl G.kp G.bd .nil pass0 (pa_cons (pv 0) pa_nil))))), ?_⟩
    refine ⟨_, rfl, C, mc, _, u, rfl, cr, hu, rfl, _, rfl, ite2 (fun e => ?_) (fun e => ⟨_, rfl, z, rfl, few, ?_⟩)⟩
    · have e1 : z = [46] := by
        have := of_decide_eq_true e
        simp only [V.str.injEq] at this
        rw [dot_S] at this
        exact S_inj this
      subst e1
      exact k
    · have e1 : z ≠ [46] := fun y => e (decide_eq_true (by rw [y, dot_S]))
      have e2 : stoneB z = goodB z := by
        by_cases l1 : z.length = 1
        · obtain ⟨c, rfl⟩ := len_one l1
          refine decide_eq_decide.mpr ⟨.inr, fun y => ?_⟩
          rcases y with y | y
          · exact absurd (by rw [y]) e1
          · exact y
        · rw [stoneB_ne l1, goodB_ne l1]
      rw [e2]
      exact k
/-! ### a bad row -/
def spBad : Sp := fun vs H Q _ => ∃ z w, vs = [.str (S z), .int w] ∧ z.length ≤ 1000 ∧ ∀ H', Same H H' → Q (.bl (!okB w z)) H'
abbrev nBad : List Str := ["row", "width", "sign"]
theorem scBad : FnScope nBad ["row", "width"] (defScope gIsBadRow) := ⟨rfl, rfl, rfl, by decide +kernel, rfl, by decide +kernel, by decide +kernel⟩
theorem all_good (z : List Nat) : (z.map fun c => goodB [c]).all id = z.all fun c => decide (Good c) := by
  rw [List.all_map]
  rfl
theorem ok_bad {f g : Addr} {fd gd : FuncData} (F : Fun K "_is_bad_row" "_is_bad_row" gIsBadRow f fd) (G : Cl P w K mg base CX0 2 "is_stone_or_hole" ["sign"] spSoh g gd) (L : LTxt K mg) (T : PTxt K mg C) : FnOk P w K mg base CX0 3 f fd ["row", "width"] spBad := by
  refine F.ok scBad (fun vs H Q E h => ?_) (fun cdv A outer s H vs Q E hr h => ?_)
  · obtain ⟨z, w, rfl, _⟩ := h
    rfl
  · obtain ⟨z, w, rfl, few, k⟩ := h
    obtain ⟨um, hm, rm⟩ := T.most
    refine ⟨_, pss_cons (ps_if (PW.pt (pw_or (pt_not (pt_chain op_le op_le pe_int (pe_callB call_len_str (by rfl) L.len PySem.boot_len (pa_cons (pv 0) pa_nil)) (pe_glob (by rfl) hm rm))) (pw_or1 (pt_cmpR op_ne (pe_callB call_len_str (by rfl) L.len PySem.boot_len (pa_cons (pv 0) pa_nil)) (pv 1) (nomark _))))) (pss_one (ps_ret pe_bl)) pss_nil)
      (pss_one (ps_ret (pe_not (pe_callB (cr_all rfl) (by rfl) T.all (by decide +kernel) (pa_cons (pe_lc (own := [("sign", 2)]) (g := gName 2) (tt := tYes) rfl scBad.nd (pi_str (pv 0)) (blkOk_by (N := nBad) (sc := defScope gIsBadRow) (by decide +kernel)) (fun _ _ _ _ _ => pg_name (i := 2) scBad.nd rfl (.inl rfl)) (fun _ _ _ _ _ => pts_nil)
        (fun _ _ _ _ _ => pe_call G.ok hr (by rfl) G.gl G.kp G.bd .nil pass0 (pa_cons (pv 2) pa_nil))) pa_nil))))), ?_⟩
    have line : (S z).length ≤ sizeLine := by rw [len_S]; exact small_line few
    have body : okB w z = (z.all fun c => decide (Good c)) → ∀ H1, Same H H1 → Q (.bl (!(z.all fun c => decide (Good c)))) H1 := fun e H1 s1 => by
      rw [← e]
      exact k H1 s1
    -- what stands behind the test, where it does not hold
    have go : (1 ≤ z.length ∧ z.length ≤ 8 ∧ (z.length : Int) = w) → okB w z = (z.all fun c => decide (Good c)) := fun ⟨a, b, c⟩ => by
      unfold okB
      rw [decide_eq_true a, decide_eq_true b, decide_eq_true c]
      rfl
    have no : ¬ (1 ≤ z.length ∧ z.length ≤ 8 ∧ (z.length : Int) = w) → okB w z = false := fun y => by
      unfold okB
      by_cases a : 1 ≤ z.length
      · by_cases b : z.length ≤ 8
        · by_cases c : (z.length : Int) = w
          · exact absurd ⟨a, b, c⟩ y
          · rw [decide_eq_false c, Bool.and_false]
            rfl
        · rw [decide_eq_false b, Bool.and_false]
          rfl
      · rw [decide_eq_false a]
        rfl
    have yes : ¬ (1 ≤ z.length ∧ z.length ≤ 8 ∧ (z.length : Int) = w) → Q (.bl true) H := fun y => by
      have q := k H (Same.refl H)
      rw [no y] at q
      exact q
    refine ⟨_, rfl, _, rfl, line, _, _, rfl, rfl, _, rfl, ite2 (fun a => ?_) (fun a => ?_)⟩
    · have a1 : 1 ≤ z.length := by
        have y := of_decide_eq_true a
        rw [len_S] at y
        omega
      refine ⟨_, _, rfl, rfl, _, rfl, ?_⟩
      by_cases b : z.length ≤ 8
      · refine iteFe (by rw [len_S]; simp; omega) ⟨_, rfl, _, rfl, line, _, rfl, rfl, _, rfl, ?_⟩
        by_cases c : (z.length : Int) = w
        · refine iteFe (by rw [len_S]; simp [c]) ⟨_, rfl, _, rfl, fun D nD => lc_it walk_str (fun i G => Same H G ∧ G D = some (.lst (((z.take i).map fun c => goodB [c]).map V.bl))) ⟨same_upd nD, upd_same⟩ (fun _ _ _ _ => trivial) ?_ ?_⟩
          · rintro i x G G' hi ⟨sG, hD⟩ ⟨rfl, d, gd, rfl⟩
            have gd2 : z[i]? = some d := by
              have y : z.toArray[i]? = some d := gd
              rwa [List.getElem?_toArray] at y
            refine ⟨rfl, tyes (iteT ⟨_, rfl, [d], rfl, (show 1 ≤ 1000 by decide), _, hD, ?_, ?_, ?_⟩)⟩
            · rw [List.length_map, List.length_map, List.length_take]
              exact small1000 (by omega)
            · exact fun b o e => by
                rw [upd_ne (ne_of_none e nD)]
                exact sG b o e
            · rw [upd_same, List.take_add_one, gd2]
              simp
          · rintro G ⟨sG, hD⟩
            have e1 : (S z).cps.size = z.length := by simp
            rw [e1, List.take_of_length_le (Nat.le_refl _)] at hD
            refine ⟨D, _, rfl, SqL.of hD, _, rfl, ?_⟩
            rw [all_good]
            exact body (go ⟨a1, b, c⟩) G sG
        · exact iteTe (by rw [len_S]; simp [c]) (yes fun y => c y.2.2)
      · exact iteTe (by rw [len_S]; simp; omega) (iteT (yes fun y => b y.2.1))
    · refine ⟨_, rfl, iteT (iteT (yes fun y => a (decide_eq_true ?_)))⟩
      rw [len_S]
      have := y.1
      omega
/-! ### the first bad line -/
def spLine : Sp := fun vs H Q _ => ∃ a R, vs = [.ref a] ∧ H a = some (.lst (rowsV R)) ∧ R.length ≤ 1000 ∧ (∀ r ∈ R, r.length ≤ 1000) ∧ ∀ H', Same H H' → Q (.int (lineOf R)) H'
theorem scLine : FnScope ["rows", "line", "row"] ["rows"] (defScope gBadLine) := ⟨rfl, rfl, rfl, by decide +kernel, rfl, by decide +kernel, by decide +kernel⟩
theorem walkS {K : PySem.W.Frag} {a : Addr} {xs : List V} : Walk (ItS K a) xs.length (fun H => SqL K H a xs) (fun i H v H' => ∃ T x, v = .ref T ∧ H T = none ∧ H' = upd H T (.tup [.int ((i : Int) + 1), x]) ∧ xs[i]? = some x) :=
  ⟨fun i H hi h => ⟨xs, xs[i], h, List.getElem?_eq_getElem hi⟩, fun H h => ⟨xs, h, rfl⟩, fun i H v H' _ h ⟨T, x, a, b, c, d⟩ => ⟨T, x, a, b, c, d xs h⟩⟩
theorem row0 (r : List Nat) (R : Rows) : atI (rowsV (r :: R)) 0 = some (.str (S r)) := atI_nat (j := 0) (by rfl)
theorem rowsV_at {R : Rows} {i : Nat} {x : V} (h : (rowsV R)[i]? = some x) : ∃ r, R[i]? = some r ∧ x = .str (S r) := by
  unfold rowsV at h
  rw [List.getElem?_map] at h
  cases e : R[i]? with
  | none =>
    rw [e] at h
    cases h
  | some r =>
    rw [e] at h
    cases h
    exact ⟨r, rfl, rfl⟩
theorem lineOf_cons {r : List Nat} {R : Rows} : lineOf (r :: R) = match ((r :: R).take 8).findIdx? (fun z => !okB (r.length : Int) z) with
    | some i => (i : Int) + 1
    | none => if 8 < (r :: R).length then 9 else 0 := rfl
theorem find_some {p : List Nat → Bool} : ∀ {l : Rows} {i : Nat} {z : List Nat}, l[i]? = some z → p z = true → (∀ j y, j < i → l[j]? = some y → p y = false) → l.findIdx? p = some i
  | [], i, z, h, _, _ => by simp at h
  | y :: l, 0, z, h, hz, _ => by
    have e : y = z := by simpa using h
    subst e
    rw [List.findIdx?_cons, hz]
    rfl
  | y :: l, i + 1, z, h, hz, hp => by
    have e := find_some (l := l) (i := i) (z := z) (by simpa using h) hz fun j x hj hx => hp (j + 1) x (by omega) (by simpa using hx)
    rw [List.findIdx?_cons, hp 0 y (by omega) rfl, e]
    rfl
theorem find_none {p : List Nat → Bool} {l : Rows} (h : ∀ (j : Nat) (y : List Nat), l[j]? = some y → p y = false) : l.findIdx? p = none := by
  rw [List.findIdx?_eq_none_iff]
  intro x hx
  obtain ⟨j, hj⟩ := List.mem_iff_getElem?.mp hx
  exact h j x hj
theorem ok_line {f g : Addr} {fd gd : FuncData} (F : Fun K "_bad_line" "_bad_line" gBadLine f fd) (G : Cl P w K mg base CX0 3 "is_bad_row_pictures" ["row", "width"] spBad g gd) (L : LTxt K mg) (T : PTxt K mg C) : FnOk P w K mg base CX0 4 f fd ["rows"] spLine := by
  refine F.ok scLine (fun vs H Q E h => ?_) (fun cdv A outer s H vs Q E hr h => ?_)
  · obtain ⟨a, R, rfl, _⟩ := h
    rfl
  · obtain ⟨a, R, rfl, ha, few, each, k⟩ := h
    obtain ⟨um, hm, rm⟩ := T.most
    refine ⟨_, pss_cons (ps_if (pt_not (pt_truth (pv 0) (fun _ => rfl))) (pss_one (ps_ret pe_int)) pss_nil)
      (pss_cons (ps_for PassesOwn.never rfl (pi_enumS (by rfl) T.enum (pa_cons (pe_slice sl_list (pv 0) po_none (po_some (pe_glob (by rfl) hm rm))) pa_nil) (pk_cons pe_int pk_nil)) (pg_tup rfl (pgs_cons (pg_name (i := 1) scLine.nd rfl (.inl rfl)) (pgs_cons (pg_name (i := 2) scLine.nd rfl (.inl rfl)) pgs_nil)))
        (pss_one (ps_if (pt_val (pe_call G.ok hr (by rfl) G.gl G.kp G.bd .nil pass0 (pa_cons (pv 2) (pa_cons (pe_callB call_len_str (by rfl) L.len PySem.boot_len (pa_cons (pe_ix ix_list (pv 0) pe_int (fun _ _ => rfl)) pa_nil)) pa_nil)))) (pss_one (ps_ret (pv 1))) pss_nil)))
      (pss_one (ps_ret (pe_ifExp (pt_cmpR op_gt (pe_callB call_len_seq (by rfl) L.len PySem.boot_len (pa_cons (pv 0) pa_nil)) (pe_glob (by rfl) hm rm) (nomark _)) (pe_op op_add (pe_glob (by rfl) hm rm) pe_int) pe_int)))), ?_⟩
    match R, ha, few, each, k with
    | [], ha, few, each, k =>
      exact ⟨_, rfl, _, .inl ⟨_, SqL.of ha, rfl⟩, iteT (k H (Same.refl H))⟩
    | r :: R, ha, few, each, k =>
      refine ⟨_, rfl, _, .inl ⟨_, SqL.of ha, rfl⟩, iteF ?_⟩
      refine ⟨_, rfl, _, rfl, a, _, rfl, SqL.of ha, fun p np => ?_⟩
      have e8 : cutV (rowsV (r :: R)) none (some 8) = rowsV ((r :: R).take 8) := by
        rw [show (some 8 : Option Int) = some ((8 : Nat) : Int) from rfl, cut_to]
        exact (List.map_take).symm
      rw [e8]
      have s1 := same_upd (o := .lst (rowsV ((r :: R).take 8))) np
      have hp : (upd H p (.lst (rowsV ((r :: R).take 8)))) p = some (.lst (rowsV ((r :: R).take 8))) := upd_same
      generalize upd H p (.lst (rowsV ((r :: R).take 8))) = H1 at s1 hp
      refine ⟨p, _, rfl, rfl, SqL.of hp, for_it walkS (fun i σ G => ∃ y z, σ = [some (.ref a), y, z] ∧ Same H1 G ∧ ∀ j x, j < i → ((r :: R).take 8)[j]? = some x → okB (r.length : Int) x = true) ⟨_, _, rfl, Same.refl _, fun j x hj => absurd hj (by omega)⟩ (fun i σ G _ ⟨_, _, _, sG, _⟩ => SqL.of (sG _ _ hp)) ?_ ?_⟩
      · rintro i x σ G G' hi ⟨y, z, rfl, sG, ok⟩ ⟨T1, x1, rfl, nT, rfl, gx⟩
        obtain ⟨q, gq, rfl⟩ := rowsV_at gx
        have s2 := sG.trans (same_upd (o := .tup [.int ((i : Int) + 1), .str (S q)]) nT)
        refine ⟨T1, _, rfl, SqT.of upd_same, rfl, _, _, rfl, _, _, rfl, rfl, ?_⟩
        have mq : q ∈ r :: R := List.mem_of_mem_take (List.mem_of_getElem? gq)
        refine ⟨_, rfl, _, rfl, a, _, 0, _, rfl, rfl, SqL.of (s2 _ _ (s1 _ _ ha)), row0 r R, _, rfl, by rw [len_S]; exact small_line (each r List.mem_cons_self), q, _, rfl, each q mq, fun G2 sg => ⟨_, rfl, ?_⟩⟩
        rw [len_S]
        by_cases b : okB (r.length : Int) q = true
        · rw [b]
          refine iteF ⟨_, _, rfl, s2.trans sg, fun j x hj hx => ?_⟩
          rcases Nat.lt_succ_iff_lt_or_eq.mp hj with z | z
          · exact ok j x z hx
          · rw [z, gq] at hx
            cases hx
            exact b
        · have b : okB (r.length : Int) q = false := by simpa using b
          rw [b]
          refine iteT ⟨_, rfl, ?_⟩
          have e : lineOf (r :: R) = (i : Int) + 1 := by
            rw [lineOf_cons, find_some gq (by rw [b]; rfl) fun j y hj hy => by rw [ok j y hj hy]; rfl]
          have q2 := k G2 (s1.trans (s2.trans sg))
          rw [e] at q2
          exact q2
      · rintro σ G ⟨y, z, rfl, sG, ok⟩
        have e : lineOf (r :: R) = if 8 < (r :: R).length then 9 else 0 := by
          rw [lineOf_cons, find_none fun j y hy => by
            rw [ok j y ?_ hy]
            · rfl
            · rw [rowsV_len]
              rcases List.getElem?_eq_some_iff.mp hy with ⟨h1, _⟩
              exact h1]
        have q2 := k G (s1.trans sG)
        rw [e] at q2
        refine ⟨_, rfl, a, _, rfl, .inl (SqL.of (sG _ _ (s1 _ _ ha))), _, _, rfl, rfl, _, rfl, ?_⟩
        rw [rowsV_len]
        by_cases b : 8 < (r :: R).length
        · rw [if_pos b] at q2
          exact iteTe (decide_eq_true (by omega)) ⟨_, _, rfl, rfl, q2⟩
        · rw [if_neg b] at q2
          exact iteFe (decide_eq_false (by omega)) q2
end
end Pm
namespace Pm
open PySem PySem.Spec PyProof.Rows L2 SX
/-! ### errors that are raised with fields of their own -/
/-- an error class at C that may be raised: its __init__ at f keeps sp -/
structure EMk (P : Program) (w : World) (K : PySem.W.Frag) (mg : Str → Option Value) (base : Heap) (C : Addr) (name : Str) (ps : List Str) (sp : Sp) (f : Addr) (fd : FuncData) : Prop where
  T : OexC K C
  at_ : PySem.W.findIn K (.ref C) "__init__" = some (some (.ref f))
  ty : PySem.W.typeIn K (.ref f) = some (.type "function")
  ok : FnOk P w K mg base CX0 1 f fd ps sp
  bd : Binds K fd ps []
  gl : mg name = some (.ref C)
def spE1 (C : Addr) (n : Str) : Sp := fun vs H Q _ => ∃ a v, vs = [.ref a, v] ∧ H a = some (exo a C none) ∧ ∀ H' d, H' a = some (exo a C (some d)) → H' d = some (exd d [(n, v)]) → H d = none → d ≠ a → SameBut a H H' → Q .non H'
def spE2 (C : Addr) : Sp := fun vs H Q _ => ∃ a v u, vs = [.ref a, v, u] ∧ H a = some (exo a C none) ∧ ∀ H' d, H' a = some (exo a C (some d)) → H' d = some (exd d [("y", u), ("x", v)]) → H d = none → d ≠ a → SameBut a H H' → Q .non H'
/-- what was there stands when the error is on its way -/
theorem on_way {H H2 : Hp} {a d : Addr} {o : HO} {fs : List (Str × V)} (n : H a = none) (nd : (upd H a o) d = none) (ne : d ≠ a) (s : SameBut a (upd H a o) H2) : Same H (upd (del H2 a) d (.xd fs)) := fun b u e => by
  have nba : b ≠ a := ne_of_none e n
  have nbd : b ≠ d := fun z => by
    rw [z] at e
    rw [upd_ne ne, e] at nd
    cases nd
  rw [upd_ne nbd, del_ne nba]
  exact s b u nba (by rw [upd_ne nba]; exact e)
theorem passF {X : Cx} : Passes (L2.CX X.prog X.w) X E0 := fun _ _ _ _ _ _ _ c => by
  obtain ⟨_, _, _, _, _, _, _, _, _, _, _, _, z⟩ := c
  exact z.elim
/-- an error of the class at C with the fields fs is let out -/
def Lets (E : XK) (C : Addr) (fs : List (Str × V)) (H : Hp) : Prop := ∀ d H', H d = none → H' d = some (.xd fs) → Same H H' → E (.ref C) (some d) H'
/-! ### the error that a suite holds -/
structure ErrC (K : PySem.W.Frag) (D : Addr) : Prop where
  cl : (PySem.W.clsIn K D).isSome = true
  hg : PySem.W.findIn K (.ref D) "__getattribute__" = some (some (.builtin "BaseException.__getattribute__"))
  hk : PySem.W.findIn K (.ref D) "__getattr__" = some none
  hs : PySem.W.subIn K (.ref D) (.type "BaseException") = some true
  ha : PySem.W.findIn K (.ref D) "__class__" = some (some (.builtin "object.__class__"))
  hn : PySem.W.specialIn K (.builtin "object.__class__") "__get__" = some (some (.builtin "getset_descriptor.__get__"))
  ht : PySem.W.takesIn K (.builtin "object.__class__") = some true
  hm : PySem.W.mroIn K D (.type "object") = some true
  hd : PySem.W.hasDictIn K D = true
theorem ErrC.xf {K : PySem.W.Frag} {D : Addr} (C : ErrC K D) : XfC K D := ⟨C.hg, C.hk, C.hs, C.hd⟩
/-- isinstance(e, c), e the error that the suite holds at a, its class cls, its dict d -/
def rIsX (K : PySem.W.Frag) (a : Addr) (cls : Value) (d : Option Addr) : List V → Hp → VK → Prop := fun xs H Q => ∃ (D dd : Addr) (fs : List (Str × V)) (c : V) (cv : Value) (b : Bool),
  xs = [.ref a, c] ∧ cls = .ref D ∧ d = some dd ∧ ErrC K D ∧ H dd = some (.xd fs) ∧ (∀ u, RelV c u → u = cv) ∧ PySem.W.kitOne K (.ref D) cv = some b ∧ Q (.bl b) H
theorem call_isX {X : Cx} {a : Addr} {cls : Value} {d : Option Addr} {oe : Obj} {pn : List (Addr × Obj)} (hz : Zc cls d oe) (hf : ∃ vs, oe.data = .fields vs) : CallR (X.suite a ((a, oe) :: pn)) (.builtin "isinstance") (rIsX X.K a cls d) := by
  intro pins s σ H xs us Q I r h
  obtain ⟨D, dd, fs, c, cv, b, rfl, rfl, rfl, C, hdd, hcv, e, q⟩ := h
  match r with
  | .cons rx (.cons rt .nil) =>
    cases rx
    cases hcv _ rt
    obtain ⟨at_, _⟩ := I.pin (a, oe) (List.mem_append_left _ List.mem_cons_self)
    obtain ⟨vs, hd⟩ := hf
    have own : ObjOk X.prog X.w H s.heap dd (.xd fs) := I.hok dd _ hdd
    obtain ⟨mA, hns, _⟩ := own
    obtain ⟨od, ho, _⟩ := lookIn_ns hns
    have J : PySem.W.InstAt s.heap a oe D (some od) := ⟨at_, hz.1, by unfold PySem.W.notCls; rw [hd] <;> rfl, by rw [hz.2]; exact ho⟩
    exact PySem.W.kia_one (PySem.W.kitx_exc C.cl C.hg C.hk C.hs C.ha C.hn C.ht C.hm) I.kIn J e (fun z => nomatch z) fun tk => ⟨.bl b, H, I.kept (t' := tk) fun _ _ z => z, rfl, q⟩
/-- e.f of that error, whatever its class -/
def tErrX (K : PySem.W.Frag) (a : Addr) (cls : Value) (d : Option Addr) (f : Str) (te : TE) : TE := fun σ H Q => te σ H fun x H1 => ∃ (D dd : Addr) (fs : List (Str × V)) (v : V), x = .ref a ∧ cls = .ref D ∧ d = some dd ∧ ErrC K D ∧ PySem.W.findIn K (.ref D) f = some none ∧ H1 dd = some (.xd fs) ∧ fs.lookup f = some v ∧ Q v H1
theorem pe_errX {X : Cx} {a : Addr} {oe : Obj} {cls : Value} {d : Option Addr} {pn : List (Addr × Obj)} {e : Expr} {te : TE} {pos : Pos} {n : Str} (hz : Zc cls d oe) (hf : ∃ vs, oe.data = .fields vs) (he : PE (X.suite a ((a, oe) :: pn)) e te)
    (hb : attributeBase e n X.env (eval e X.env) = eval e X.env := by rfl) : PE (X.suite a ((a, oe) :: pn)) (.Attribute e n pos) (tErrX X.K a cls d n te) := by
  refine ⟨fun pins s σ H Q I h => attr_of hb (thn (he.run pins s σ H _ I h) fun u s1 ⟨x, H1, I1, rx, D, dd, fs, v, ex, ec, ed, C, hno, hdd, l, q⟩ => ?_)⟩
  subst ex ec ed
  obtain rfl : u = Value.ref a := rx
  obtain ⟨at_, _⟩ := I1.pin (a, oe) (List.mem_append_left _ List.mem_cons_self)
  obtain ⟨vs, hd⟩ := hf
  have own : ObjOk X.prog X.w H1 s1.heap dd (.xd fs) := I1.hok dd _ hdd
  obtain ⟨mA, hns, rel⟩ := own
  obtain ⟨od, ho, hl⟩ := lookIn_ns hns
  have rl := rel n
  rw [l] at rl
  obtain ⟨u, hu, ru⟩ := RelO.some_of (v := v) (o := mA n) rl
  have J : PySem.W.InstAt s1.heap a oe D (some od) := ⟨at_, hz.1, by unfold PySem.W.notCls; rw [hd] <;> rfl, by rw [hz.2]; exact ho⟩
  exact HandSPX.exc_get I1.kIn J C.hg C.hk C.hs (PySem.W.findObj_own C.hd hno rfl (by rw [hl, hu])) (handed_of ru) ⟨v, H1, I1.tok _, ru, q⟩
end Pm
namespace Pm
open PySem PySem.Spec PyProof.Rows L2 SX
section
variable {P : Program} {w : World} {K : PySem.W.Frag} {mg : Str → Option Value} {base : Heap} {C CI : Addr}
theorem scEInvalidPicture : FnScope ["self", "line"] ["self", "line"] (defScope cInvalidPictureInit) := ⟨rfl, rfl, rfl, by decide +kernel, rfl, by decide +kernel, by decide +kernel⟩
theorem okEInvalidPicture {f C : Addr} {fd : FuncData} (F : Fun K "__init__" "InvalidPicture.__init__" cInvalidPictureInit f fd) (T : OexC K C) (nx : PySem.W.findIn K (.ref C) "line" = some none) : FnOk P w K mg base CX0 1 f fd ["self", "line"] (spE1 C "line") := by
  refine F.ok scEInvalidPicture (fun vs H Q E h => ?_) (fun cdv A outer s H vs Q E hr h => ?_)
  · obtain ⟨a, v, rfl, _⟩ := h
    rfl
  · obtain ⟨a, v, rfl, ha, k⟩ := h
    refine ⟨_, pss_one (ps_ost (pv 0) (pv 1)), ?_⟩
    refine ⟨_, rfl, _, rfl, a, C, rfl, T, nx, .inl ⟨ha, fun dx nd ne => ?_⟩⟩
    refine k _ dx upd_same (by rw [upd_ne ne, upd_same]) nd ne fun b o nb e => ?_
    rw [upd_ne nb, upd_ne (ne_of_none e nd)]
    exact e
/-! ### a picture -/
def wideOf (R : Rows) : Int := ((R.headD []).length : Int)
def PicAt (C : Addr) (H : Hp) (r : Addr) (R : Rows) : Prop := ∃ dx l, H r = some (.ins C dx [("_rows", .ref l), ("width", .int (wideOf R)), ("height", .int (R.length : Int))]) ∧ H l = some (.lst (rowsV R))
structure PCls (K : PySem.W.Frag) (C : Addr) : Prop where
  cl : L2.Cls K C
  nR : NoAttr K C "_rows"
  nW : NoAttr K C "width"
  nH : NoAttr K C "height"
def spInit (C CI : Addr) : Sp := fun vs H Q E => ∃ r dx a R, vs = [.ref r, .ref a] ∧ H r = some (.ins C dx []) ∧ H a = some (.lst (rowsV R)) ∧ R.length ≤ 1000 ∧ (∀ z ∈ R, z.length ≤ 1000) ∧
  (0 < lineOf R → Lets E CI [("line", .int (lineOf R))] H) ∧ (lineOf R = 0 → ∀ H', PicAt C H' r R → SameBut r H H' → Q .non H')
theorem lineOf_nonneg (R : Rows) : 0 ≤ lineOf R := by
  match R with
  | [] => exact Int.le_of_lt (by decide)
  | r :: R =>
    rw [lineOf_cons]
    split
    · exact Int.add_nonneg (Int.natCast_nonneg _) (by decide)
    · split <;> decide
theorem scInit : FnScope ["self", "rows", "line"] ["self", "rows"] (defScope cPictureInit) := ⟨rfl, rfl, rfl, by decide +kernel, rfl, by decide +kernel, by decide +kernel⟩
theorem ok_init {f g e : Addr} {fd gd ed : FuncData} (F : Fun K "__init__" "Picture.__init__" cPictureInit f fd) (G : Cl P w K mg base CX0 4 "bad_line_pictures" ["rows"] spLine g gd) (Ex : EMk P w K mg base CI "InvalidPicture" ["self", "line"] (spE1 CI "line") e ed) (L : LTxt K mg) (T : PCls K C) :
    FnOk P w K mg base (L2.CX P w) 5 f fd ["self", "rows"] (spInit C CI) := by
  refine F.okX scInit (fun vs H Q E h => ?_) (fun cdv A outer s H vs Q E hr h => ?_)
  · obtain ⟨r, dx, a, R, rfl, _⟩ := h
    rfl
  · obtain ⟨r, dx, a, R, rfl, hR, ha, few, each, bad, good⟩ := h
    refine ⟨_, pss_cons (ps_set (i := 2) scInit.nd rfl (.inl rfl) (pe_call G.ok hr (by rfl) G.gl G.kp G.bd .nil pass0 (pa_cons (pv 1) pa_nil)))
      (pss_cons (ps_if (pt_cmpR op_gt (pv 2) pe_int (nomark _)) (pss_one (ps_raise rfl (takes_of rfl rfl rfl rfl) (pmk_oex Ex.T Ex.at_ Ex.ty Ex.ok (hr.mono (by decide)) Ex.bd .nil pass0 (by rfl) Ex.gl (pa_cons (pv 2) pa_nil)))) pss_nil)
      (pss_cons (ps_fld (pv 0) (pe_callTy call_list_of (by rfl) L.lst (by decide +kernel) (pa_cons (pv 1) pa_nil)) rfl)
      (pss_cons (ps_fld (pv 0) (pe_callB call_len_str (by rfl) L.len PySem.boot_len (pa_cons (pe_ix ix_list (pv 1) pe_int (fun _ _ => rfl)) pa_nil)) rfl)
      (pss_one (ps_fld (pv 0) (pe_callB call_len_seq (by rfl) L.len PySem.boot_len (pa_cons (pv 1) pa_nil)) rfl))))), ?_⟩
    refine ⟨_, rfl, a, R, rfl, ha, few, each, fun H1 s1 => ?_⟩
    refine ⟨_, rfl, _, _, rfl, rfl, _, rfl, ite2 (fun p => ?_) (fun p => ?_)⟩
    · have pos : 0 < lineOf R := of_decide_eq_true p
      refine ⟨_, rfl, by show 1 ≤ 1000; decide, fun x nx => ⟨x, _, rfl, upd_same, fun H2 d h1 h2 nd ne sb => ⟨rfl, d, _, h1, h2, ?_, ?_⟩⟩⟩
      · rwa [upd_ne ne] at nd
      · have nd1 : H1 d = none := by rwa [upd_ne ne] at nd
        exact bad pos d _ (back s1 nd1) upd_same (s1.trans (on_way nx nd ne sb))
    · have zero : lineOf R = 0 := by
        have y := lineOf_nonneg R
        have z : ¬ 0 < lineOf R := fun y => p (decide_eq_true y)
        omega
      match R, ha, few, each, bad, good, zero with
      | q :: R, ha, few, each, bad, good, zero =>
        refine ⟨_, rfl, a, _, rfl, .inl (SqL.of (s1 _ _ ha)), fun l nl => ⟨_, rfl, r, C, dx, [], rfl, same_upd nl _ _ (s1 _ _ hR), T.cl, T.nR, by show 0 < 1000; decide, ?_⟩⟩
        have nra : a ≠ r := ne_of (s1 _ _ ha) (s1 _ _ hR) (by intro z; cases z)
        have nlr : l ≠ r := Ne.symm (ne_of_none (s1 _ _ hR) nl)
        have nla : l ≠ a := Ne.symm (ne_of_none (s1 _ _ ha) nl)
        refine ⟨_, rfl, a, _, 0, _, rfl, rfl, SqL.of (by rw [upd_ne nra, upd_ne nla.symm]; exact s1 _ _ ha), row0 q R, _, rfl, by rw [len_S]; exact small_line (each q List.mem_cons_self), _, rfl, r, C, dx, _, rfl, upd_same, T.cl, T.nW, by show 1 < 1000; decide, ?_⟩
        refine ⟨_, rfl, a, _, rfl, .inl (SqL.of (by rw [upd_ne nra, upd_ne nra, upd_ne nla.symm]; exact s1 _ _ ha)), _, rfl, r, C, dx, _, rfl, upd_same, T.cl, T.nH, by show 2 < 1000; decide, ?_⟩
        refine good zero _ ⟨dx, l, ?_, ?_⟩ fun b o nb e => ?_
        · rw [upd_same, rowsV_len, len_S]
          rfl
        · rw [upd_ne nlr, upd_ne nlr, upd_ne nlr]
          exact upd_same
        · rw [upd_ne nb, upd_ne nb, upd_ne nb]
          exact same_upd nl _ _ (s1 _ _ e)
end
end Pm
namespace Pm
open PySem PySem.Spec PyProof.Rows L2 SX
/-! ### calls whose errors are wished for at the caller's slots -/
section
variable {X : Cx} {CXf : CXT} {k : Nat} {f C : Addr} {fd : FuncData} {ps : List Str} {sp : Sp} {E : L2.St → XK} {x m : Str} {p pos apos : Pos} {e o : Expr} {es : List Expr} {ta : TE} {t : TA} {pins : List (Addr × Obj)} {σ : L2.St} {H : Hp} {s : Shared} {Q : VK} {us : List Value} {vs : List V}
/-- how a callee's end is taken -/
theorem end_of {r : Result} {s' : Shared} (I : L2.Inv X pins σ H s) (hx : PassesAt CXf X σ (E σ)) (h : match r with | .ok (.ret v) => EP X pins σ Q v s' | .ok _ => False | .error er => CXf X.stack H s (E σ) er s') :
    match r with | .ok (.ret v) => EP X pins σ Q v s' | .ok _ => False | .error er => X.xe er s' := by
  cases r with
  | error er => exact hx pins H s er s' I h
  | ok fl =>
    cases fl with
    | ret u => exact h
    | next => exact h
    | brk => exact h
    | cont => exact h
theorem make_runS (M : Mk X.K C f) (F : FnOk X.prog X.w X.K X.mg X.base CXf k f fd ps sp) (hr : Room (k + 1) X.A) (hb : Binds X.K fd ps []) (hx : PassesAt CXf X σ (E σ)) (I : L2.Inv X pins σ H s) (rv : Vals vs us)
    (h : ∀ x dx, H x = none → H dx = none → dx ≠ x → sp (.ref x :: vs) (upd (upd H dx (.own x)) x (.ins C dx [])) (fun v H2 => v = .non ∧ Q (.ref x) H2) (E σ)) : wpAny (model X.prog X.w) X.A (call (.ref C) us) (EP X pins σ Q) X.xe s := by
  have big : s.heap.objs.size ≤ s.heap.objs.size + 1 := Nat.le_succ _
  have asked := h (s.heap.objs.size + 1) s.heap.objs.size (I.hok.fresh big) (I.hok.fresh (Nat.le_refl _)) (Nat.ne_of_lt (Nat.lt_succ_self _))
  have J := Inv.made (C := C) I
  have rs : Vals (V.ref (s.heap.objs.size + 1) :: vs) (Value.ref (s.heap.objs.size + 1) :: us) := .cons rfl rv
  have len : (Value.ref (s.heap.objs.size + 1) :: us ++ []).length = ps.length := by
    rw [List.append_nil, ← rs.length]
    exact F.len _ _ _ _ asked
  have env := J.env0.make C us []
  have bind := hb _ (Value.ref (s.heap.objs.size + 1) :: us) J.kIn len
  rw [List.append_nil] at bind
  refine wpAny_call (make_map (f := f) I.kIn M.makes M.init (beq_iff_eq.mp M.fn) (codeAny_mono (F.run _ X.stack _ _ ⟨Value.ref (s.heap.objs.size + 1) :: us, []⟩ (Value.ref (s.heap.objs.size + 1) :: us) _ _ (E σ) (hr.make C us []) env bind rs asked) fun r s' z => ?_))
  cases r with
  | error er => exact hx pins _ _ er s' J z
  | ok fl =>
    cases fl with
    | ret u =>
      obtain ⟨v, H', I3, rv3, ev, q3⟩ := J.after z
      subst ev
      exact ⟨rv3, .ref (s.heap.objs.size + 1), H', I3, rfl, q3⟩
    | next => exact z.elim
    | brk => exact z.elim
    | cont => exact z.elim
def tMakeS (C : Addr) (sp : Sp) (E : L2.St → XK) (t : TA) : TE := fun σ H Q => t σ H fun vs H1 => ∀ x dx, H1 x = none → H1 dx = none → dx ≠ x → sp (.ref x :: vs) (upd (upd H1 dx (.own x)) x (.ins C dx [])) (fun v H2 => v = .non ∧ Q (.ref x) H2) (E σ)
/-- C(e, ..), C a name of the module -/
theorem pe_makeS (M : Mk X.K C f) (F : FnOk X.prog X.w X.K X.mg X.base CXf k f fd ps sp) (hr : Room (k + 1) X.A) (hg : Gl X x) (hm : X.mg x = some (.ref C)) (hb : Binds X.K fd ps []) (hx : ∀ σ, PassesAt CXf X σ (E σ)) (ha : PA X (e :: es) t)
    (dbg : (x == ("__debug__" : Str)) = false := by decide) (st : starEach (e :: es) X.env = (false, eval e X.env) :: starEach es X.env := by rfl) (pl : (backTo pos (starEach es X.env)).any (·.1) = false := by rfl) :
    PE X (.Call (.Name x p) (e :: es) [] pos) (tMakeS C sp E t) := by
  refine ⟨fun pins s σ H Q I h => wpAny_Call_Name_kw (ld_glob I hg hm ?_ dbg)⟩
  refine PySem.W.callWith_K (h₀ := X.base) I.ok.mod.kin M.kp (thn (ha.run pos pins s σ H _ I h) fun us s1 ⟨vs, H1, I1, rv, q⟩ => ⟨I1.kIn, ?_⟩) st pl
  exact make_runS M F hr hb (hx σ) I1 rv q
def tMakeV (i : Nat) (C : Addr) (sp : Sp) (E : L2.St → XK) (t : TA) : TE := fun σ H Q => σ[i]? = some (some (.ref C)) ∧ tMakeS C sp E t σ H Q
/-- c(e, ..), the class at C in slot i -/
theorem pe_makeV {i : Nat} (M : Mk X.K C f) (F : FnOk X.prog X.w X.K X.mg X.base CXf k f fd ps sp) (hr : Room (k + 1) X.A) (hN : X.N[i]? = some x) (hv : Vis X.env.scope x) (hb : Binds X.K fd ps []) (hx : ∀ σ, PassesAt CXf X σ (E σ)) (ha : PA X (e :: es) t)
    (dbg : (x == ("__debug__" : Str)) = false := by decide) (hcd : (x == ("__classdict__" : Str)) = false := by decide) (st : starEach (e :: es) X.env = (false, eval e X.env) :: starEach es X.env := by rfl) (pl : (backTo pos (starEach es X.env)).any (·.1) = false := by rfl) :
    PE X (.Call (.Name x p) (e :: es) [] pos) (tMakeV i C sp E t) := by
  refine ⟨fun pins s σ H Q I ⟨hs, h⟩ => ?_⟩
  refine wpAny_Call_Name_kw (thn ((pe_var (pos := p) hN hv dbg hcd).run pins s σ H (fun v H1 => v = .ref C ∧ H1 = H) I ⟨.ref C, hs, rfl, rfl⟩) fun u s0 ⟨v, H0, I0, r0, ev, eh⟩ => ?_)
  subst ev eh
  obtain rfl : u = Value.ref C := r0
  refine PySem.W.callWith_K (h₀ := X.base) I.ok.mod.kin M.kp (thn (ha.run pos pins s0 σ _ _ I0 h) fun us s1 ⟨vs, H1, I1, rv, q⟩ => ⟨I1.kIn, ?_⟩) st pl
  exact make_runS M F hr hb (hx σ) I1 rv q
def tMethE (C : Addr) (m : Str) (sp : Sp) (E : L2.St → XK) (ta : TE) (t : TA) : TE := fun σ H Q => ta σ H fun x H1 => ∃ a dx fs, x = .ref a ∧ H1 a = some (.ins C dx fs) ∧ fs.lookup m = none ∧ t σ H1 fun vs H2 => sp (x :: vs) H2 Q (E σ)
/-- o.m(e, ..) -/
theorem pe_methE {pl : Sem Bool} (he : PE X o ta) (c : L2.Cls X.K C) (hm : Meth X.K C m f) (F : FnOk X.prog X.w X.K X.mg X.base CXf k f fd ps sp) (hr : Room k X.A) (hb : Binds X.K fd ps []) (hx : ∀ σ, PassesAt CXf X σ (E σ)) (ha : PA X (e :: es) t)
    (st : starEach (e :: es) X.env = (false, eval e X.env) :: starEach es X.env := by rfl) (pl2 : (backTo pos (starEach es X.env)).any (·.1) = false := by rfl)
    (ht : eval (.Call (.Attribute o m apos) (e :: es) [] pos) X.env = (do
      let ov ← eval o X.env
      standAt apos.atName
      let (f, first) ← holding [ov] (getMethod ov m pl)
      callWith pos f first (backTo pos (starEach (e :: es) X.env)) (backToKw pos (keywordEach [] X.env))) := by rfl) :
    PE X (.Call (.Attribute o m apos) (e :: es) [] pos) (tMethE C m sp E ta t) := by
  refine ⟨fun pins s σ H Q I h => PySem.W.methodCall_KW (pl := pl) (thn (he.run pins s σ H _ I h) fun u s1 ⟨x, H1, I1, rx, a, dx, fs, ex, ea, l, q⟩ => ?_) ht⟩
  subst ex
  obtain rfl : u = Value.ref a := rx
  refine getmeth_ok I1 ea c hm l (PySem.W.callWith_K (first := [.ref a]) (h₀ := X.base) I.ok.mod.kin hm.kp (thn (ha.run pos pins s1 σ H1 _ I1 q) fun us s2 ⟨vs, H2, I2, rv, q2⟩ => ⟨I2.kIn, ?_⟩) st pl2)
  exact run_fnS (us := .ref a :: us) (vs := .ref a :: vs) F hr hb (hx σ) I2 (.cons rfl rv) q2
/-! ### a classmethod -/
open ClX in
def tCMethE (C : Addr) (sp : Sp) (E : L2.St → XK) (ta : TE) (t : TA) : TE := fun σ H Q => ta σ H fun x H1 => x = .ref C ∧ t σ H1 fun vs H2 => sp (.ref C :: vs) H2 Q (E σ)
open ClX in
theorem run_cmE {q g : Addr} (F : FnR X.prog X.w X.K X.mg X.base CXf k g sp) (hr : Room k X.A) (hx : PassesAt CXf X σ (E σ)) (I : L2.Inv X ((q, PySem.W.methodObj (.ref g) (.ref C)) :: pins) σ H s)
    (rv : Vals vs us) (h : sp (.ref C :: vs) H Q (E σ)) : wpAny (model X.prog X.w) X.A (call (.ref q) us) (EP X pins σ Q) X.xe s := by
  have go : wpAny (model X.prog X.w) X.A (call (.ref q) us) (EP X ((q, PySem.W.methodObj (.ref g) (.ref C)) :: pins) σ Q) X.xe s := by
    refine wpAny_call (PySem.W.method_call (pin_at I) (codeAny_mono (F X.A X.stack s H (.ref C :: us) (.ref C :: vs) Q (E σ) hr I.env0 (.cons rfl rv) h) fun r s' z => ?_))
    cases r with
    | error er => exact hx _ H s er s' I z
    | ok fl =>
      cases fl with
      | ret u => exact I.after z
      | next => exact z.elim
      | brk => exact z.elim
      | cont => exact z.elim
  exact thn go fun _ _ y => unpinE y
open ClX in
theorem pe_cmethE {g c : Addr} {mc : Value} {pl : Sem Bool} (he : PE X o ta) (r : CRead X.K C mc) (cm : CMet X.K C mc m c g) (F : FnR X.prog X.w X.K X.mg X.base CXf k g sp) (hr : Room k X.A) (hx : ∀ σ, PassesAt CXf X σ (E σ)) (ha : PA X (e :: es) t)
    (st : starEach (e :: es) X.env = (false, eval e X.env) :: starEach es X.env := by rfl) (pl2 : (backTo pos (starEach es X.env)).any (·.1) = false := by rfl)
    (ht : eval (.Call (.Attribute o m apos) (e :: es) [] pos) X.env = (do
      let ov ← eval o X.env
      standAt apos.atName
      let (f, first) ← holding [ov] (getMethod ov m pl)
      callWith pos f first (backTo pos (starEach (e :: es) X.env)) (backToKw pos (keywordEach [] X.env))) := by rfl) :
    PE X (.Call (.Attribute o m apos) (e :: es) [] pos) (tCMethE C sp E ta t) := by
  refine ⟨fun pins s σ H Q I h => PySem.W.methodCall_KW (pl := pl) (thn (he.run pins s σ H _ I h) fun u s1 ⟨x, H1, I1, rx, ex, q⟩ => ?_) ht⟩
  subst ex
  obtain rfl : u = Value.ref C := rx
  refine getmethcm_ok I1 r cm fun s2 I2 => ?_
  refine callwith_cm I2 (base_none I1 (Nat.le_refl _)) cm.fi (thn (ha.run pos _ s2 σ H1 _ I2 q) fun us s3 ⟨vs, H2, I3, rv, q2⟩ => ⟨⟨pin_at I3, I3.kIn⟩, ?_⟩) st pl2
  exact run_cmE F hr (hx σ) I3 rv q2
end
end Pm
namespace Pm
open PySem PySem.Spec PyProof.Rows L2 SX
/-! ### texts of different signs; their order -/
/-- the built-ins and constants that rules ask for besides -/
structure STxt (K : PySem.W.Frag) (mg : Str → Option Value) : Prop where
  set : mg "set" = none
  srt : mg "sorted" = none
/-- the signs in order -/
def asc (z : List Nat) : List Nat := z.mergeSort fun a b => decide (a ≤ b)
theorem asc_perm (z : List Nat) : (asc z).Perm z := List.mergeSort_perm _ _
theorem asc_le (z : List Nat) : (asc z).Pairwise (· ≤ ·) := by
  have h := List.pairwise_mergeSort (le := fun a b : Nat => decide (a ≤ b)) (fun a b c h1 h2 => decide_eq_true (Nat.le_trans (of_decide_eq_true h1) (of_decide_eq_true h2))) (fun a b => by
    rcases Nat.le_total a b with h | h
    · simp [h]
    · simp [h]) z
  exact h.imp fun e => of_decide_eq_true e
theorem two_sorted : ∀ {l m : List Nat}, l.Perm m → l.Pairwise (· ≤ ·) → m.Pairwise (· ≤ ·) → l = m
  | [], m, p, _, _ => (List.Perm.nil_eq p)
  | a :: l, [], p, _, _ => absurd p.length_eq (by simp)
  | a :: l, b :: m, p, h1, h2 => by
    have ha := List.pairwise_cons.mp h1
    have hb := List.pairwise_cons.mp h2
    have ab : a = b := by
      have m1 : a ∈ b :: m := p.mem_iff.mp List.mem_cons_self
      have m2 : b ∈ a :: l := p.mem_iff.mpr List.mem_cons_self
      rcases List.mem_cons.mp m1 with e | e
      · exact e
      · rcases List.mem_cons.mp m2 with e2 | e2
        · exact e2.symm
        · exact Nat.le_antisymm (ha.1 b e2) (hb.1 a e)
    subst ab
    rw [two_sorted (p.cons_inv) ha.2 hb.2]
theorem asc_of {ys z : List Nat} (p : ys.Perm z) (h : ys.Pairwise (· ≤ ·)) : ys = asc z := two_sorted (p.trans (asc_perm z).symm) h (asc_le z)
theorem joinL_one : ∀ z : List Nat, TL.joinL [] (z.map fun c => [c]) = z
  | [] => rfl
  | [c] => rfl
  | c :: d :: z => congrArg (c :: ·) (joinL_one (d :: z))
theorem sum_one : ∀ z : List Nat, (z.map fun _ => 1).sum = z.length
  | [] => rfl
  | c :: z => by
    rw [List.map_cons, List.sum_cons, sum_one z, List.length_cons, Nat.add_comm]
theorem join_ones (z : List Nat) : Txt.join ("" : Str) (ones z) = S z := by
  have e : ("" : Str) = S [] := by decide +kernel
  have e2 : ones z = (z.map fun c => [c]).map S := by unfold ones; rw [List.map_map]; rfl
  rw [e, e2, join_S]
  exact congrArg S (joinL_one z)
def diffB (b : Nat) (z : List Nat) : Bool := (decide (z ≠ []) && decide z.Nodup) && z.all fun c => decide (c = b) || decide (Let c)
section
variable {P : Program} {w : World} {K : PySem.W.Frag} {mg : Str → Option Value} {base : Heap} {C : Addr}
def spAsc : Sp := fun vs H Q _ => ∃ z, vs = [.str (S z)] ∧ z.length ≤ 1000 ∧ ∀ H', Same H H' → Q (.str (S (asc z))) H'
theorem scAsc : FnScope ["signs"] ["signs"] (defScope gInAsciiOrder) := ⟨rfl, rfl, rfl, by decide +kernel, rfl, by decide +kernel, by decide +kernel⟩
theorem ok_asc {f : Addr} {fd : FuncData} (F : Fun K "in_ascii_order" "in_ascii_order" gInAsciiOrder f fd) (R : STxt K mg) : FnOk P w K mg base CX0 1 f fd ["signs"] spAsc := by
  refine F.ok scAsc (fun vs H Q E h => ?_) (fun cdv A outer s H vs Q E hr h => ?_)
  · obtain ⟨z, rfl, _⟩ := h
    rfl
  · obtain ⟨z, rfl, few, k⟩ := h
    refine ⟨_, pss_one (ps_ret (pe_join pe_str (pe_callB (cr_sortedTx rfl) (by rfl) R.srt (by decide +kernel) (pa_cons (pv 0) pa_nil)))), ?_⟩
    refine ⟨⟨_, rfl⟩, _, rfl, z, rfl, few, fun ys p pm pw np => ⟨_, p, ones ys, rfl, rfl, .inl (SqL.of upd_same), ?_, ?_⟩⟩
    · have e : ((ones ys).map (·.length)).sum = ys.length := by
        unfold ones
        rw [List.map_map]
        have : ((fun x : Str => x.length) ∘ fun c => S [c]) = fun _ => 1 := by
          funext c
          exact S_len [c]
        rw [this]
        exact sum_one ys
      rw [e]
      have := pm.length_eq
      show ys.length + (ones ys).length * 0 ≤ 16777216
      omega
    · rw [join_ones, asc_of pm pw]
      exact k _ (same_upd np)
def spDiff : Sp := fun vs H Q _ => ∃ z b, vs = [.str (S z), .str (S [b])] ∧ z.length ≤ 1000 ∧ ∀ H', Same H H' → Q (.bl (diffB b z)) H'
abbrev nDiff : List Str := ["signs", "besides", "sign"]
theorem scDiff : FnScope nDiff ["signs", "besides"] (defScope gAreDifferentSigns) := ⟨rfl, rfl, rfl, by decide +kernel, rfl, by decide +kernel, by decide +kernel⟩
theorem ok_differ {f g : Addr} {fd gd : FuncData} (F : Fun K "are_different_signs" "are_different_signs" gAreDifferentSigns f fd) (G : Cl P w K mg base CX0 1 "is_stone" ["sign"] spStone g gd) (L : LTxt K mg) (T : PTxt K mg C) (R : STxt K mg) :
    FnOk P w K mg base CX0 2 f fd ["signs", "besides"] spDiff := by
  refine F.ok scDiff (fun vs H Q E h => ?_) (fun cdv A outer s H vs Q E hr h => ?_)
  · obtain ⟨z, b, rfl, _⟩ := h
    rfl
  · obtain ⟨z, b, rfl, few, k⟩ := h
    refine ⟨_, pss_cons (ps_if (PW.pt (pw_or (pt_cmpR op_eq (pv 0) pe_str (nomark _)) (pw_or1 (pt_cmpR op_lt (pe_lenSetS (by rfl) L.len (by rfl) R.set (pv 0)) (pe_callB call_len_str (by rfl) L.len PySem.boot_len (pa_cons (pv 0) pa_nil)) (nomark _))))) (pss_one (ps_ret pe_bl)) pss_nil)
      (pss_one (ps_ret (pe_callB (cr_all rfl) (by rfl) T.all (by decide +kernel) (pa_cons (pe_lc (own := [("sign", 2)]) (g := gName 2) (tt := tYes) rfl scDiff.nd (pi_str (pv 0)) (blkOk_by (N := nDiff) (sc := defScope gAreDifferentSigns) (by decide +kernel)) (fun _ _ _ _ _ => pg_name (i := 2) scDiff.nd rfl (.inl rfl)) (fun _ _ _ _ _ => pts_nil)
        (fun _ _ _ _ _ => pe_or (pe_cmpR op_eq (pv 2) (pv 1) (nomark _)) (pe_one (pe_call G.ok hr (by rfl) G.gl G.kp G.bd .nil pass0 (pa_cons (pv 2) pa_nil))))) pa_nil)))), ?_⟩
    have line : (S z).length ≤ sizeLine := by rw [len_S]; exact small_line few
    have emp : ("" : Str) = S [] := by decide +kernel
    refine ⟨_, rfl, rfl, _, rfl, ?_⟩
    by_cases e0 : z = []
    · refine iteTe (decide_eq_true (by rw [e0, emp])) (iteT ?_)
      have q := k H (Same.refl H)
      rw [show diffB b z = false by unfold diffB; rw [e0]; rfl] at q
      exact q
    · refine iteFe (decide_eq_false fun y => e0 ?_) ⟨_, rfl, z, rfl, few, fun n nl nd => ⟨_, rfl, _, rfl, line, _, _, rfl, rfl, _, rfl, ?_⟩⟩
      · simp only [V.str.injEq] at y
        rw [emp] at y
        exact S_inj y
      by_cases e1 : z.Nodup
      · refine iteFe (decide_eq_false (by rw [len_S, nd.mpr e1]; omega)) ?_
        have dB : diffB b z = z.all fun c => decide (c = b) || decide (Let c) := by
          unfold diffB
          rw [decide_eq_true e0, decide_eq_true e1]
          rfl
        refine ⟨_, rfl, _, rfl, fun D nD => lc_it walk_str (fun i G => Same H G ∧ G D = some (.lst (((z.take i).map fun c => decide (c = b) || decide (Let c)).map V.bl))) ⟨same_upd nD, upd_same⟩ (fun _ _ _ _ => trivial) ?_ ?_⟩
        · rintro i x G G' hi ⟨sG, hD⟩ ⟨rfl, d, gd, rfl⟩
          have gd2 : z[i]? = some d := by
            have y : z.toArray[i]? = some d := gd
            rwa [List.getElem?_toArray] at y
          have last : ∀ v : Bool, v = (decide (d = b) || decide (Let d)) → ∃ xs, G' D = some (.lst xs) ∧ xs.length < sizeLine ∧ Same H (upd G' D (.lst (xs ++ [.bl v]))) ∧ upd G' D (.lst (xs ++ [.bl v])) D = some (.lst (((z.take (i + 1)).map fun c => decide (c = b) || decide (Let c)).map V.bl)) := fun v ev => by
            refine ⟨_, hD, ?_, fun a o e => ?_, ?_⟩
            · rw [List.length_map, List.length_map, List.length_take]
              exact small1000 (by omega)
            · rw [upd_ne (ne_of_none e nD)]
              exact sG a o e
            · rw [upd_same, List.take_add_one, gd2, ev]
              simp
          refine ⟨rfl, tyes (iteT ⟨_, rfl, _, rfl, rfl, _, rfl, ?_⟩)⟩
          by_cases e2 : d = b
          · refine iteTe (decide_eq_true (by rw [e2])) ?_
            exact last true (by rw [decide_eq_true e2]; rfl)
          · refine iteFe (decide_eq_false fun y => e2 ?_) ⟨_, rfl, [d], rfl, (show 1 ≤ 1000 by decide), ?_⟩
            · simp only [V.str.injEq] at y
              have := S_inj (a := [d]) (b := [b]) y
              simpa using this
            · exact last _ (by rw [decide_eq_false e2]; rfl)
        · rintro G ⟨sG, hD⟩
          have e3 : (S z).cps.size = z.length := by simp
          rw [e3, List.take_of_length_le (Nat.le_refl _)] at hD
          refine ⟨D, _, rfl, SqL.of hD, ?_⟩
          have q := k G sG
          rw [dB, show (z.all fun c => decide (c = b) || decide (Let c)) = (z.map fun c => decide (c = b) || decide (Let c)).all id by rw [List.all_map]; rfl] at q
          exact q
      · refine iteTe (decide_eq_true ?_) ?_
        · rw [len_S]
          have : n ≠ z.length := fun y => e1 (nd.mp y)
          omega
        · have q := k H (Same.refl H)
          rw [show diffB b z = false by unfold diffB; rw [decide_eq_false e1, Bool.and_false]; rfl] at q
          exact q
end
end Pm
/-! ### values as trees: what an expression comes to, without a word of the heap -/
namespace Tr
open PySem PySem.Spec PyProof.Rows L2
inductive D where
  | non
  | bl (b : Bool)
  | int (i : Int)
  | str (s : Str)
  | tup (xs : List D)
  | lst (xs : List D)
  | obj (C : Addr) (fs : List (Str × D))
  | val (v : V)
  | hp (φ : Hp → V → Prop)
/-- what a def alone holds and may still change: a list; an object at x that is being made -/
inductive Ow where
  | l (xs : List D)
  | o (x dx C : Addr) (fs : List (Str × D))
/-- a slot of a def: not known, a tree, a thing of its own -/
inductive Sl where
  | no
  | d (x : D)
  | own (c : Ow)
abbrev Env := List Sl
mutual
inductive Rep (K : PySem.W.Frag) (F : Hp) : V → D → Prop
  | non : Rep K F .non .non
  | bl (b : Bool) : Rep K F (.bl b) (.bl b)
  | int (i : Int) : Rep K F (.int i) (.int i)
  | str (s : Str) : Rep K F (.str s) (.str s)
  | tup {a : Addr} {vs : List V} {xs : List D} (h : F a = some (.tup vs)) (r : Reps K F vs xs) : Rep K F (.ref a) (.tup xs)
  | lst {a : Addr} {vs : List V} {xs : List D} (h : F a = some (.lst vs)) (r : Reps K F vs xs) : Rep K F (.ref a) (.lst xs)
  | obj {a C dx : Addr} {fv : List (Str × V)} {fs : List (Str × D)} (h : F a = some (.ins C dx fv)) (r : FReps K F fv fs) : Rep K F (.ref a) (.obj C fs)
  | val (v : V) : Rep K F v (.val v)
  | hp {v : V} {φ : Hp → V → Prop} (m : ∀ F F' : Hp, Same F F' → φ F v → φ F' v) (h : φ F v) : Rep K F v (.hp φ)
inductive Reps (K : PySem.W.Frag) (F : Hp) : List V → List D → Prop
  | nil : Reps K F [] []
  | cons {v : V} {d : D} {vs : List V} {ds : List D} (h : Rep K F v d) (r : Reps K F vs ds) : Reps K F (v :: vs) (d :: ds)
inductive FReps (K : PySem.W.Frag) (F : Hp) : List (Str × V) → List (Str × D) → Prop
  | nil : FReps K F [] []
  | cons {n : Str} {v : V} {d : D} {vs : List (Str × V)} {ds : List (Str × D)} (h : Rep K F v d) (r : FReps K F vs ds) : FReps K F ((n, v) :: vs) ((n, d) :: ds)
end
inductive OwR (K : PySem.W.Frag) (F : Hp) : Addr → HO → Ow → Prop
  | l {p : Addr} {vs : List V} {xs : List D} (r : Reps K F vs xs) : OwR K F p (.lst vs) (.l xs)
  | o {x dx C : Addr} {fv : List (Str × V)} {fs : List (Str × D)} (r : FReps K F fv fs) : OwR K F x (.ins C dx fv) (.o x dx C fs)
section
variable {K : PySem.W.Frag} {F F' H H' : Hp}
theorem sq_l {a : Addr} {xs : List V} (s : Same F F') (h : SqL K F a xs) : SqL K F' a xs := s.seq h
theorem sq_t {a : Addr} {xs : List V} (s : Same F F') (h : SqT K F a xs) : SqT K F' a xs := by
  rcases h with (h | ⟨o, h⟩) | h
  · exact .inl (.inl (s _ _ h))
  · exact .inl (.inr ⟨o, s _ _ h⟩)
  · exact .inr h
theorem tofl {a : Addr} {xs : List V} (h : F a = some (.lst xs)) : SqL K F a xs := .inl (.inl h)
theorem toft {a : Addr} {xs : List V} (h : F a = some (.tup xs)) : SqT K F a xs := .inl (.inl h)
mutual
theorem Rep.mono (s : Same F F') : ∀ {v : V} {d : D}, Rep K F v d → Rep K F' v d
  | _, _, .non => .non
  | _, _, .bl b => .bl b
  | _, _, .int i => .int i
  | _, _, .str z => .str z
  | _, _, .tup h r => .tup (s _ _ h) (Reps.mono s r)
  | _, _, .lst h r => .lst (s _ _ h) (Reps.mono s r)
  | _, _, .obj h r => .obj (s _ _ h) (FReps.mono s r)
  | _, _, .val v => .val v
  | _, _, .hp m h => .hp m (m _ _ s h)
theorem Reps.mono (s : Same F F') : ∀ {v : List V} {d : List D}, Reps K F v d → Reps K F' v d
  | _, _, .nil => .nil
  | _, _, .cons h r => .cons (Rep.mono s h) (Reps.mono s r)
theorem FReps.mono (s : Same F F') : ∀ {v : List (Str × V)} {d : List (Str × D)}, FReps K F v d → FReps K F' v d
  | _, _, .nil => .nil
  | _, _, .cons h r => .cons (Rep.mono s h) (FReps.mono s r)
end
theorem OwR.mono (s : Same F F') {p : Addr} {ho : HO} {c : Ow} : OwR K F p ho c → OwR K F' p ho c
  | .l r => .l (Reps.mono s r)
  | .o r => .o (FReps.mono s r)
theorem OwR.lst {p : Addr} {ho : HO} {ds : List D} (h : OwR K F p ho (.l ds)) : ∃ vs, ho = .lst vs ∧ Reps K F vs ds := by
  cases h with
  | l r => exact ⟨_, rfl, r⟩
theorem OwR.obj {p x dx C : Addr} {ho : HO} {fs : List (Str × D)} (h : OwR K F p ho (.o x dx C fs)) : p = x ∧ ∃ fv, ho = .ins C dx fv ∧ FReps K F fv fs := by
  cases h with
  | o r => exact ⟨rfl, _, rfl, r⟩
theorem Reps.length : ∀ {vs : List V} {ds : List D}, Reps K F vs ds → vs.length = ds.length
  | _, _, .nil => rfl
  | _, _, .cons _ r => congrArg (· + 1) (Reps.length r)
theorem Reps.at {ds : List D} : ∀ {vs : List V} {i : Nat} {d : D}, Reps K F vs ds → ds[i]? = some d → ∃ v, vs[i]? = some v ∧ Rep K F v d := by
  induction ds with
  | nil => intro vs i d r h; cases h
  | cons e ds ih =>
    intro vs i d r h
    cases r with
    | cons h0 r =>
      cases i with
      | zero => cases h; exact ⟨_, rfl, h0⟩
      | succ i =>
        obtain ⟨v, e, q⟩ := ih r h
        exact ⟨v, e, q⟩
theorem Reps.atV {vs : List V} : ∀ {ds : List D} {i : Nat} {v : V}, Reps K F vs ds → vs[i]? = some v → ∃ d, ds[i]? = some d ∧ Rep K F v d := by
  induction vs with
  | nil => intro ds i v r h; cases h
  | cons e vs ih =>
    intro ds i v r h
    cases r with
    | cons h0 r =>
      cases i with
      | zero => cases h; exact ⟨_, rfl, h0⟩
      | succ i =>
        obtain ⟨v, e, q⟩ := ih r h
        exact ⟨v, e, q⟩
theorem Reps.append : ∀ {vs ws : List V} {ds es : List D}, Reps K F vs ds → Reps K F ws es → Reps K F (vs ++ ws) (ds ++ es)
  | _, _, _, _, .nil, q => q
  | _, _, _, _, .cons h r, q => .cons h (Reps.append r q)
theorem Reps.take : ∀ {vs : List V} {ds : List D} (n : Nat), Reps K F vs ds → Reps K F (vs.take n) (ds.take n)
  | _, _, 0, _ => by rw [List.take_zero, List.take_zero]; exact .nil
  | _, _, n + 1, .nil => .nil
  | _, _, n + 1, .cons h r => .cons h (Reps.take n r)
theorem Reps.drop : ∀ {vs : List V} {ds : List D} (n : Nat), Reps K F vs ds → Reps K F (vs.drop n) (ds.drop n)
  | _, _, 0, r => by rw [List.drop_zero, List.drop_zero]; exact r
  | _, _, n + 1, .nil => .nil
  | _, _, n + 1, .cons h r => Reps.drop n r
theorem Reps.rev : ∀ {vs : List V} {ds : List D}, Reps K F vs ds → Reps K F vs.reverse ds.reverse
  | _, _, .nil => .nil
  | _, _, .cons h r => by rw [List.reverse_cons, List.reverse_cons]; exact (Reps.rev r).append (.cons h .nil)
theorem Reps.strs : ∀ {ss : List Str} {vs : List V}, Reps K F vs (ss.map D.str) → vs = ss.map V.str
  | [], _, .nil => rfl
  | s :: ss, _, .cons (.str _) r => by rw [Reps.strs r]; rfl
theorem Reps.ints : ∀ {ss : List Int} {vs : List V}, Reps K F vs (ss.map D.int) → vs = ss.map V.int
  | [], _, .nil => rfl
  | s :: ss, _, .cons (.int _) r => by rw [Reps.ints r]; rfl
theorem Reps.bls : ∀ {ss : List Bool} {vs : List V}, Reps K F vs (ss.map D.bl) → vs = ss.map V.bl
  | [], _, .nil => rfl
  | s :: ss, _, .cons (.bl _) r => by rw [Reps.bls r]; rfl
theorem FReps.look {f : Str} {d : D} : ∀ {fv : List (Str × V)} {fs : List (Str × D)}, FReps K F fv fs → fs.lookup f = some d → ∃ v, fv.lookup f = some v ∧ Rep K F v d
  | _, _, .nil, h => by cases h
  | _, _, .cons (n := n) h0 r, h => by
    rw [List.lookup_cons] at h ⊢
    by_cases e : (f == n) = true
    · rw [e] at h ⊢
      cases h
      exact ⟨_, rfl, h0⟩
    · have e : (f == n) = false := by simpa using e
      rw [e] at h ⊢
      exact r.look h
theorem FReps.none {f : Str} : ∀ {fv : List (Str × V)} {fs : List (Str × D)}, FReps K F fv fs → fs.lookup f = none → fv.lookup f = none
  | _, _, .nil, _ => rfl
  | _, _, .cons (n := n) h0 r, h => by
    rw [List.lookup_cons] at h ⊢
    by_cases e : (f == n) = true
    · rw [e] at h
      cases h
    · have e : (f == n) = false := by simpa using e
      rw [e] at h ⊢
      exact r.none h
/-! ### what stands while a def runs -/
/-- the heap grows; what stands outside of the frozen part stays outside -/
structure Gr (F H F' H' : Hp) : Prop where
  f : Same F F'
  h : Same H H'
  x : ∀ a o, H a = some o → F a = none → F' a = none
theorem Gr.refl (F H : Hp) : Gr F H F H := ⟨Same.refl _, Same.refl _, fun _ _ _ e => e⟩
theorem Gr.trans {F1 H1 F2 H2 : Hp} (a : Gr F H F1 H1) (b : Gr F1 H1 F2 H2) : Gr F H F2 H2 := ⟨a.f.trans b.f, a.h.trans b.h, fun p o e n => b.x p o (a.h _ _ e) (a.x p o e n)⟩
def SlR (K : PySem.W.Frag) (H0 F H : Hp) (o : Option V) : Sl → Prop
  | .no => True
  | .d x => ∃ v, o = some v ∧ Rep K F v x
  | .own c => ∃ p ho, o = some (.ref p) ∧ H0 p = none ∧ F p = none ∧ H p = some ho ∧ OwR K F p ho c
structure Wd (K : PySem.W.Frag) (B : Hp × Hp) (F H : Hp) (σ : L2.St) (Γ : Env) : Prop where
  ff : Same B.1 F
  hh : Same B.2 H
  fh : Same F H
  ex : ∀ a o, B.2 a = some o → B.1 a = none → F a = none
  len : σ.length = Γ.length
  sl : ∀ (i : Nat) (o : Option V) (s : Sl), σ[i]? = some o → Γ[i]? = some s → SlR K B.2 F H o s
  dj : ∀ (i j : Nat) (p : Addr) (xs ys : Ow), i ≠ j → σ[i]? = some (some (.ref p)) → σ[j]? = some (some (.ref p)) → Γ[i]? = some (.own xs) → Γ[j]? = some (.own ys) → False
theorem sup {p : Addr} {o : HO} (h : H p = none) : Same H (upd H p o) := fun b x e => by
  rw [upd_ne (ne_of_none e h)]
  exact e
theorem SlR.gr {H0 : Hp} {o : Option V} {s : Sl} (h : SlR K H0 F H o s) (g : Gr F H F' H') : SlR K H0 F' H' o s := by
  cases s with
  | no => trivial
  | d x =>
    obtain ⟨v, e, r⟩ := h
    exact ⟨v, e, r.mono g.f⟩
  | own xs =>
    obtain ⟨p, vs, e, n0, nf, hp, r⟩ := h
    exact ⟨p, vs, e, n0, g.x _ _ hp nf, g.h _ _ hp, r.mono g.f⟩
theorem Wd.gr {B : Hp × Hp} {σ : L2.St} {Γ : Env} (w : Wd K B F H σ Γ) (g : Gr F H F' H') (fh : Same F' H') : Wd K B F' H' σ Γ :=
  ⟨w.ff.trans g.f, w.hh.trans g.h, fh, fun a o e n => g.x a o (w.hh _ _ e) (w.ex a o e n), w.len, fun i o s a b => (w.sl i o s a b).gr g, w.dj⟩
theorem Gr.new {p : Addr} {o : HO} (fh : Same F H) (n : H p = none) : Gr F H (upd F p o) (upd H p o) :=
  ⟨sup (fh.free n), sup n, fun a u e f => by rw [upd_ne (ne_of_none e n)]; exact f⟩
theorem same_both {p : Addr} {o : HO} (s : Same F H) : Same (upd F p o) (upd H p o) := fun a x e => by
  by_cases h : a = p
  · subst h
    rw [upd_same] at e ⊢
    exact e
  · rw [upd_ne h] at e ⊢
    exact s _ _ e
theorem Wd.slot {B : Hp × Hp} {σ : L2.St} {Γ : Env} {i : Nat} {x : D} (w : Wd K B F H σ Γ) (g : Γ[i]? = some (.d x)) : ∃ v, σ[i]? = some (some v) ∧ Rep K F v x := by
  have li : i < Γ.length := (List.getElem?_eq_some_iff.mp g).1
  have ls : i < σ.length := by rw [w.len]; exact li
  obtain ⟨v, e, r⟩ := w.sl i _ _ (List.getElem?_eq_getElem ls) g
  exact ⟨v, by rw [List.getElem?_eq_getElem ls, e], r⟩
/-! ### readings -/
def tEv (K : PySem.W.Frag) (B : Hp × Hp) (Γ : Env) (d : D) : TE := fun σ H Q => ∃ F, Wd K B F H σ Γ ∧ ∀ v F' H', Wd K B F' H' σ Γ → Gr F H F' H' → Rep K F' v d → Q v H'
def tEvT (K : PySem.W.Frag) (B : Hp × Hp) (Γ : Env) (b : Bool) : TT := fun σ H Q => ∃ F, Wd K B F H σ Γ ∧ ∀ F' H', Wd K B F' H' σ Γ → Gr F H F' H' → Q b H'
def tEvA (K : PySem.W.Frag) (B : Hp × Hp) (Γ : Env) (ds : List D) : TA := fun σ H Q => ∃ F, Wd K B F H σ Γ ∧ ∀ vs F' H', Wd K B F' H' σ Γ → Gr F H F' H' → Reps K F' vs ds → Q vs H'
end
abbrev Ok (X : Cx) (B : Hp × Hp) (e : Expr) (Γ : Env) (d : D) : Prop := PE X e (tEv X.K B Γ d)
abbrev OkT (X : Cx) (B : Hp × Hp) (e : Expr) (Γ : Env) (b : Bool) : Prop := PT X e (tEvT X.K B Γ b)
abbrev OkA (X : Cx) (B : Hp × Hp) (es : List Expr) (Γ : Env) (ds : List D) : Prop := PA X es (tEvA X.K B Γ ds)
section
variable {X : Cx} {B : Hp × Hp} {Γ : Env} {e a b c : Expr} {es rest : List Expr} {x y z : D} {pos apos : Pos}
theorem PE.weak {t t' : TE} (h : PE X e t) (w : ∀ σ H Q, t' σ H Q → t σ H Q) : PE X e t' := ⟨fun pins s σ H Q I q => h.run pins s σ H Q I (w _ _ _ q)⟩
theorem PT.weak {t t' : TT} (h : PT X e t) (w : ∀ σ H Q, t' σ H Q → t σ H Q) : PT X e t' := ⟨fun pins s σ H Q I q => h.run pins s σ H Q I (w _ _ _ q)⟩
theorem PA.weak {t t' : TA} (h : PA X es t) (w : ∀ σ H Q, t' σ H Q → t σ H Q) : PA X es t' := ⟨fun k pins s σ H Q I q => h.run k pins s σ H Q I (w _ _ _ q)⟩
theorem PS.weak {s : Stmt} {t t' : TS} (h : PS X s t) (w : ∀ D σ H, t' D σ H → t D σ H) : PS X s t' := ⟨fun pins s σ H D I q => h.run pins s σ H D I (w _ _ _ q)⟩
theorem PSs.weak {s : List Stmt} {t t' : TS} (h : PSs X s t) (w : ∀ D σ H, t' D σ H → t D σ H) : PSs X s t' := ⟨fun pins s σ H D I q => h.run pins s σ H D I (w _ _ _ q)⟩
/-- a reading that only asks where p holds -/
theorem PE.when {p : Prop} {t : TE} (h : p → PE X e t) : PE X e (fun σ H Q => p ∧ t σ H Q) := ⟨fun pins s σ H Q I q => (h q.1).run pins s σ H Q I q.2⟩
theorem PT.when {p : Prop} {t : TT} (h : p → PT X e t) : PT X e (fun σ H Q => p ∧ t σ H Q) := ⟨fun pins s σ H Q I q => (h q.1).run pins s σ H Q I q.2⟩
theorem PW.when {p : Prop} {t : TT} (h : p → PW X e t) : PW X e (fun σ H Q => p ∧ t σ H Q) := ⟨fun k pins s σ H Q I q => (h q.1).run k pins s σ H Q I q.2⟩
theorem PSs.when {s : List Stmt} {p : Prop} {t : TS} (h : p → PSs X s t) : PSs X s (fun D σ H => p ∧ t D σ H) := ⟨fun pins s σ H D I q => (h q.1).run pins s σ H D I q.2⟩
theorem PSs.exi {ι : Sort _} {s : List Stmt} {t : ι → TS} (h : ∀ i, PSs X s (t i)) : PSs X s (fun D σ H => ∃ i, t i D σ H) := ⟨fun pins s σ H D I ⟨i, q⟩ => (h i).run pins s σ H D I q⟩
theorem PE.exi {ι : Sort _} {t : ι → TE} (h : ∀ i, PE X e (t i)) : PE X e (fun σ H Q => ∃ i, t i σ H Q) := ⟨fun pins s σ H Q I ⟨i, q⟩ => (h i).run pins s σ H Q I q⟩
theorem PT.exi {ι : Sort _} {t : ι → TT} (h : ∀ i, PT X e (t i)) : PT X e (fun σ H Q => ∃ i, t i σ H Q) := ⟨fun pins s σ H Q I ⟨i, q⟩ => (h i).run pins s σ H Q I q⟩
theorem ok_var {i : Nat} (h : PE X e (tVar i)) (g : Γ[i]? = some (.d x)) : Ok X B e Γ x := PE.weak h fun σ H Q ⟨F, w, k⟩ => by
  obtain ⟨v, e, r⟩ := w.slot g
  exact ⟨v, e, k v F H w (Gr.refl _ _) r⟩
theorem ok_c {v : V} (h : PE X e (tC v)) (r : ∀ K F, Rep K F v x) : Ok X B e Γ x := PE.weak h fun σ H Q ⟨F, w, k⟩ => k v F H w (Gr.refl _ _) (r _ _)
theorem ok_int {i : Int} {j : Nat} : Ok X B (.Constant (.int i) j pos) Γ (.int i) := ok_c pe_int fun _ _ => .int i
theorem ok_str {s : Str} {j : Nat} : Ok X B (.Constant (.str s) j pos) Γ (.str s) := ok_c pe_str fun _ _ => .str s
theorem ok_bl {s : Bool} {j : Nat} : Ok X B (.Constant (.bool s) j pos) Γ (.bl s) := ok_c pe_bl fun _ _ => .bl s
theorem ok_non {j : Nat} : Ok X B (.Constant .none j pos) Γ .non := ok_c pe_non fun _ _ => .non
/-- what a two-place rule gives -/
def R2T (K : PySem.W.Frag) (r : R2) (x y z : D) : Prop := ∀ F H, Same F H → ∀ v w, Rep K F v x → Rep K F w y → ∀ Q : VK, (∀ u F' H', Gr F H F' H' → Same F' H' → Rep K F' u z → Q u H') → r v w H Q
theorem ev_op {r : R2} (ho : ∀ {ta tb : TE}, PE X a ta → PE X b tb → PE X e (tOp r ta tb)) (ha : Ok X B a Γ x) (hb : Ok X B b Γ y) (h : R2T X.K r x y z) : Ok X B e Γ z := PE.weak (ho ha hb) fun σ H Q ⟨F, w, k⟩ =>
  ⟨F, w, fun v F1 H1 w1 g1 r1 => ⟨F1, w1, fun u F2 H2 w2 g2 r2 => h F2 H2 w2.fh v u (r1.mono g2.f) r2 Q fun q F3 H3 g3 fh r3 => k q F3 H3 (w2.gr g3 fh) ((g1.trans g2).trans g3) r3⟩⟩
theorem r2_val {K : PySem.W.Frag} {r : R2} (h : ∀ F H, Same F H → ∀ v w, Rep K F v x → Rep K F w y → ∀ Q : VK, (∀ u, (∀ F, Rep K F u z) → Q u H) → r v w H Q) : R2T K r x y z := fun F H fh v w rv rw Q q => h F H fh v w rv rw Q fun u ru => q u F H (Gr.refl _ _) fh (ru F)
end
end Tr
/-! ### the rules for expressions -/
namespace Tr
open PySem PySem.Spec PyProof.Rows L2 SX
abbrev D.tx (z : List Nat) : D := .str (S z)
theorem sz5 {n : Nat} (h : n ≤ 100000) : n ≤ sizeLine := Nat.le_trans h (by decide)
theorem sz5' {n : Nat} (h : n < 100000) : n < sizeLine := Nat.lt_of_lt_of_le h (by decide)
theorem lenS (a : List Nat) : (S a).length = a.length := S_len a
theorem cpsS (z : List Nat) : (S z).cps.toList = z := by
  show z.toArray.toList = z
  simp
section
variable {K : PySem.W.Frag} {F H : Hp}
theorem r2_i {g : Int → Int → V} {z : D} {i j : Int} (h : ∀ F, Rep K F (g i j) z) : R2T K (rI0 g) (.int i) (.int j) z := r2_val fun F H fh v w rv rw Q q => by
  cases rv; cases rw
  exact ⟨i, j, rfl, rfl, q _ h⟩
theorem r2_iC {C : Int → Int → Prop} {g : Int → Int → V} {z : D} {i j : Int} (c : C i j) (h : ∀ F, Rep K F (g i j) z) : R2T K (rI C g) (.int i) (.int j) z := r2_val fun F H fh v w rv rw Q q => by
  cases rv; cases rw
  exact ⟨i, j, rfl, rfl, c, q _ h⟩
theorem dec_tx {y z : List Nat} : decide (V.str (S y) = V.str (S z)) = decide (y = z) := decide_eq_decide.mpr ⟨fun h => S_inj (V.str.inj h), fun h => by rw [h]⟩
theorem dec_i {i j : Int} : decide (V.int i = V.int j) = decide (i = j) := decide_eq_decide.mpr ⟨fun h => V.int.inj h, fun h => by rw [h]⟩
theorem dec_b {i j : Bool} : decide (V.bl i = V.bl j) = decide (i = j) := decide_eq_decide.mpr ⟨fun h => V.bl.inj h, fun h => by rw [h]⟩
end
section
variable {X : Cx} {B : Hp × Hp} {Γ : Env} {e a b c : Expr} {es rest : List Expr} {x y z : D} {pos apos : Pos} {i j : Int} {p q : Bool} {u w : List Nat}
theorem ok_tx {s : Str} {j : Nat} {z : List Nat} (h : s = S z) : Ok X B (.Constant (.str s) j pos) Γ (.tx z) := by
  subst h
  exact ok_str
theorem ok_glob {x : Str} {v : V} {d : D} {g : Value} (hg : Gl X x) (hm : X.mg x = some g) (r : RelV v g) (h : ∀ K F, Rep K F v d) (hd : (x == ("__debug__" : Str)) = false := by decide) : Ok X B (.Name x pos) Γ d := ok_c (pe_glob hg hm r hd) h
/-! numbers -/
theorem t_add (ha : Ok X B a Γ (.int i)) (hb : Ok X B b Γ (.int j)) : Ok X B (.BinOp a .Add b pos) Γ (.int (i + j)) := ev_op (fun p q => pe_op op_add p q) ha hb (r2_i fun _ => .int _)
theorem t_sub (ha : Ok X B a Γ (.int i)) (hb : Ok X B b Γ (.int j)) : Ok X B (.BinOp a .Sub b pos) Γ (.int (i - j)) := ev_op (fun p q => pe_op op_sub p q) ha hb (r2_i fun _ => .int _)
theorem t_mul (ha : Ok X B a Γ (.int i)) (hb : Ok X B b Γ (.int j)) (c : CMul i j) : Ok X B (.BinOp a .Mult b pos) Γ (.int (i * j)) := ev_op (fun p q => pe_op op_mul p q) ha hb (r2_iC c fun _ => .int _)
theorem t_mod (ha : Ok X B a Γ (.int i)) (hb : Ok X B b Γ (.int j)) (c : 0 < j) : Ok X B (.BinOp a .Mod b pos) Γ (.int (i % j)) := ev_op (fun p q => pe_op op_mod p q) ha hb (r2_iC c fun _ => .int _)
theorem t_fdiv (ha : Ok X B a Γ (.int i)) (hb : Ok X B b Γ (.int j)) (c : CDiv i j) : Ok X B (.BinOp a .FloorDiv b pos) Γ (.int (i / j)) := ev_op (fun p q => pe_op op_fdiv p q) ha hb (r2_iC c fun _ => .int _)
theorem t_lt (ha : Ok X B a Γ (.int i)) (hb : Ok X B b Γ (.int j)) : Ok X B (.Compare a [.Lt] [b] pos) Γ (.bl (decide (i < j))) := ev_op (fun p q => pe_cmpR op_lt p q (nomark _)) ha hb (r2_i fun _ => .bl _)
theorem t_le (ha : Ok X B a Γ (.int i)) (hb : Ok X B b Γ (.int j)) : Ok X B (.Compare a [.LtE] [b] pos) Γ (.bl (decide (i ≤ j))) := ev_op (fun p q => pe_cmpR op_le p q (nomark _)) ha hb (r2_i fun _ => .bl _)
theorem t_gt (ha : Ok X B a Γ (.int i)) (hb : Ok X B b Γ (.int j)) : Ok X B (.Compare a [.Gt] [b] pos) Γ (.bl (decide (j < i))) := ev_op (fun p q => pe_cmpR op_gt p q (nomark _)) ha hb (r2_i fun _ => .bl _)
theorem t_ge (ha : Ok X B a Γ (.int i)) (hb : Ok X B b Γ (.int j)) : Ok X B (.Compare a [.GtE] [b] pos) Γ (.bl (decide (j ≤ i))) := ev_op (fun p q => pe_cmpR op_ge p q (nomark _)) ha hb (r2_i fun _ => .bl _)
theorem t_neg (ha : Ok X B a Γ (.int i)) : Ok X B (.UnaryOp .USub a pos) Γ (.int (-i)) := PE.weak (pe_un un_neg ha) fun σ H Q ⟨F, w, k⟩ => ⟨F, w, fun v F1 H1 w1 g1 r1 => by
  cases r1
  exact ⟨i, rfl, k _ F1 H1 w1 g1 (.int _)⟩⟩
/-! equal: numbers, texts, bools -/
theorem r2_eqI {K : PySem.W.Frag} : R2T K rEq (.int i) (.int j) (.bl (decide (i = j))) := r2_val fun F H fh v w rv rw Q q => by
  cases rv; cases rw
  exact ⟨rfl, by rw [dec_i]; exact q _ fun _ => .bl _⟩
theorem r2_eqS {K : PySem.W.Frag} : R2T K rEq (.tx u) (.tx w) (.bl (decide (u = w))) := r2_val fun F H fh v w rv rw Q q => by
  cases rv; cases rw
  exact ⟨rfl, by rw [dec_tx]; exact q _ fun _ => .bl _⟩
theorem r2_eqB {K : PySem.W.Frag} : R2T K rEq (.bl p) (.bl q) (.bl (decide (p = q))) := r2_val fun F H fh v w rv rw Q q => by
  cases rv; cases rw
  exact ⟨rfl, by rw [dec_b]; exact q _ fun _ => .bl _⟩
theorem r2_neI {K : PySem.W.Frag} : R2T K rNe (.int i) (.int j) (.bl (!decide (i = j))) := r2_val fun F H fh v w rv rw Q q => by
  cases rv; cases rw
  exact ⟨rfl, by rw [dec_i]; exact q _ fun _ => .bl _⟩
theorem r2_neS {K : PySem.W.Frag} : R2T K rNe (.tx u) (.tx w) (.bl (!decide (u = w))) := r2_val fun F H fh v w rv rw Q q => by
  cases rv; cases rw
  exact ⟨rfl, by rw [dec_tx]; exact q _ fun _ => .bl _⟩
theorem r2_neB {K : PySem.W.Frag} : R2T K rNe (.bl p) (.bl q) (.bl (!decide (p = q))) := r2_val fun F H fh v w rv rw Q q => by
  cases rv; cases rw
  exact ⟨rfl, by rw [dec_b]; exact q _ fun _ => .bl _⟩
theorem t_eq {d : D} (ha : Ok X B a Γ x) (hb : Ok X B b Γ y) (h : R2T X.K rEq x y d) : Ok X B (.Compare a [.Eq] [b] pos) Γ d := ev_op (fun p q => pe_cmpR op_eq p q (nomark _)) ha hb h
theorem t_ne {d : D} (ha : Ok X B a Γ x) (hb : Ok X B b Γ y) (h : R2T X.K rNe x y d) : Ok X B (.Compare a [.NotEq] [b] pos) Γ d := ev_op (fun p q => pe_cmpR op_ne p q (nomark _)) ha hb h
theorem t_isN (ha : Ok X B a Γ .non) (hb : Ok X B b Γ .non) : Ok X B (.Compare a [.Is] [b] pos) Γ (.bl true) := ev_op (fun p q => pe_cmpR op_isN p q (nomark _)) ha hb (r2_val fun F H fh v w rv rw Q q => by
  cases rv; cases rw
  exact ⟨rfl, q _ fun _ => .bl _⟩)
/-! texts -/
theorem t_addS (ha : Ok X B a Γ (.tx u)) (hb : Ok X B b Γ (.tx w)) (l : u.length + w.length ≤ 100000) : Ok X B (.BinOp a .Add b pos) Γ (.tx (u ++ w)) := ev_op (fun p q => pe_op op_add_str p q) ha hb (r2_val fun F H fh v w' rv rw Q q => by
  cases rv; cases rw
  refine ⟨_, _, rfl, rfl, by rw [lenS, lenS]; exact sz5 l, ?_⟩
  rw [S_cat]
  exact q _ fun _ => .str _)
theorem t_inS {n : Nat} (ha : Ok X B a Γ (.tx [n])) (hb : Ok X B b Γ (.tx w)) (hm : behindInMarks .In b = false) : Ok X B (.Compare a [.In] [b] pos) Γ (.bl (decide (n ∈ w))) := ev_op (fun p q => pe_cmpR op_in_sign p q hm) ha hb (r2_val fun F H fh v w' rv rw Q q => by
  cases rv; cases rw
  refine ⟨n, S w, rfl, rfl, ?_⟩
  rw [cpsS]
  exact q _ fun _ => .bl _)
theorem t_notInS {n : Nat} (ha : Ok X B a Γ (.tx [n])) (hb : Ok X B b Γ (.tx w)) (hm : behindInMarks .NotIn b = false) : Ok X B (.Compare a [.NotIn] [b] pos) Γ (.bl (!decide (n ∈ w))) := ev_op (fun p q => pe_cmpR op_notIn_sign p q hm) ha hb (r2_val fun F H fh v w' rv rw Q q => by
  cases rv; cases rw
  refine ⟨n, S w, rfl, rfl, ?_⟩
  rw [cpsS]
  exact q _ fun _ => .bl _)
/-! items -/
theorem atR {K : PySem.W.Frag} {F : Hp} {vs : List V} {ds : List D} {i : Int} {d : D} (r : Reps K F vs ds) (h : atI ds i = some d) : ∃ v, atI vs i = some v ∧ Rep K F v d := by
  unfold atI at h ⊢
  rw [r.length]
  cases e : ixN ds.length i with
  | none => rw [e] at h; cases h
  | some j =>
    rw [e] at h
    exact r.at h
theorem t_ixL {ds : List D} (ha : Ok X B a Γ (.lst ds)) (hb : Ok X B b Γ (.int i)) (h : atI ds i = some x) (hs : PlainIx b) : Ok X B (.Subscript a b pos) Γ x := ev_op (fun p q => pe_ix ix_list p q hs) ha hb fun F H fh v w rv rw Q q => by
  cases rw
  cases rv with
  | lst hp r =>
    obtain ⟨v, e, rv⟩ := atR r h
    exact ⟨_, _, i, v, rfl, rfl, tofl (fh _ _ hp), e, q v F H (Gr.refl _ _) fh rv⟩
theorem t_ixT {ds : List D} (ha : Ok X B a Γ (.tup ds)) (hb : Ok X B b Γ (.int i)) (h : atI ds i = some x) (hs : PlainIx b) : Ok X B (.Subscript a b pos) Γ x := ev_op (fun p q => pe_ix ix_tup p q hs) ha hb fun F H fh v w rv rw Q q => by
  cases rw
  cases rv with
  | tup hp r =>
    obtain ⟨v, e, rv⟩ := atR r h
    exact ⟨_, _, i, v, rfl, rfl, toft (fh _ _ hp), e, q v F H (Gr.refl _ _) fh rv⟩
theorem t_ixS {n : Nat} (ha : Ok X B a Γ (.tx u)) (hb : Ok X B b Γ (.int i)) (l : u.length ≤ 100000) (h : atI u i = some n) (hs : PlainIx b) : Ok X B (.Subscript a b pos) Γ (.tx [n]) := ev_op (fun p q => pe_ix ix_str p q hs) ha hb (r2_val fun F H fh v w rv rw Q q => by
  cases rv; cases rw
  exact ⟨_, i, n, rfl, rfl, by rw [lenS]; exact sz5 l, by rw [cpsS]; exact h, q _ fun _ => .str _⟩)
/-! arguments, displays -/
theorem a_nil : OkA X B [] Γ [] := PA.weak pa_nil fun σ H Q ⟨F, w, k⟩ => k [] F H w (Gr.refl _ _) .nil
theorem a_cons {ds : List D} (ha : Ok X B e Γ x) (hr : OkA X B es Γ ds) (hs : starEach (e :: es) X.env = (false, eval e X.env) :: starEach es X.env := by rfl) : OkA X B (e :: es) Γ (x :: ds) := PA.weak (pa_cons ha hr hs) fun σ H Q ⟨F, w, k⟩ =>
  ⟨F, w, fun v F1 H1 w1 g1 r1 => ⟨F1, w1, fun vs F2 H2 w2 g2 r2 => k (v :: vs) F2 H2 w2 (g1.trans g2) (.cons (r1.mono g2.f) r2)⟩⟩
theorem t_tup {x1} {ds : List D} (h : OkA X B es Γ ds) (l : ds.length ≤ 100000) : Ok X B (.Tuple es x1 pos) Γ (.tup ds) := PE.weak (pe_tup h) fun σ H Q ⟨F, w, k⟩ => ⟨F, w, fun vs F1 H1 w1 g1 r1 =>
  ⟨by rw [r1.length]; exact sz5 l, fun p n => k _ (upd F1 p (.tup vs)) _ (w1.gr (Gr.new w1.fh n) (same_both w1.fh)) (g1.trans (Gr.new w1.fh n)) (.tup upd_same (r1.mono (Gr.new (o := .tup vs) w1.fh n).f))⟩⟩
theorem t_lst {ds : List D} (h : OkA X B es Γ ds) (l : ds.length ≤ 100000) : Ok X B (.List es pos) Γ (.lst ds) := PE.weak (pe_lst h) fun σ H Q ⟨F, w, k⟩ => ⟨F, w, fun vs F1 H1 w1 g1 r1 =>
  ⟨by rw [r1.length]; exact sz5 l, fun p n => k _ (upd F1 p (.lst vs)) _ (w1.gr (Gr.new w1.fh n) (same_both w1.fh)) (g1.trans (Gr.new w1.fh n)) (.lst upd_same (r1.mono (Gr.new (o := .lst vs) w1.fh n).f))⟩⟩
theorem t_cat {ds fs : List D} (ha : Ok X B a Γ (.lst ds)) (hb : Ok X B b Γ (.lst fs)) (l : ds.length + fs.length ≤ 100000) : Ok X B (.BinOp a .Add b pos) Γ (.lst (ds ++ fs)) := ev_op (fun p q => pe_op op_cat p q) ha hb fun F H fh v w rv rw Q q => by
  cases rv with
  | @lst _ vs1 _ h1 r1 =>
    cases rw with
    | @lst _ vs2 _ h2 r2 =>
      refine ⟨_, _, _, _, rfl, rfl, fh _ _ h1, fh _ _ h2, by rw [r1.length, r2.length]; exact sz5 l, fun p n => ?_⟩
      have g := Gr.new (o := .lst (vs1 ++ vs2)) fh n
      exact q _ _ _ g (same_both fh) (.lst upd_same ((r1.append r2).mono g.f))
/-! tests; and, or, not -/
theorem o_val (h : Ok X B e Γ (.bl p)) (he : ∀ whole, isTrue e X.env whole = (do let v ← whole; standAt e.pos; holding [v] (truthy v)) := by intro _; rfl) : OkT X B e Γ p := PT.weak (pt_val h he) fun σ H Q ⟨F, w, k⟩ => ⟨F, w, fun v F1 H1 w1 g1 r1 => by
  cases r1
  exact ⟨p, rfl, k F1 H1 w1 g1⟩⟩
theorem o_not (h : OkT X B a Γ p) : OkT X B (.UnaryOp .Not a pos) Γ (!p) := PT.weak (pt_not h) fun σ H Q ⟨F, w, k⟩ => ⟨F, w, fun F1 H1 w1 g1 => k F1 H1 w1 g1⟩
abbrev OkW (X : Cx) (B : Hp × Hp) (e : Expr) (Γ : Env) (b : Bool) : Prop := PW X e (tEvT X.K B Γ b)
theorem o_w (h : OkW X B e Γ p) : OkT X B e Γ p := h.pt
theorem w_and1 (h : OkT X B a Γ p) : OkW X B (.BoolOp .And [a] pos) Γ p := pw_and1 h
theorem w_or1 (h : OkT X B a Γ p) : OkW X B (.BoolOp .Or [a] pos) Γ p := pw_or1 h
theorem PW.weak {t t' : TT} (h : PW X e t) (w : ∀ σ H Q, t' σ H Q → t σ H Q) : PW X e t' := ⟨fun k pins s σ H Q I q => h.run k pins s σ H Q I (w _ _ _ q)⟩
theorem w_and (ha : OkT X B a Γ p) (hb : p = true → OkW X B (.BoolOp .And (b :: rest) pos) Γ q) : OkW X B (.BoolOp .And (a :: b :: rest) pos) Γ (p && q) := PW.weak (pw_and ha (PW.when hb)) fun σ H Q ⟨F, w, k⟩ => ⟨F, w, fun F1 H1 w1 g1 => by
  cases p with
  | true => exact iteT ⟨rfl, F1, w1, fun F2 H2 w2 g2 => k F2 H2 w2 (g1.trans g2)⟩
  | false => exact iteF (k F1 H1 w1 g1)⟩
theorem w_or (ha : OkT X B a Γ p) (hb : p = false → OkW X B (.BoolOp .Or (b :: rest) pos) Γ q) : OkW X B (.BoolOp .Or (a :: b :: rest) pos) Γ (p || q) := PW.weak (pw_or ha (PW.when hb)) fun σ H Q ⟨F, w, k⟩ => ⟨F, w, fun F1 H1 w1 g1 => by
  cases p with
  | true => exact iteT (k F1 H1 w1 g1)
  | false => exact iteF ⟨rfl, F1, w1, fun F2 H2 w2 g2 => k F2 H2 w2 (g1.trans g2)⟩⟩
theorem v_one {op} (h : Ok X B a Γ x) : Ok X B (.BoolOp op [a] pos) Γ x := pe_one h
theorem v_and (ha : Ok X B a Γ (.bl p)) (hb : p = true → Ok X B (.BoolOp .And (b :: rest) pos) Γ (.bl q)) : Ok X B (.BoolOp .And (a :: b :: rest) pos) Γ (.bl (p && q)) := PE.weak (pe_and ha (PE.when hb)) fun σ H Q ⟨F, w, k⟩ => ⟨F, w, fun v F1 H1 w1 g1 r1 => by
  cases r1
  refine ⟨p, rfl, ?_⟩
  cases p with
  | true => exact iteT ⟨rfl, F1, w1, fun v F2 H2 w2 g2 r2 => k v F2 H2 w2 (g1.trans g2) r2⟩
  | false => exact iteF (k _ F1 H1 w1 g1 (.bl _))⟩
theorem v_or (ha : Ok X B a Γ (.bl p)) (hb : p = false → Ok X B (.BoolOp .Or (b :: rest) pos) Γ (.bl q)) : Ok X B (.BoolOp .Or (a :: b :: rest) pos) Γ (.bl (p || q)) := PE.weak (pe_or ha (PE.when hb)) fun σ H Q ⟨F, w, k⟩ => ⟨F, w, fun v F1 H1 w1 g1 r1 => by
  cases r1
  refine ⟨p, rfl, ?_⟩
  cases p with
  | true => exact iteT (k _ F1 H1 w1 g1 (.bl _))
  | false => exact iteF ⟨rfl, F1, w1, fun v F2 H2 w2 g2 r2 => k v F2 H2 w2 (g1.trans g2) r2⟩⟩
theorem v_not (h : Ok X B a Γ (.bl p)) : Ok X B (.UnaryOp .Not a pos) Γ (.bl (!p)) := PE.weak (pe_not h) fun σ H Q ⟨F, w, k⟩ => ⟨F, w, fun v F1 H1 w1 g1 r1 => by
  cases r1
  exact ⟨p, rfl, k _ F1 H1 w1 g1 (.bl _)⟩⟩
theorem t_if {y' : D} (hc : OkT X B c Γ p) (ha : p = true → Ok X B a Γ y) (hb : p = false → Ok X B b Γ y') : Ok X B (.IfExp c a b pos) Γ (bif p then y else y') := PE.weak (pe_ifExp hc (PE.when ha) (PE.when hb)) fun σ H Q ⟨F, w, k⟩ => ⟨F, w, fun F1 H1 w1 g1 => by
  cases p with
  | true => exact iteT ⟨rfl, F1, w1, fun v F2 H2 w2 g2 r2 => k v F2 H2 w2 (g1.trans g2) r2⟩
  | false => exact iteF ⟨rfl, F1, w1, fun v F2 H2 w2 g2 r2 => k v F2 H2 w2 (g1.trans g2) r2⟩⟩
theorem ok_as {d d' : D} (h : Ok X B e Γ d) (q : d = d') : Ok X B e Γ d' := q ▸ h
theorem o_as (h : OkT X B e Γ p) (e2 : p = q) : OkT X B e Γ q := e2 ▸ h
/-! built-ins -/
def RCT (K : PySem.W.Frag) (r : List V → Hp → VK → Prop) (ds : List D) (z : D) : Prop := ∀ F H, Same F H → ∀ vs, Reps K F vs ds → ∀ Q : VK, (∀ u F' H', Gr F H F' H' → Same F' H' → Rep K F' u z → Q u H') → r vs H Q
theorem t_cb {r : List V → Hp → VK → Prop} {ds : List D} (ho : ∀ {t : TA}, PA X es t → PE X e (tCB r t)) (ha : OkA X B es Γ ds) (h : RCT X.K r ds z) : Ok X B e Γ z := PE.weak (ho ha) fun σ H Q ⟨F, w, k⟩ =>
  ⟨F, w, fun vs F1 H1 w1 g1 r1 => h F1 H1 w1.fh vs r1 Q fun u F2 H2 g2 fh r2 => k u F2 H2 (w1.gr g2 fh) (g1.trans g2) r2⟩
def RMT (K : PySem.W.Frag) (r : V → List V → Hp → VK → Prop) (x : D) (ds : List D) (z : D) : Prop := ∀ F H, Same F H → ∀ v vs, Rep K F v x → Reps K F vs ds → ∀ Q : VK, (∀ u F' H', Gr F H F' H' → Same F' H' → Rep K F' u z → Q u H') → r v vs H Q
theorem t_bm {r : V → List V → Hp → VK → Prop} {T : String} {ds : List D} {o : Expr} (ho : ∀ {to : TE} {t : TA}, PE X o to → PA X es t → PE X e (tBM X.K T r to t)) (hx : Ok X B o Γ x) (ha : OkA X B es Γ ds) (ty : ∀ F H v, Same F H → Rep X.K F v x → tyV X.K T v H) (h : RMT X.K r x ds z) : Ok X B e Γ z :=
  PE.weak (ho hx ha) fun σ H Q ⟨F, w, k⟩ => ⟨F, w, fun v F1 H1 w1 g1 r1 => ⟨ty F1 H1 v w1.fh r1, F1, w1, fun vs F2 H2 w2 g2 r2 => h F2 H2 w2.fh v vs (r1.mono g2.f) r2 Q fun u F3 H3 g3 fh r3 => k u F3 H3 (w2.gr g3 fh) ((g1.trans g2).trans g3) r3⟩⟩
theorem ty_str {K : PySem.W.Frag} {s : Str} : ∀ F H v, Same F H → Rep K F v (.str s) → tyV K "str" v H := fun F H v _ r => by
  cases r
  rfl
def rLen (K : PySem.W.Frag) : List V → Hp → VK → Prop := fun xs H Q => ∃ p ys, xs = [.ref p] ∧ (SqL K H p ys ∨ SqT K H p ys) ∧ Q (.int ys.length) H
theorem rc_len {K : PySem.W.Frag} {ds : List D} : RCT K (rLen K) [.lst ds] (.int (ds.length : Int)) := fun F H fh vs r Q q => by
  cases r with
  | cons h r =>
    cases r
    cases h with
    | lst h r => exact ⟨_, _, rfl, .inl (tofl (fh _ _ h)), by rw [r.length]; exact q _ F H (Gr.refl _ _) fh (.int _)⟩
theorem rc_lenT {K : PySem.W.Frag} {ds : List D} : RCT K (rLen K) [.tup ds] (.int (ds.length : Int)) := fun F H fh vs r Q q => by
  cases r with
  | cons h r =>
    cases r
    cases h with
    | tup h r => exact ⟨_, _, rfl, .inr (toft (fh _ _ h)), by rw [r.length]; exact q _ F H (Gr.refl _ _) fh (.int _)⟩
def rLenS : List V → Hp → VK → Prop := fun xs H Q => ∃ z, xs = [.str z] ∧ z.length ≤ sizeLine ∧ Q (.int z.length) H
theorem rc_lenS {K : PySem.W.Frag} {u : List Nat} (l : u.length ≤ 100000) : RCT K rLenS [.tx u] (.int (u.length : Int)) := fun F H fh vs r Q q => by
  cases r with
  | cons h r =>
    cases r
    cases h
    exact ⟨_, rfl, by rw [lenS]; exact sz5 l, by rw [lenS]; exact q _ F H (Gr.refl _ _) fh (.int _)⟩
def rStrI : List V → Hp → VK → Prop := fun xs H Q => ∃ i, xs = [.int i] ∧ i.natAbs.log2 < 1920 ∧ Q (.str (toString i)) H
theorem rc_strI {K : PySem.W.Frag} {i : Int} {u : List Nat} (l : i.natAbs.log2 < 1920) (e : (toString i : Str) = S u) : RCT K rStrI [.int i] (.tx u) := fun F H fh vs r Q q => by
  cases r with
  | cons h r =>
    cases r
    cases h
    exact ⟨_, rfl, l, by rw [e]; exact q _ F H (Gr.refl _ _) fh (.str _)⟩
def rJoinT (K : PySem.W.Frag) : V → List V → Hp → VK → Prop := fun x xs H Q => ∃ a p, ∃ ys : List Str, x = .str a ∧ xs = [.ref p] ∧ (SqL K H p (ys.map V.str) ∨ SqT K H p (ys.map V.str)) ∧ (ys.map (·.length)).sum + ys.length * a.length ≤ 16777216 ∧ Q (.str (Txt.join a ys)) H
theorem sum_len : ∀ (zs : List (List Nat)) (m : Nat), (∀ z ∈ zs, z.length ≤ m) → ((zs.map S).map (·.length)).sum ≤ zs.length * m
  | [], m, _ => by simp
  | z :: zs, m, h => by
    have e := sum_len zs m fun y hy => h y (List.mem_cons_of_mem _ hy)
    have l := h z List.mem_cons_self
    rw [List.map_cons, List.map_cons, List.sum_cons, List.length_cons, Nat.succ_mul, lenS]
    omega
theorem rm_join {K : PySem.W.Frag} {u : List Nat} {zs : List (List Nat)} (m : Nat) (h : ∀ z ∈ zs, z.length ≤ m) (l : zs.length * (m + u.length) ≤ 16777216) : RMT K (rJoinT K) (.tx u) [.lst (zs.map D.tx)] (.tx (TL.joinL u zs)) := fun F H fh v vs rv r Q q => by
  cases rv
  cases r with
  | cons h1 r =>
    cases r
    cases h1 with
    | @lst a vs _ h2 r2 =>
      have e : vs = (zs.map S).map V.str := by
        have := Reps.strs (ss := zs.map S) (K := K) (F := F) (vs := vs) (by rw [List.map_map]; exact r2)
        exact this
      subst e
      refine ⟨S u, a, zs.map S, rfl, rfl, .inl (tofl (fh _ _ h2)), ?_, ?_⟩
      · have := sum_len zs m h
        rw [List.length_map, lenS]
        rw [Nat.mul_add] at l
        omega
      · rw [join_S]
        exact q _ F H (Gr.refl _ _) fh (.str _)
/-! slices -/
def OkO (X : Cx) (B : Hp × Hp) (o : Option Expr) (Γ : Env) (i : Option Int) : Prop := PO X o (fun σ H Q => ∃ F, Wd X.K B F H σ Γ ∧ ∀ F' H', Wd X.K B F' H' σ Γ → Gr F H F' H' → Q i H')
theorem PO.weak {o : Option Expr} {t t' : TO} (h : PO X o t) (w : ∀ σ H Q, t' σ H Q → t σ H Q) : PO X o t' := ⟨fun pins s σ H Q I q => h.run pins s σ H Q I (w _ _ _ q)⟩
theorem so_none : OkO X B none Γ none := PO.weak po_none fun σ H Q ⟨F, w, k⟩ => k F H w (Gr.refl _ _)
theorem so_some (h : Ok X B e Γ (.int i)) : OkO X B (some e) Γ (some i) := PO.weak (po_some h) fun σ H Q ⟨F, w, k⟩ => ⟨F, w, fun v F1 H1 w1 g1 r1 => by
  cases r1
  exact ⟨i, rfl, k F1 H1 w1 g1⟩⟩
/-- xs[lo:hi] of trees -/
def cutTr (xs : List D) (lo hi : Option Int) : List D := (xs.drop (HT.sIx xs.length 0 lo)).take (HT.sIx xs.length xs.length hi - HT.sIx xs.length 0 lo)
theorem Reps.cut {K : PySem.W.Frag} {F : Hp} {vs : List V} {ds : List D} (r : Reps K F vs ds) (lo hi : Option Int) : Reps K F (cutV vs lo hi) (cutTr ds lo hi) := by
  unfold cutV cutTr
  rw [r.length]
  exact (r.drop _).take _
theorem t_slL {ds : List D} {lo hi : Option Expr} {l h : Option Int} {p2 : Pos} (he : Ok X B e Γ (.lst ds)) (hl : OkO X B lo Γ l) (hu : OkO X B hi Γ h) : Ok X B (.Subscript e (.Slice lo hi none p2) pos) Γ (.lst (cutTr ds l h)) :=
  PE.weak (pe_slice sl_list he hl hu) fun σ H Q ⟨F, w, k⟩ => ⟨F, w, fun v F1 H1 w1 g1 r1 => ⟨F1, w1, fun F2 H2 w2 g2 => ⟨F2, w2, fun F3 H3 w3 g3 => by
    cases r1 with
    | @lst a vs _ h1 r1 =>
      have h3 := w3.fh _ _ (g3.f _ _ (g2.f _ _ h1))
      refine ⟨a, vs, rfl, tofl h3, fun p n => ?_⟩
      have g := Gr.new (o := .lst (cutV vs l h)) w3.fh n
      exact k _ _ _ (w3.gr g (same_both w3.fh)) (((g1.trans g2).trans g3).trans g) (.lst upd_same (((r1.mono (g2.f.trans g3.f)).cut l h).mono g.f))⟩⟩⟩
theorem t_slS {lo hi : Option Expr} {l h : Option Int} {p2 : Pos} (he : Ok X B e Γ (.tx u)) (hl : OkO X B lo Γ l) (hu : OkO X B hi Γ h) (lu : u.length ≤ 100000) : Ok X B (.Subscript e (.Slice lo hi none p2) pos) Γ (.str (cutS (S u) l h)) :=
  PE.weak (pe_slice sl_str he hl hu) fun σ H Q ⟨F, w, k⟩ => ⟨F, w, fun v F1 H1 w1 g1 r1 => ⟨F1, w1, fun F2 H2 w2 g2 => ⟨F2, w2, fun F3 H3 w3 g3 => by
    cases r1
    exact ⟨S u, rfl, by rw [lenS]; exact sz5 lu, k _ F3 H3 w3 ((g1.trans g2).trans g3) (.str _)⟩⟩⟩⟩
end
end Tr
/-! ### calls, objects, statements -/
namespace Tr
open PySem PySem.Spec PyProof.Rows L2 SX
/-! promises of defs, by trees -/
def spT (K : PySem.W.Frag) (ds : List D) (d : D) : Sp := fun vs H Q _ => ∃ F, Same F H ∧ Reps K F vs ds ∧ ∀ v F' H', Gr F H F' H' → Same F' H' → Rep K F' v d → Q v H'
def spG (K : PySem.W.Frag) (G : List D → D → Prop) : Sp := fun vs H Q E => ∃ ds d, G ds d ∧ spT K ds d vs H Q E
section
variable {X : Cx} {B : Hp × Hp} {Γ Γ' : Env} {e a b c o : Expr} {es rest : List Expr} {x y z : D} {pos apos : Pos} {i j : Int} {p q : Bool} {u w : List Nat} {E : XK}
theorem t_call {sp : Sp} {ds : List D} (ho : ∀ {t : TA}, PA X es t → PE X e (tCall sp [] E t)) (ha : OkA X B es Γ ds) (h : ∀ vs H Q, spT X.K ds z vs H Q E → sp vs H Q E) : Ok X B e Γ z := PE.weak (ho ha) fun σ H Q ⟨F, w, k⟩ =>
  ⟨F, w, fun vs F1 H1 w1 g1 r1 => by
    show sp (vs ++ []) H1 Q E
    rw [List.append_nil]
    exact h _ _ _ ⟨F1, w1.fh, r1, fun v F2 H2 g2 fh r2 => k v F2 H2 (w1.gr g2 fh) (g1.trans g2) r2⟩⟩
theorem t_callG {G : List D → D → Prop} {ds : List D} (ho : ∀ {t : TA}, PA X es t → PE X e (tCall (spG X.K G) [] E t)) (ha : OkA X B es Γ ds) (h : G ds z) : Ok X B e Γ z := t_call ho ha fun _ _ _ q => ⟨ds, z, h, q⟩
theorem t_meth {C : Addr} {m : Str} {sp : Sp} {fs : List (Str × D)} {ds : List D} (ho : ∀ {to : TE} {t : TA}, PE X o to → PA X es t → PE X e (tMeth C m sp [] E to t)) (hx : Ok X B o Γ (.obj C fs)) (ha : OkA X B es Γ ds) (nf : fs.lookup m = none)
    (h : ∀ vs H Q, spT X.K (.obj C fs :: ds) z vs H Q E → sp vs H Q E) : Ok X B e Γ z := PE.weak (ho hx ha) fun σ H Q ⟨F, w, k⟩ => ⟨F, w, fun v F1 H1 w1 g1 r1 => by
  cases r1 with
  | obj h1 r1 =>
    refine ⟨_, _, _, rfl, w1.fh _ _ h1, r1.none nf, F1, w1, fun vs F2 H2 w2 g2 r2 => ?_⟩
    show sp (_ :: (vs ++ [])) H2 Q E
    rw [List.append_nil]
    exact h _ _ _ ⟨F2, w2.fh, .cons (.obj (g2.f _ _ h1) (r1.mono g2.f)) r2, fun v F3 H3 g3 fh r3 => k v F3 H3 (w2.gr g3 fh) ((g1.trans g2).trans g3) r3⟩⟩
theorem t_meth0 {C : Addr} {m : Str} {sp : Sp} {fs : List (Str × D)} (ho : ∀ {to : TE}, PE X o to → PE X e (tMeth C m sp [] E to tNil)) (hx : Ok X B o Γ (.obj C fs)) (nf : fs.lookup m = none)
    (h : ∀ vs H Q, spT X.K [.obj C fs] z vs H Q E → sp vs H Q E) : Ok X B e Γ z := PE.weak (ho hx) fun σ H Q ⟨F, w, k⟩ => ⟨F, w, fun v F1 H1 w1 g1 r1 => by
  cases r1 with
  | obj h1 r1 =>
    refine ⟨_, _, _, rfl, w1.fh _ _ h1, r1.none nf, ?_⟩
    exact h _ _ _ ⟨F1, w1.fh, .cons (.obj h1 r1) .nil, fun v F3 H3 g3 fh r3 => k v F3 H3 (w1.gr g3 fh) (g1.trans g3) r3⟩⟩
theorem t_fld {C : Addr} {f : Str} {fs : List (Str × D)} (hx : Ok X B o Γ (.obj C fs)) (c : Cls X.K C) (n : NoAttr X.K C f) (l : fs.lookup f = some z) (hb : attributeBase o f X.env (eval o X.env) = eval o X.env) : Ok X B (.Attribute o f pos) Γ z :=
  PE.weak (pe_fld hx hb) fun σ H Q ⟨F, w, k⟩ => ⟨F, w, fun v F1 H1 w1 g1 r1 => by
    cases r1 with
    | obj h1 r1 =>
      obtain ⟨v, e, rv⟩ := r1.look l
      exact ⟨_, _, _, _, v, rfl, w1.fh _ _ h1, c, n, e, k v F1 H1 w1 g1 rv⟩⟩
theorem t_con {C : Addr} {f : Str} {fs : List (Str × D)} {v : V} {u : Value} (hx : Ok X B o Γ (.obj C fs)) (c : Cls X.K C) (n : Con X.K C f v u) (l : fs.lookup f = none) (r : ∀ F, Rep X.K F v z) (hb : attributeBase o f X.env (eval o X.env) = eval o X.env) : Ok X B (.Attribute o f pos) Γ z :=
  PE.weak (pe_con hx hb) fun σ H Q ⟨F, w, k⟩ => ⟨F, w, fun v' F1 H1 w1 g1 r1 => by
    cases r1 with
    | obj h1 r1 => exact ⟨_, _, _, _, v, u, rfl, w1.fh _ _ h1, c, n, r1.none l, k v F1 H1 w1 g1 (r _)⟩⟩
theorem t_prop {C : Addr} {sp : Sp} {fs : List (Str × D)} (ho : ∀ {to : TE}, PE X o to → PE X e (tProp C sp [] E to)) (hx : Ok X B o Γ (.obj C fs)) (h : ∀ vs H Q, spT X.K [.obj C fs] z vs H Q E → sp vs H Q E) : Ok X B e Γ z :=
  PE.weak (ho hx) fun σ H Q ⟨F, w, k⟩ => ⟨F, w, fun v F1 H1 w1 g1 r1 => by
    cases r1 with
    | obj h1 r1 =>
      refine ⟨_, _, _, rfl, w1.fh _ _ h1, ?_⟩
      exact h _ _ _ ⟨F1, w1.fh, .cons (.obj h1 r1) .nil, fun v F3 H3 g3 fh r3 => k v F3 H3 (w1.gr g3 fh) (g1.trans g3) r3⟩⟩
end
/-! ### statements -/
inductive Out where
  | nx (Γ : Env)
  | rt (d : D)
structure Wb (B : Hp × Hp) (F H : Hp) : Prop where
  ff : Same B.1 F
  hh : Same B.2 H
  fh : Same F H
  ex : ∀ a o, B.2 a = some o → B.1 a = none → F a = none
theorem Wd.b {K : PySem.W.Frag} {B : Hp × Hp} {F H : Hp} {σ : L2.St} {Γ : Env} (w : Wd K B F H σ Γ) : Wb B F H := ⟨w.ff, w.hh, w.fh, w.ex⟩
def after (K : PySem.W.Frag) (B : Hp × Hp) (D : Ends) : Out → Prop
  | .nx Γ => ∀ σ F H, Wd K B F H σ Γ → D.nx σ H
  | .rt d => ∀ v F H, Wb B F H → Rep K F v d → D.rt v H
def tSt (K : PySem.W.Frag) (B : Hp × Hp) (Γ : Env) (o : Out) : TS := fun D σ H => ∃ F, Wd K B F H σ Γ ∧ after K B D o
abbrev OkS (X : Cx) (B : Hp × Hp) (s : Stmt) (Γ : Env) (o : Out) : Prop := PS X s (tSt X.K B Γ o)
abbrev OkSs (X : Cx) (B : Hp × Hp) (s : List Stmt) (Γ : Env) (o : Out) : Prop := PSs X s (tSt X.K B Γ o)
theorem after.imp {K : PySem.W.Frag} {B : Hp × Hp} {D D' : Ends} {o : Out} (h : after K B D o) (n : ∀ Γ, o = .nx Γ → ∀ σ F H, Wd K B F H σ Γ → D'.nx σ H) (r : D'.rt = D.rt) : after K B D' o := by
  cases o with
  | nx Γ => exact n Γ rfl
  | rt d => intro v F H w q; rw [r]; exact h v F H w q
section
variable {X : Cx} {B : Hp × Hp} {Γ Γ' Γ1 : Env} {e a b c o : Expr} {es rest : List Expr} {x y z d : D} {pos pos' apos : Pos} {p q : Bool} {s : Stmt} {r ss : List Stmt} {ou : Out} {i : Nat}
theorem s_nil : OkSs X B [] Γ (.nx Γ) := PSs.weak pss_nil fun D σ H ⟨F, w, k⟩ => k σ F H w
theorem s_cons (h : OkS X B s Γ (.nx Γ1)) (hr : OkSs X B r Γ1 ou) : OkSs X B (s :: r) Γ ou := PSs.weak (pss_cons h hr) fun D σ H ⟨F, w, k⟩ => ⟨F, w, fun σ' F' H' w' => ⟨F', w', k⟩⟩
theorem s_one (h : OkS X B s Γ ou) : OkSs X B [s] Γ ou := pss_one h
theorem s_ret (h : Ok X B e Γ d) : OkS X B (.Return (some e) pos) Γ (.rt d) := PS.weak (ps_ret h) fun D σ H ⟨F, w, k⟩ => ⟨F, w, fun v F' H' w' g r => k v F' H' w'.b r⟩
theorem Wd.set {K : PySem.W.Frag} {F H : Hp} {σ : L2.St} {v : V} (w : Wd K B F H σ Γ) (r : Rep K F v d) : Wd K B F H (σ.set i (some v)) (Γ.set i (.d d)) := by
  refine ⟨w.ff, w.hh, w.fh, w.ex, by rw [List.length_set, List.length_set, w.len], fun j o s h1 h2 => ?_, fun j k p xs ys ne h1 h2 h3 h4 => ?_⟩
  · rw [List.getElem?_set] at h1 h2
    by_cases e : i = j
    · rw [if_pos e] at h1 h2
      split at h1
      · split at h2
        · cases h1; cases h2
          exact ⟨v, rfl, r⟩
        · cases h2
      · cases h1
    · rw [if_neg e] at h1 h2
      exact w.sl j o s h1 h2
  · rw [List.getElem?_set] at h1 h2 h3 h4
    have nj : i ≠ j := fun e => by
      rw [if_pos e] at h3
      split at h3 <;> cases h3
    have nk : i ≠ k := fun e => by
      rw [if_pos e] at h4
      split at h4 <;> cases h4
    rw [if_neg nj] at h1 h3
    rw [if_neg nk] at h2 h4
    exact w.dj j k p xs ys ne h1 h2 h3 h4
theorem s_set (ho : ∀ {t : TE}, PE X e t → PS X s (tAsg t (gName i))) (h : Ok X B e Γ d) : OkS X B s Γ (.nx (Γ.set i (.d d))) := PS.weak (ho h) fun D σ H ⟨F, w, k⟩ => ⟨F, w, fun v F' H' w' g r => k _ F' H' (w'.set r)⟩
/-- a new list of the def's own -/
theorem Wd.setOwn {K : PySem.W.Frag} {F H : Hp} {σ : L2.St} {p : Addr} {ho : HO} {ds : Ow} (w : Wd K B F H σ Γ) (n : H p = none) (r : OwR K F p ho ds) : Wd K B F (upd H p ho) (σ.set i (some (.ref p))) (Γ.set i (.own ds)) := by
  have sp := sup (o := ho) n
  refine ⟨w.ff, w.hh.trans sp, w.fh.trans sp, w.ex, by rw [List.length_set, List.length_set, w.len], fun j o s h1 h2 => ?_, fun j k p' xs ys ne h1 h2 h3 h4 => ?_⟩
  · rw [List.getElem?_set] at h1 h2
    by_cases e : i = j
    · rw [if_pos e] at h1 h2
      split at h1
      · split at h2
        · cases h1; cases h2
          exact ⟨p, ho, rfl, w.hh.free n, w.fh.free n, upd_same, r⟩
        · cases h2
      · cases h1
    · rw [if_neg e] at h1 h2
      have q := w.sl j o s h1 h2
      cases s with
      | no => trivial
      | d x => exact q
      | own xs =>
        obtain ⟨p1, vs1, e1, a1, a2, a3, a4⟩ := q
        exact ⟨p1, vs1, e1, a1, a2, sp _ _ a3, a4⟩
  · rw [List.getElem?_set] at h1 h2 h3 h4
    have old : ∀ (k : Nat) (ys : Ow), σ[k]? = some (some (.ref p)) → Γ[k]? = some (.own ys) → False := fun k ys e1 e2 => by
      obtain ⟨p1, vs1, e3, a1, a2, a3, a4⟩ := w.sl k _ _ e1 e2
      cases e3
      rw [n] at a3
      cases a3
    by_cases ej : i = j
    · by_cases ek : i = k
      · exact ne (ej.symm.trans ek)
      · rw [if_pos ej] at h1 h3
        rw [if_neg ek] at h2 h4
        split at h1
        · cases h1
          exact old k ys h2 h4
        · cases h1
    · rw [if_neg ej] at h1 h3
      by_cases ek : i = k
      · rw [if_pos ek] at h2 h4
        split at h2
        · cases h2
          exact old j xs h1 h3
        · cases h2
      · rw [if_neg ek] at h2 h4
        exact w.dj j k p' xs ys ne h1 h2 h3 h4
theorem s_setOwn {ds : List D} (ho : ∀ {t : TA}, PA X es t → PS X s (tAsg (tLst t) (gName i))) (h : OkA X B es Γ ds) (l : ds.length ≤ 100000) : OkS X B s Γ (.nx (Γ.set i (.own (.l ds)))) :=
  PS.weak (ho h) fun D σ H ⟨F, w, k⟩ => ⟨F, w, fun vs F' H' w' g r => ⟨by rw [r.length]; exact sz5 l, fun p n => k _ F' _ (w'.setOwn n (.l r))⟩⟩
theorem Wd.grow {K : PySem.W.Frag} {F H : Hp} {σ : L2.St} {p : Addr} {ho hw : HO} {ds es : Ow} (w : Wd K B F H σ Γ) (hs : σ[i]? = some (some (.ref p))) (hg : Γ[i]? = some (.own ds)) (hp : H p = some ho) (h0 : B.2 p = none) (hF : F p = none) (r : OwR K F p hw es) :
    Wd K B F (upd H p hw) σ (Γ.set i (.own es)) := by
  have sb : ∀ {G : Hp}, G p = none → Same G H → Same G (upd H p hw) := fun n s a o e => by
    rw [upd_ne (ne_of_none e n)]
    exact s _ _ e
  refine ⟨w.ff, sb h0 w.hh, sb hF w.fh, w.ex, by rw [List.length_set, w.len], fun j o s h1 h2 => ?_, fun j k p' xs ys ne h1 h2 h3 h4 => ?_⟩
  · rw [List.getElem?_set] at h2
    by_cases e : i = j
    · rw [if_pos e] at h2
      subst e
      split at h2
      · cases h2
        rw [hs] at h1
        cases h1
        exact ⟨p, hw, rfl, h0, hF, upd_same, r⟩
      · cases h2
    · rw [if_neg e] at h2
      have q := w.sl j o s h1 h2
      cases s with
      | no => trivial
      | d x => exact q
      | own xs =>
        obtain ⟨p1, vs1, e1, a1, a2, a3, a4⟩ := q
        have ne : p1 ≠ p := fun y => by
          subst y
          subst e1
          exact w.dj i j p1 ds xs e hs h1 hg h2
        exact ⟨p1, vs1, e1, a1, a2, by rw [upd_ne ne]; exact a3, a4⟩
  · rw [List.getElem?_set] at h3 h4
    have back : ∀ (m : Nat) (zs : Ow), (if i = m then (if i < Γ.length then some (Sl.own es) else none) else Γ[m]?) = some (.own zs) → ∃ zs', Γ[m]? = some (.own zs') := fun m zs h => by
      by_cases e : i = m
      · subst e
        exact ⟨ds, hg⟩
      · rw [if_neg e] at h
        exact ⟨zs, h⟩
    obtain ⟨xs', h3⟩ := back j xs h3
    obtain ⟨ys', h4⟩ := back k ys h4
    exact w.dj j k p' xs' ys' ne h1 h2 h3 h4
theorem Wd.own {K : PySem.W.Frag} {F H : Hp} {σ : L2.St} {ds : Ow} (w : Wd K B F H σ Γ) (g : Γ[i]? = some (.own ds)) : ∃ p vs, σ[i]? = some (some (.ref p)) ∧ B.2 p = none ∧ F p = none ∧ H p = some vs ∧ OwR K F p vs ds := by
  have li : i < Γ.length := (List.getElem?_eq_some_iff.mp g).1
  have ls : i < σ.length := by rw [w.len]; exact li
  obtain ⟨p, vs, e, r⟩ := w.sl i _ _ (List.getElem?_eq_getElem ls) g
  exact ⟨p, vs, by rw [List.getElem?_eq_getElem ls, e], r⟩
/-- xs.append(e), xs the def's own list -/
theorem s_append {ds : List D} (ho : ∀ {t : TA}, PA X es t → PS X s (tDrop (tBM X.K "list" rAppend (tVar i) t))) (g : Γ[i]? = some (.own (.l ds))) (h : OkA X B es Γ [d]) (l : ds.length < 100000) : OkS X B s Γ (.nx (Γ.set i (.own (.l (ds ++ [d]))))) :=
  PS.weak (ho h) fun D σ H ⟨F, w, k⟩ => by
    obtain ⟨p, ho, e, h0, hF, hp, r⟩ := w.own g
    obtain ⟨vs, rfl, q⟩ := r.lst
    refine ⟨_, e, .inl ⟨rfl, _, tofl hp⟩, F, w, fun ws F1 H1 w1 g1 r1 => ?_⟩
    cases r1 with
    | @cons v _ _ _ h1 r1 =>
      cases r1
      have hp1 := g1.h _ _ hp
      have hF1 := g1.x _ _ hp hF
      refine ⟨p, vs, v, rfl, rfl, hp1, by rw [q.length]; exact sz5' l, k _ F1 _ (w1.grow e g hp1 h0 hF1 (.l ((q.mono g1.f).append (.cons h1 .nil))))⟩
/-- the def's own list will not grow any more -/
def Ow.tree : Ow → D
  | .l xs => .lst xs
  | .o _ _ C fs => .obj C fs
theorem OwR.rep {K : PySem.W.Frag} {F : Hp} {p : Addr} {ho : HO} {c : Ow} (r : OwR K F p ho c) (h : F p = some ho) : Rep K F (.ref p) c.tree := by
  cases r with
  | l r => exact .lst h r
  | o r => exact .obj h r
theorem Wd.freeze {K : PySem.W.Frag} {F H : Hp} {σ : L2.St} {ds : Ow} (w : Wd K B F H σ Γ) (g : Γ[i]? = some (.own ds)) : ∃ F', Same F F' ∧ Wd K B F' H σ (Γ.set i (.d ds.tree)) := by
  obtain ⟨p, vs, e, h0, hF, hp, r⟩ := w.own g
  have sF := sup (o := vs) hF
  refine ⟨upd F p vs, sF, w.ff.trans sF, w.hh, fun a o q => ?_, fun a o h1 h2 => ?_, by rw [List.length_set, w.len], fun j o s h1 h2 => ?_, fun j k p' xs ys ne h1 h2 h3 h4 => ?_⟩
  · by_cases y : a = p
    · subst y
      rw [upd_same] at q
      rw [← q]
      exact hp
    · rw [upd_ne y] at q
      exact w.fh _ _ q
  · rw [upd_ne (fun y => by rw [y, h0] at h1; cases h1)]
    exact w.ex a o h1 h2
  · rw [List.getElem?_set] at h2
    by_cases y : i = j
    · rw [if_pos y] at h2
      subst y
      split at h2
      · cases h2
        rw [e] at h1
        cases h1
        exact ⟨_, rfl, (r.mono sF).rep upd_same⟩
      · cases h2
    · rw [if_neg y] at h2
      have q := w.sl j o s h1 h2
      cases s with
      | no => trivial
      | d x =>
        obtain ⟨v, ev, rv⟩ := q
        exact ⟨v, ev, rv.mono sF⟩
      | own xs =>
        obtain ⟨p1, vs1, e1, a1, a2, a3, a4⟩ := q
        have ne : p1 ≠ p := fun z => by
          subst z
          subst e1
          exact w.dj i j p1 ds xs y e h1 g h2
        exact ⟨p1, vs1, e1, a1, by rw [upd_ne ne]; exact a2, a3, a4.mono sF⟩
  · rw [List.getElem?_set] at h3 h4
    have nj : i ≠ j := fun y => by
      rw [if_pos y] at h3
      split at h3 <;> cases h3
    have nk : i ≠ k := fun y => by
      rw [if_pos y] at h4
      split at h4 <;> cases h4
    rw [if_neg nj] at h3
    rw [if_neg nk] at h4
    exact w.dj j k p' xs ys ne h1 h2 h3 h4
theorem s_freeze {ds : Ow} (i : Nat) (g : Γ[i]? = some (.own ds)) (h : OkSs X B ss (Γ.set i (.d ds.tree)) ou) : OkSs X B ss Γ ou := PSs.weak h fun D σ H ⟨F, w, k⟩ => by
  obtain ⟨F', _, w'⟩ := w.freeze g
  exact ⟨F', w', k⟩
/-! if -/
theorem s_if {o1 o2 : Out} (hc : OkT X B c Γ p) (ha : p = true → OkSs X B ss Γ o1) (hb : p = false → OkSs X B r Γ o2) : OkS X B (.If c ss r pos) Γ (bif p then o1 else o2) :=
  PS.weak (ps_if hc (PSs.when ha) (PSs.when hb)) fun D σ H ⟨F, w, k⟩ => ⟨F, w, fun F1 H1 w1 g1 => by
    cases p with
    | true => exact iteT ⟨rfl, F1, w1, k⟩
    | false => exact iteF ⟨rfl, F1, w1, k⟩⟩
/-- if c: .. return; the rest -/
theorem s_ifRet (hc : OkT X B c Γ p) (ha : p = true → OkSs X B ss Γ (.rt d)) (hr : p = false → OkSs X B r Γ ou) : OkSs X B (.If c ss [] pos :: r) Γ (bif p then .rt d else ou) :=
  PSs.weak (pss_cons (ps_if hc (PSs.when ha) pss_nil) (PSs.when hr)) fun D σ H ⟨F, w, k⟩ => ⟨F, w, fun F1 H1 w1 g1 => by
    cases p with
    | true => exact iteT ⟨rfl, F1, w1, k⟩
    | false => exact iteF ⟨rfl, F1, w1, k⟩⟩
theorem s_ifRet2 (hc : OkT X B c Γ p) (ha : p = true → OkSs X B ss Γ (.rt x)) (hr : p = false → OkSs X B r Γ (.rt y)) : OkSs X B (.If c ss [] pos :: r) Γ (.rt (bif p then x else y)) := by
  have h := s_ifRet (pos := pos) hc ha hr
  cases p with
  | true => exact h
  | false => exact h
/-- both ways end in one form of the slots -/
theorem s_ifJoin {G : Bool → Env} (hc : OkT X B c Γ p) (ha : p = true → OkSs X B ss Γ (.nx (G true))) (hb : p = false → OkSs X B r Γ (.nx (G false))) : OkS X B (.If c ss r pos) Γ (.nx (G p)) := by
  have h := s_if (pos := pos) hc ha hb
  cases p with
  | true => exact h
  | false => exact h
/-- slots may be forgotten -/
def le : Env → Env → Prop := fun Γ Γ' => Γ.length = Γ'.length ∧ ∀ (i : Nat) (s : Sl), Γ'[i]? = some s → s = .no ∨ Γ[i]? = some s
theorem Wd.le {K : PySem.W.Frag} {F H : Hp} {σ : L2.St} (w : Wd K B F H σ Γ) (h : le Γ Γ') : Wd K B F H σ Γ' := by
  refine ⟨w.ff, w.hh, w.fh, w.ex, w.len.trans h.1, fun j o s h1 h2 => ?_, fun j k p xs ys ne h1 h2 h3 h4 => ?_⟩
  · rcases h.2 j s h2 with rfl | q
    · trivial
    · exact w.sl j o s h1 q
  · rcases h.2 j _ h3 with y | q3
    · cases y
    · rcases h.2 k _ h4 with y | q4
      · cases y
      · exact w.dj j k p xs ys ne h1 h2 q3 q4
theorem le.refl : le Γ Γ := ⟨rfl, fun _ _ h => .inr h⟩
theorem le.cons {s s' : Sl} (h : le Γ Γ') (e : s' = .no ∨ s = s') : le (s :: Γ) (s' :: Γ') := ⟨congrArg (· + 1) h.1, fun i t q => by
  cases i with
  | zero =>
    cases q
    rcases e with e | e
    · exact .inl e
    · exact .inr (by rw [e]; rfl)
  | succ i => exact h.2 i t q⟩
theorem s_le (h : le Γ Γ') (hs : OkSs X B ss Γ (.nx Γ)) : OkSs X B ss Γ (.nx Γ') := PSs.weak hs fun D σ H ⟨F, w, k⟩ => ⟨F, w, fun σ' F' H' w' => k σ' F' H' (w'.le h)⟩
theorem s_leO {Γ2 : Env} (hs : OkSs X B ss Γ (.nx Γ2)) (h : le Γ2 Γ') : OkSs X B ss Γ (.nx Γ') := PSs.weak hs fun D σ H ⟨F, w, k⟩ => ⟨F, w, fun σ' F' H' w' => k σ' F' H' (w'.le h)⟩
theorem s_leI {Γ2 : Env} (h : le Γ Γ2) (hs : OkSs X B ss Γ2 ou) : OkSs X B ss Γ ou := PSs.weak hs fun D σ H ⟨F, w, k⟩ => ⟨F, w.le h, k⟩
/-! targets -/
def BindG (K : PySem.W.Frag) (B : Hp × Hp) (vs : List Nat) (g : TG) (Γ : Env) (d : D) (Γ' : Env) : Prop := ∀ σ F H v, Wd K B F H σ Γ → Rep K F v d → ∀ R : L2.St → Hp → Prop, (∀ σ', Wd K B F H σ' Γ' → wipe σ' vs = wipe σ vs → R σ' H) → g v σ H R
def BindGs (K : PySem.W.Frag) (B : Hp × Hp) (vs : List Nat) (g : TGs) (Γ : Env) (ds : List D) (Γ' : Env) : Prop := ∀ σ F H us, Wd K B F H σ Γ → Reps K F us ds → ∀ R : L2.St → Hp → Prop, (∀ σ', Wd K B F H σ' Γ' → wipe σ' vs = wipe σ vs → R σ' H) → g us σ H R
theorem wipe_set {σ : L2.St} {o : Option V} : ∀ {vs : List Nat}, i ∈ vs → wipe (σ.set i o) vs = wipe σ vs
  | [], h => nomatch h
  | v :: vs, h => by
    unfold wipe
    by_cases m : i ∈ vs
    · rw [wipe_set m]
    · have e : i = v := by
        rcases List.mem_cons.mp h with h | h
        · exact h
        · exact absurd h m
      subst e
      have comm : ∀ (vs : List Nat), i ∉ vs → wipe (σ.set i o) vs = (wipe σ vs).set i o := fun vs => by
        induction vs with
        | nil => intro _; rfl
        | cons v vs ih =>
          intro n
          unfold wipe
          rw [ih (fun k => n (List.mem_cons_of_mem _ k))]
          exact List.set_comm _ _ (fun k => n (by rw [k]; exact List.mem_cons_self))
      rw [comm vs m, List.set_set]
theorem b_name {K : PySem.W.Frag} {vs : List Nat} (m : i ∈ vs) : BindG K B vs (gName i) Γ d (Γ.set i (.d d)) := fun σ F H v w r R h => h _ (w.set r) (wipe_set m)
theorem b_nil {K : PySem.W.Frag} {vs : List Nat} : BindGs K B vs gNil Γ [] Γ := fun σ F H us w r R h => by
  cases r
  exact ⟨rfl, h σ w rfl⟩
theorem b_cons {K : PySem.W.Frag} {vs : List Nat} {g : TG} {t : TGs} {ds : List D} {Γ2 : Env} (h1 : BindG K B vs g Γ d Γ1) (h2 : BindGs K B vs t Γ1 ds Γ2) : BindGs K B vs (gCons g t) Γ (d :: ds) Γ2 := fun σ F H us w r R h => by
  cases r with
  | cons r1 r2 => exact ⟨_, _, rfl, h1 σ F H _ w r1 _ fun σ1 w1 e1 => h2 σ1 F H _ w1 r2 R fun σ2 w2 e2 => h σ2 w2 (e2.trans e1)⟩
theorem b_tup {K : PySem.W.Frag} {vs : List Nat} {n : Nat} {t : TGs} {ds : List D} (h : BindGs K B vs t Γ ds Γ') (l : ds.length = n := by rfl) : BindG K B vs (gTup K n t) Γ (.tup ds) Γ' := fun σ F H v w r R q => by
  cases r with
  | tup h1 r1 => exact ⟨_, _, rfl, toft (w.fh _ _ h1), by rw [r1.length, l], h σ F H _ w r1 R q⟩
/-! what is walked: the items as trees -/
def TreeIt (K : PySem.W.Frag) (J : It) (F0 : Hp) (ds : List D) : Prop := ∃ (G : Hp → Prop) (Y : Nat → Hp → V → Hp → Prop), Walk J ds.length G Y ∧ (∀ F H, Same F0 F → Same F H → G H) ∧
  ∀ i F H v H' d, Same F0 F → Same F H → ds[i]? = some d → Y i H v H' → ∃ F', Gr F H F' H' ∧ Same F' H' ∧ Rep K F' v d
def tIt (K : PySem.W.Frag) (B : Hp × Hp) (Γ : Env) (ds : List D) : TI := fun σ H R => ∃ F, Wd K B F H σ Γ ∧ ∀ J F' H', Wd K B F' H' σ Γ → Gr F H F' H' → TreeIt K J F' ds → R J H'
theorem PI.weak {tg : Expr} {t t' : TI} (h : PI X tg e t) (w : ∀ σ H R, t' σ H R → t σ H R) : PI X tg e t' := ⟨fun pins s σ H R I q => h.run pins s σ H R I (w _ _ _ q)⟩
abbrev OkI (X : Cx) (B : Hp × Hp) (tg e : Expr) (Γ : Env) (ds : List D) : Prop := PI X tg e (tIt X.K B Γ ds)
theorem i_list {tg : Expr} {ds : List D} (h : Ok X B e Γ (.lst ds)) : OkI X B tg e Γ ds := PI.weak (pi_list h) fun σ H R ⟨F, w, k⟩ => ⟨F, w, fun v F1 H1 w1 g1 r1 => by
  cases r1 with
  | @lst a us _ h1 r1 =>
    refine ⟨a, rfl, ⟨us, tofl (w1.fh _ _ h1)⟩, k _ F1 H1 w1 g1 ⟨_, _, by rw [← r1.length]; exact walk_list (K := X.K) (a := a) (xs := us), fun F H s fh => tofl (fh _ _ (s _ _ h1)), fun i F H v H' d s fh hd y => ?_⟩⟩
    obtain ⟨rfl, hx⟩ := y
    obtain ⟨d', hd', rx⟩ := r1.atV hx
    rw [hd] at hd'
    cases hd'
    exact ⟨F, Gr.refl _ _, fh, rx.mono s⟩⟩
theorem i_tup {tg : Expr} {ds : List D} (h : Ok X B e Γ (.tup ds)) : OkI X B tg e Γ ds := PI.weak (pi_tup h) fun σ H R ⟨F, w, k⟩ => ⟨F, w, fun v F1 H1 w1 g1 r1 => by
  cases r1 with
  | @tup a us _ h1 r1 =>
    refine ⟨a, rfl, ⟨us, toft (w1.fh _ _ h1)⟩, k _ F1 H1 w1 g1 ⟨_, _, by rw [← r1.length]; exact walk_tup (K := X.K) (a := a) (xs := us), fun F H s fh => toft (fh _ _ (s _ _ h1)), fun i F H v H' d s fh hd y => ?_⟩⟩
    obtain ⟨rfl, hx⟩ := y
    obtain ⟨d', hd', rx⟩ := r1.atV hx
    rw [hd] at hd'
    cases hd'
    exact ⟨F, Gr.refl _ _, fh, rx.mono s⟩⟩
theorem i_str {tg : Expr} {u : List Nat} (h : Ok X B e Γ (.tx u)) : OkI X B tg e Γ (u.map fun c => .tx [c]) := PI.weak (pi_str h) fun σ H R ⟨F, w, k⟩ => ⟨F, w, fun v F1 H1 w1 g1 r1 => by
  cases r1
  have eu : (S u).cps.size = u.length := by rw [← Array.length_toList, cpsS]
  refine ⟨S u, rfl, k _ F1 H1 w1 g1 ⟨_, _, by rw [List.length_map, ← eu]; exact walk_str (z := S u), fun F H s fh => True.intro, fun i F H v H' d s fh hd y => ?_⟩⟩
  obtain ⟨rfl, c, hc, rfl⟩ := y
  have hc' : u[i]? = some c := by
    rw [← Array.getElem?_toList, cpsS] at hc
    exact hc
  rw [List.getElem?_map, hc'] at hd
  cases hd
  exact ⟨F, Gr.refl _ _, fh, .str _⟩⟩
theorem i_range1 {tg : Expr} {n : Nat} {i : Int} (ho : ∀ {t : TA}, PA X es t → PI X tg e (iRng1 t)) (h : OkA X B es Γ [.int i]) (hn : i.toNat = n) (l : -(2 ^ 62) ≤ i ∧ i < 2 ^ 62) : OkI X B tg e Γ ((List.range n).map fun k : Nat => .int (k : Int)) := PI.weak (ho h) fun σ H R ⟨F, w, k⟩ => ⟨F, w, fun vs F1 H1 w1 g1 r1 => by
  cases r1 with
  | cons r1 r2 =>
    cases r2
    cases r1
    refine ⟨i, rfl, l.1, l.2, k _ F1 H1 w1 g1 ⟨_, _, by rw [List.length_map, List.length_range, hn]; exact walk_range (lo := 0) (n := n), fun F H s fh => True.intro, fun j F H v H' d s fh hd y => ?_⟩⟩
    obtain ⟨rfl, rfl⟩ := y
    rw [List.getElem?_map] at hd
    cases e : (List.range n)[j]? with
    | none => rw [e] at hd; cases hd
    | some m =>
      rw [e] at hd
      cases hd
      have em : m = j := by
        obtain ⟨h1, h2⟩ := List.getElem?_eq_some_iff.mp e
        rw [List.getElem_range] at h2
        exact h2.symm
      subst em
      refine ⟨F, Gr.refl _ _, fh, ?_⟩
      show Rep X.K F (.int (0 + (m : Int))) (.int (m : Int))
      rw [Int.zero_add]
      exact .int _⟩
theorem i_range2 {tg : Expr} {n : Nat} {i j : Int} (ho : ∀ {t : TA}, PA X es t → PI X tg e (iRng2 t)) (h : OkA X B es Γ [.int i, .int j]) (hn : (j - i).toNat = n) (l : -(2 ^ 62) ≤ i ∧ i < 2 ^ 62 ∧ -(2 ^ 62) ≤ j ∧ j < 2 ^ 62) : OkI X B tg e Γ ((List.range n).map fun k : Nat => .int (i + (k : Int))) := PI.weak (ho h) fun σ H R ⟨F, w, k⟩ => ⟨F, w, fun vs F1 H1 w1 g1 r1 => by
  cases r1 with
  | cons r1 r2 =>
    cases r2 with
    | cons r2 r3 =>
      cases r3
      cases r1
      cases r2
      refine ⟨i, j, rfl, l, k _ F1 H1 w1 g1 ⟨_, _, by rw [List.length_map, List.length_range, hn]; exact walk_range (lo := i) (n := n), fun F H s fh => True.intro, fun j F H v H' d s fh hd y => ?_⟩⟩
      obtain ⟨rfl, rfl⟩ := y
      rw [List.getElem?_map] at hd
      cases e : (List.range n)[j]? with
      | none => rw [e] at hd; cases hd
      | some m =>
        rw [e] at hd
        cases hd
        have em : m = j := by
          obtain ⟨h1, h2⟩ := List.getElem?_eq_some_iff.mp e
          rw [List.getElem_range] at h2
          exact h2.symm
        subst em
        exact ⟨F, Gr.refl _ _, fh, .int _⟩⟩
/-! for over a list -/
theorem Wd.up {K : PySem.W.Frag} {F F1 H H1 : Hp} {σ σ1 : L2.St} (w : Wd K (F1, B.2) F H σ Γ) (w1 : Wd K B F1 H1 σ1 Γ1) : Wd K B F H σ Γ := ⟨w1.ff.trans w.ff, w.hh, w.fh, fun a o h1 h2 => w.ex a o h1 (w1.ex a o h1 h2), w.len, w.sl, w.dj⟩
theorem Wd.dn {K : PySem.W.Frag} {F H : Hp} {σ : L2.St} (w : Wd K B F H σ Γ) : Wd K (F, B.2) F H σ Γ := ⟨Same.refl _, w.hh, w.fh, fun _ _ _ h => h, w.len, w.sl, w.dj⟩
theorem Wb.up {K : PySem.W.Frag} {F F1 H H1 : Hp} {σ1 : L2.St} (w : Wb (F1, B.2) F H) (w1 : Wd K B F1 H1 σ1 Γ1) : Wb B F H := ⟨w1.ff.trans w.ff, w.hh, w.fh, fun a o h1 h2 => w.ex a o h1 (w1.ex a o h1 h2)⟩
def runF {α S : Type} (f : S → α → Sum D S) : S → List α → Sum D S
  | s, [] => .inr s
  | s, k :: ks => match f s k with
    | .inl d => .inl d
    | .inr s' => runF f s' ks
theorem runF_snoc {α S : Type} {f : S → α → Sum D S} {k : α} : ∀ {ks : List α} {s s' : S}, runF f s ks = .inr s' → runF f s (ks ++ [k]) = f s' k
  | [], s, s', h => by
    cases h
    show (match f s k with | .inl d => Sum.inl d | .inr s' => runF f s' []) = f s k
    cases f s k <;> rfl
  | a :: ks, s, s', h => by
    show (match f s a with | .inl d => Sum.inl d | .inr s' => runF f s' (ks ++ [k])) = f s' k
    have h : (match f s a with | .inl d => Sum.inl d | .inr s' => runF f s' ks) = .inr s' := h
    cases e : f s a with
    | inl d => rw [e] at h; cases h
    | inr t =>
      rw [e] at h
      exact runF_snoc h
theorem runF_stop {α S : Type} {f : S → α → Sum D S} {d : D} : ∀ {ks ls : List α} {s : S}, runF f s ks = .inl d → runF f s (ks ++ ls) = .inl d
  | [], _, _, h => by cases h
  | a :: ks, ls, s, h => by
    show (match f s a with | .inl d => Sum.inl d | .inr s' => runF f s' (ks ++ ls)) = .inl d
    have h : (match f s a with | .inl d => Sum.inl d | .inr s' => runF f s' ks) = .inl d := h
    cases e : f s a with
    | inl d' => rw [e] at h; exact h
    | inr t => rw [e] at h; exact runF_stop h
def outOf {S : Type} (env : S → Env) : Sum D S → Out
  | .inl d => .rt d
  | .inr s => .nx (env s)
theorem s_forR {α S : Type} {g : TG} {vs : List Nat} {body : List Stmt} {tg : Expr} (env : S → Env) (f : S → α → Sum D S) (ks : List α) (enc : α → D) (s0 : S) (bound : S → α → Env)
    (ho : ∀ {wi : TI} {tb : TS}, PI X tg e wi → PSs X body tb → PS X s (tFor wi g tb)) (hi : OkI X B tg e (env s0) (ks.map enc))
    (hg : ∀ (B : Hp × Hp) s k, k ∈ ks → BindG X.K B vs g (env s) (enc k) (bound s k)) (hb : ∀ (B : Hp × Hp) i k s, ks[i]? = some k → runF f s0 (ks.take i) = .inr s → OkSs X B body (bound s k) (outOf env (f s k))) :
    OkS X B s (env s0) (outOf env (runF f s0 ks)) := by
  have hall : PSs X body (fun D σ H => ∃ B : Hp × Hp, ∃ i : Nat, ∃ k : α, ∃ s : S, ∃ h : ks[i]? = some k ∧ runF f s0 (ks.take i) = .inr s, tSt X.K B (bound s k) (outOf env (f s k)) D σ H) :=
    PSs.exi fun B => PSs.exi fun i => PSs.exi fun k => PSs.exi fun s => PSs.exi fun h => hb B i k s h.1 h.2
  refine PS.weak (ho hi hall) fun D σ H ⟨F, w, k⟩ => ⟨F, w, fun J F1 H1 w1 g1 ⟨G, Y, wk, hG, hY⟩ => ?_⟩
  rw [List.length_map] at wk
  refine for_it wk (g := g) (tb := fun D σ H => ∃ B : Hp × Hp, ∃ i : Nat, ∃ k : α, ∃ s : S, ∃ h : ks[i]? = some k ∧ runF f s0 (ks.take i) = .inr s, tSt X.K B (bound s k) (outOf env (f s k)) D σ H) (D := D) (fun i σ H => ∃ F s, Wd X.K (F1, B.2) F H σ (env s) ∧ runF f s0 (ks.take i) = .inr s ∧ i ≤ ks.length) ⟨F1, s0, w1.dn, by rw [List.take_zero]; rfl, Nat.zero_le _⟩ (fun i σ H _ ⟨F, s, w, _⟩ => hG F H w.ff w.fh) ?_ ?_
  · rintro i x σ H H' hi ⟨F2, s, w2, hr, hl⟩ hy
    obtain ⟨k0, hk⟩ : ∃ k0, ks[i]? = some k0 := ⟨ks[i], List.getElem?_eq_getElem hi⟩
    obtain ⟨F3, g3, fh3, rx⟩ := hY i F2 H x H' (enc k0) w2.ff w2.fh (by rw [List.getElem?_map, hk]; rfl) hy
    have w3 := w2.gr g3 fh3
    have tk : ks.take (i + 1) = ks.take i ++ [k0] := by rw [List.take_add_one, hk]; rfl
    refine hg (F1, B.2) s k0 (List.mem_of_getElem? hk) σ F3 H' x w3 rx _ fun σ3 w4 _ => ⟨(F1, B.2), i, k0, s, ⟨hk, hr⟩, F3, w4, ?_⟩
    have e2 := runF_snoc (k := k0) hr
    rw [← tk] at e2
    cases e : f s k0 with
    | inl d =>
      rw [e] at e2
      have e3 : runF f s0 ks = .inl d := by
        have := runF_stop (ls := ks.drop (i + 1)) e2
        rwa [List.take_append_drop] at this
      rw [e3] at k
      intro v F' H' wb r
      exact k v F' H' (wb.up w1) r
    | inr s' =>
      rw [e] at e2
      intro σ' F' H' w'
      exact ⟨F', s', w', e2, hi⟩
  · rintro σ H ⟨F2, s, w2, hr, hl⟩
    rw [List.take_of_length_le (Nat.le_refl _)] at hr
    rw [hr] at k
    exact k σ F2 H (w2.up w1)
theorem runF_fold {α S : Type} {step : S → α → S} : ∀ {ks : List α} {s : S}, runF (fun s k => .inr (step s k)) s ks = .inr (ks.foldl step s)
  | [], _ => rfl
  | k :: ks, s => runF_fold (ks := ks) (s := step s k)
theorem s_for {α S : Type} {g : TG} {vs : List Nat} {body : List Stmt} {tg : Expr} (env : S → Env) (step : S → α → S) (ks : List α) (enc : α → D) (s0 : S) (bound : S → α → Env)
    (ho : ∀ {wi : TI} {tb : TS}, PI X tg e wi → PSs X body tb → PS X s (tFor wi g tb)) (hi : OkI X B tg e (env s0) (ks.map enc))
    (hg : ∀ (B : Hp × Hp) s k, k ∈ ks → BindG X.K B vs g (env s) (enc k) (bound s k)) (hb : ∀ (B : Hp × Hp) i k s, ks[i]? = some k → s = (ks.take i).foldl step s0 → OkSs X B body (bound s k) (.nx (env (step s k)))) :
    OkS X B s (env s0) (.nx (env (ks.foldl step s0))) := by
  have h := s_forR (vs := vs) env (fun s k => .inr (step s k)) ks enc s0 bound ho hi hg fun B i k s h1 h2 => hb B i k s h1 (by rw [runF_fold] at h2; exact (Sum.inr.inj h2).symm)
  rw [runF_fold] at h
  exact h
theorem runF_any {α : Type} {c : α → Bool} {d : D} : ∀ {ks : List α}, runF (fun (s : Unit) k => bif c k then .inl d else .inr s) () ks = bif ks.any c then .inl d else .inr ()
  | [] => rfl
  | k :: ks => by
    rw [List.any_cons]
    have ih := runF_any (c := c) (d := d) (ks := ks)
    cases h : c k with
    | true => simp only [runF, h, cond_true, Bool.true_or]
    | false =>
      simp only [runF, h, cond_false, Bool.false_or]
      exact ih
/-- for ..: if c: return d; then the rest -/
theorem s_forAny {α : Type} {g : TG} {vs : List Nat} {body : List Stmt} {tg : Expr} (c : α → Bool) (ks : List α) (enc : α → D) (bound : α → Env)
    (ho : ∀ {wi : TI} {tb : TS}, PI X tg e wi → PSs X body tb → PS X s (tFor wi g tb)) (hi : OkI X B tg e Γ (ks.map enc))
    (hg : ∀ (B : Hp × Hp) k, k ∈ ks → BindG X.K B vs g Γ (enc k) (bound k)) (hb : ∀ (B : Hp × Hp) k, k ∈ ks → OkSs X B body (bound k) (bif c k then .rt d else .nx Γ))
    (hr : ks.any c = false → OkSs X B r Γ ou) : OkSs X B (s :: r) Γ (bif ks.any c then .rt d else ou) := by
  have h := s_forR (S := Unit) (vs := vs) (fun _ => Γ) (fun s k => bif c k then .inl d else .inr s) ks enc () (fun _ k => bound k) ho hi (fun B _ k m => hg B k m) fun B i k s h1 h2 => by
    have q := hb B k (List.mem_of_getElem? h1)
    cases e : c k with
    | true => rw [e] at q; exact q
    | false => rw [e] at q; exact q
  rw [runF_any] at h
  cases e : ks.any c with
  | true =>
    rw [e] at h
    exact PSs.weak (pss_cons h (PSs.when (p := False) (t := fun _ _ _ => False) fun z => z.elim)) fun D σ H ⟨F, w, k⟩ => ⟨F, w, k⟩
  | false =>
    rw [e] at h
    exact s_cons h (hr e)
/-! comprehensions over a list -/
theorem le_of_bind {K : PySem.W.Frag} {F H : Hp} {σ : L2.St} (vs : List Nat) (w : Wd K B F H σ Γ) (hG : Γ' = vs.foldr (fun i Γ => Γ.set i .no) Γ) : Wd K B F H (wipe σ vs) Γ' := by
  subst hG
  induction vs with
  | nil => exact w
  | cons v vs ih =>
    unfold wipe
    rw [List.foldr_cons]
    generalize wipe σ vs = σ1 at ih
    generalize vs.foldr (fun i Γ => Γ.set i .no) Γ = Γ1 at ih
    refine ⟨ih.ff, ih.hh, ih.fh, ih.ex, by rw [List.length_set, List.length_set, ih.len], fun j o s h1 h2 => ?_, fun j k p xs ys ne h1 h2 h3 h4 => ?_⟩
    · rw [List.getElem?_set] at h1 h2
      by_cases e : v = j
      · rw [if_pos e] at h2
        split at h2
        · cases h2
          trivial
        · cases h2
      · rw [if_neg e] at h1 h2
        exact ih.sl j o s h1 h2
    · rw [List.getElem?_set] at h1 h2 h3 h4
      have nj : v ≠ j := fun e => by
        rw [if_pos e] at h3
        split at h3 <;> cases h3
      have nk : v ≠ k := fun e => by
        rw [if_pos e] at h4
        split at h4 <;> cases h4
      rw [if_neg nj] at h1 h3
      rw [if_neg nk] at h2 h4
      exact ih.dj j k p xs ys ne h1 h2 h3 h4
abbrev wiped (Γ : Env) (vs : List Nat) : Env := vs.foldr (fun i Γ => Γ.set i .no) Γ
def tEl (K : PySem.W.Frag) {α : Type} (ks : List α) (bound : α → Env) (f : α → D) : TE := fun σ H Q => ∃ B : Hp × Hp, ∃ k : α, ∃ m : k ∈ ks, tEv K B (bound k) (f k) σ H Q
def tElT (K : PySem.W.Frag) {α : Type} (ks : List α) (bound : α → Env) (p : α → Bool) : TT := fun σ H Q => ∃ B : Hp × Hp, ∃ k : α, ∃ m : k ∈ ks, tEvT K B (bound k) (p k) σ H Q
theorem pe_el {α : Type} {ks : List α} {bound : α → Env} {f : α → D} (h : ∀ (B : Hp × Hp) k, k ∈ ks → Ok X B e (bound k) (f k)) : PE X e (tEl X.K ks bound f) := PE.exi fun B => PE.exi fun k => PE.exi fun m => h B k m
theorem pt_el {α : Type} {ks : List α} {bound : α → Env} {f : α → Bool} (h : ∀ (B : Hp × Hp) k, k ∈ ks → OkT X B e (bound k) (f k)) : PT X e (tElT X.K ks bound f) := PT.exi fun B => PT.exi fun k => PT.exi fun m => h B k m
theorem wipe_wipe (vs : List Nat) (σ : L2.St) : wipe (wipe σ vs) vs = wipe σ vs := by
  have key : ∀ (us vs : List Nat) (σ : L2.St), (∀ u ∈ us, u ∈ vs) → wipe (wipe σ us) vs = wipe σ vs := fun us => by
    induction us with
    | nil => intro vs σ _; rfl
    | cons u us ih =>
      intro vs σ h
      rw [show wipe σ (u :: us) = (wipe σ us).set u none from rfl, wipe_set (h u List.mem_cons_self)]
      exact ih vs σ fun y m => h y (List.mem_cons_of_mem _ m)
  exact key vs vs σ fun _ m => m
theorem lc_read {K : PySem.W.Frag} {α : Type} {g : TG} {vs : List Nat} {tt : TT} (ks : List α) (enc : α → D) (bound : α → Env) (p : α → Bool) (f : α → D)
    (ht : ∀ (B : Hp × Hp) k σ H Q, k ∈ ks → tEvT K B (bound k) (p k) σ H Q → tt σ H Q)
    (hg : ∀ (B : Hp × Hp) k, k ∈ ks → BindG K B vs g (wiped Γ vs) (enc k) (bound k)) (few : ks.length ≤ 90000) : ∀ σ H Q, tEv K B Γ (.lst ((ks.filter p).map f)) σ H Q → tLc (tIt K B Γ (ks.map enc)) g tt (tEl K (ks.filter p) bound f) vs σ H Q := by
  intro σ H Q ⟨F, w, k⟩
  refine ⟨F, w, fun J F1 H1 w1 g1 ⟨G, Y, wk, hG, hY⟩ Dd nD => ?_⟩
  rw [List.length_map] at wk
  refine lc_it wk (fun i G => ∃ F2 acc, Wd K B F2 G σ Γ ∧ Gr F1 H1 F2 G ∧ F2 Dd = none ∧ G Dd = some (.lst acc) ∧ Reps K F2 acc (((ks.take i).filter p).map f) ∧ i ≤ ks.length) ⟨F1, [], ?_, ⟨Same.refl _, sup nD, fun _ _ _ e => e⟩, w1.fh.free nD, upd_same, by rw [List.take_zero]; exact .nil, Nat.zero_le _⟩ (fun i G _ ⟨F2, acc, w2, g2, _⟩ => hG F2 G g2.f w2.fh) ?_ ?_
  · exact w1.gr ⟨Same.refl _, sup nD, fun _ _ _ e => e⟩ (w1.fh.trans (sup nD))
  · rintro i x G G' hi ⟨F2, acc, w2, g2, nF, hD, rD, hl⟩ hy
    obtain ⟨k0, hk⟩ : ∃ k0, ks[i]? = some k0 := ⟨ks[i], List.getElem?_eq_getElem hi⟩
    obtain ⟨F3, g3, fh3, rx⟩ := hY i F2 G x G' (enc k0) g2.f w2.fh (by rw [List.getElem?_map, hk]; rfl) hy
    have mk := List.mem_of_getElem? hk
    have tk : ks.take (i + 1) = ks.take i ++ [k0] := by rw [List.take_add_one, hk]; rfl
    refine hg B k0 mk (wipe σ vs) F3 G' x (le_of_bind vs (w2.gr g3 fh3) rfl) rx _ fun σ3 w3 e3 => ⟨by rw [e3, wipe_wipe], ht B k0 σ3 G' _ mk ⟨F3, w3, fun F4 G4 w4 g4' => ?_⟩⟩
    have g4 := g3.trans g4'
    have wG : Wd K B F4 G4 σ Γ := w2.gr g4 w4.fh
    cases ep : p k0 with
    | true =>
      refine iteT ⟨B, k0, List.mem_filter.mpr ⟨mk, ep⟩, F4, w4, fun y F5 G5 w5 g5 r5 => ?_⟩
      have g45 := g4.trans g5
      have hD5 := g45.h _ _ hD
      have nF5 := g45.x _ _ hD nF
      refine ⟨acc, hD5, ?_, F5, acc ++ [y], ?_, ?_, nF5, upd_same, ?_, hi⟩
      · rw [rD.length, List.length_map]
        refine sz5' ?_
        have := List.length_filter_le p (ks.take i)
        rw [List.length_take] at this
        omega
      · have w5' := w2.gr g45 w5.fh
        refine ⟨w5'.ff, ?_, ?_, w5'.ex, w5'.len, fun j o s q1 q2 => ?_, w5'.dj⟩
        · intro b o q
          have hb1 := w1.hh _ _ q
          rw [upd_ne (ne_of_none hb1 nD)]
          exact w5'.hh _ _ q
        · intro b o q
          rw [upd_ne (fun y => by rw [y, nF5] at q; cases q)]
          exact w5'.fh _ _ q
        · have q := w5'.sl j o s q1 q2
          cases s with
          | no => trivial
          | d x => exact q
          | own xs =>
            obtain ⟨p1, vs1, e1, a1, a2, a3, a4⟩ := q
            have q1' := w1.sl j o (.own xs) q1 q2
            obtain ⟨p2, vs2, e2, b1, b2, b3, b4⟩ := q1'
            rw [e1] at e2
            cases e2
            exact ⟨p1, vs1, e1, a1, a2, by rw [upd_ne (ne_of_none b3 nD)]; exact a3, a4⟩
      · have gg := g2.trans g45
        refine ⟨gg.f, fun b o q => ?_, gg.x⟩
        rw [upd_ne (ne_of_none q nD)]
        exact gg.h _ _ q
      · rw [tk, List.filter_append, List.map_append]
        have e1 : [k0].filter p = [k0] := by rw [List.filter_cons, ep]; rfl
        rw [e1]
        exact (rD.mono g45.f).append (.cons r5 .nil)
    | false =>
      refine iteF ⟨F4, acc, wG, g2.trans g4, g4.x _ _ hD nF, g4.h _ _ hD, ?_, hi⟩
      rw [tk, List.filter_append]
      have e1 : [k0].filter p = [] := by rw [List.filter_cons, ep]; rfl
      rw [e1, List.append_nil]
      exact rD.mono g4.f
  · rintro G ⟨F2, acc, w2, g2, nF, hD, rD, hl⟩
    rw [List.take_of_length_le (Nat.le_refl _)] at rD
    have sF := sup (o := .lst acc) nF
    have gf : Gr F1 H1 (upd F2 Dd (.lst acc)) G := ⟨g2.f.trans sF, g2.h, fun b o q n => by rw [upd_ne (ne_of_none q nD)]; exact g2.x b o q n⟩
    refine k _ _ _ (w1.gr gf fun b o q => ?_) (g1.trans gf) (.lst upd_same (rD.mono sF))
    by_cases y : b = Dd
    · subst y
      rw [upd_same] at q
      rw [← q]
      exact hD
    · rw [upd_ne y] at q
      exact w2.fh _ _ q
theorem t_lcIf {α : Type} {g : TG} {vs : List Nat} {tt : TT} {it tg : Expr} (ks : List α) (enc : α → D) (bound : α → Env) (p : α → Bool) (f : α → D)
    (ho : ∀ {wi : TI}, PI X tg it wi → PE X e (tLc wi g tt (tEl X.K (ks.filter p) bound f) vs)) (hi : OkI X B tg it Γ (ks.map enc))
    (ht : ∀ (B : Hp × Hp) k σ H Q, k ∈ ks → tEvT X.K B (bound k) (p k) σ H Q → tt σ H Q)
    (hg : ∀ (B : Hp × Hp) k, k ∈ ks → BindG X.K B vs g (wiped Γ vs) (enc k) (bound k)) (few : ks.length ≤ 90000) : Ok X B e Γ (.lst ((ks.filter p).map f)) := PE.weak (ho hi) (lc_read ks enc bound p f ht hg few)
theorem filter_all {α : Type} : ∀ ks : List α, ks.filter (fun _ => true) = ks
  | [] => rfl
  | k :: ks => by rw [List.filter_cons, if_pos rfl, filter_all ks]
theorem t_lc {α : Type} {g : TG} {vs : List Nat} {it tg : Expr} (ks : List α) (enc : α → D) (bound : α → Env) (f : α → D)
    (ho : ∀ {wi : TI}, PI X tg it wi → PE X e (tLc wi g tYes (tEl X.K ks bound f) vs)) (hi : OkI X B tg it Γ (ks.map enc))
    (hg : ∀ (B : Hp × Hp) k, k ∈ ks → BindG X.K B vs g (wiped Γ vs) (enc k) (bound k)) (few : ks.length ≤ 90000) : Ok X B e Γ (.lst (ks.map f)) := by
  have h := t_lcIf (tt := tYes) (Γ := Γ) ks enc bound (fun _ => true) f (by rw [filter_all]; exact ho) hi (fun B k σ H Q _ ⟨F, w, q⟩ => q F H w (Gr.refl _ _)) hg few
  rw [filter_all] at h
  exact h
/-- name = [..] -/
theorem s_setLc {α : Type} {g : TG} {vs : List Nat} {it tg : Expr} (ks : List α) (enc : α → D) (bound : α → Env) (f : α → D)
    (ho : ∀ {wi : TI}, PI X tg it wi → PS X s (tAsg (tLc wi g tYes (tEl X.K ks bound f) vs) (gName i))) (hi : OkI X B tg it Γ (ks.map enc))
    (hg : ∀ (B : Hp × Hp) k, k ∈ ks → BindG X.K B vs g (wiped Γ vs) (enc k) (bound k)) (few : ks.length ≤ 90000) : OkS X B s Γ (.nx (Γ.set i (.d (.lst (ks.map f))))) :=
  PS.weak (ho hi) fun D σ H ⟨F, w, k⟩ => by
    have h := lc_read (K := X.K) (B := B) (Γ := Γ) (g := g) (vs := vs) (tt := tYes) ks enc bound (fun _ => true) f (fun B k σ H Q _ ⟨F, w, q⟩ => q F H w (Gr.refl _ _)) hg few σ H (fun x H1 => gName i x σ H1 D.nx)
    rw [filter_all] at h
    exact h ⟨F, w, fun v F' H' w' g r => k _ F' H' (w'.set r)⟩
/-! a def -/
theorem wd_start {K : PySem.W.Frag} {F H : Hp} {vs : List V} {ds : List D} {N : List Str} (fh : Same F H) (r : Reps K F vs ds) (l : vs.length ≤ N.length) : Wd K (F, H) F H (L2.start N vs) (ds.map Sl.d ++ List.replicate (N.length - ds.length) .no) := by
  refine ⟨Same.refl _, Same.refl _, fh, fun _ _ _ h => h, by unfold L2.start; rw [List.length_append, List.length_append, List.length_map, List.length_map, List.length_replicate, List.length_replicate, r.length], fun j o s h1 h2 => ?_, fun j k p xs ys ne h1 h2 h3 h4 => ?_⟩
  · unfold L2.start at h1
    by_cases lj : j < ds.length
    · rw [List.getElem?_append_left (by rw [List.length_map]; exact lj), List.getElem?_map] at h2
      rw [List.getElem?_append_left (by rw [List.length_map, r.length]; exact lj), List.getElem?_map] at h1
      cases e : ds[j]? with
      | none => rw [e] at h2; cases h2
      | some d =>
        rw [e] at h2
        cases h2
        obtain ⟨v, ev, rv⟩ := r.at e
        rw [ev] at h1
        cases h1
        exact ⟨v, rfl, rv⟩
    · rw [List.getElem?_append_right (by rw [List.length_map]; omega), List.getElem?_replicate] at h2
      split at h2
      · cases h2
        trivial
      · cases h2
  · by_cases lj : j < ds.length
    · rw [List.getElem?_append_left (by rw [List.length_map]; exact lj), List.getElem?_map] at h3
      cases e : ds[j]? with
      | none => rw [e] at h3; cases h3
      | some d => rw [e] at h3; cases h3
    · rw [List.getElem?_append_right (by rw [List.length_map]; omega), List.getElem?_replicate] at h3
      split at h3 <;> cases h3
theorem tree_wish {K : PySem.W.Frag} {N : List Str} {ds : List D} {d : D} {vs : List V} {H : Hp} {Q : VK} {E : XK} (h : spT K ds d vs H Q E) (l : ds.length ≤ N.length) : ∃ B : Hp × Hp, tSt K B (ds.map Sl.d ++ List.replicate (N.length - ds.length) .no) (.rt d) { nx := fun _ H' => Q .non H', rt := Q } (L2.start N vs) H := by
  obtain ⟨F, fh, r, k⟩ := h
  exact ⟨(F, H), F, wd_start fh r (by rw [r.length]; exact l), fun v F' H' w rv => k v F' H' ⟨w.ff, w.hh, w.ex⟩ w.fh rv⟩
end
end Tr
namespace Pm
open PySem PySem.Spec PyProof.Rows L2 SX
/-! ### sorted of triples (int, int, text), no two of them with the same ints -/
/-- v is a tuple of the ints i, j and a text -/
def IsTrip (h : Heap) (v : Value) (i j : Int) (z : Str) : Prop := ∃ a o t u y n, v = .ref a ∧ h.get? a = some o ∧ o.cls = .type "tuple" ∧ o.data = .seq #[.int i t, .int j u, .str z y] n
theorem IsTrip.keeps {h h' : Heap} {v : Value} {i j : Int} {z : Str} (p : IsTrip h v i j z) (k : ∀ b o, h.get? b = some o → o.cls = .type "tuple" → h'.get? b = some o) : IsTrip h' v i j z := by
  obtain ⟨a, o, t, u, y, n, e, ho, hc, hd⟩ := p
  exact ⟨a, o, t, u, y, n, e, k _ _ ho hc, hc, hd⟩
section
variable {prog : Program} {w : World} {A : Around} {E : Value → Shared → Prop} {s : Shared}
theorem trip_cmp {vs : List Value} {k : Value → Int × Int} {tx : Value → Str} (hp : ∀ v ∈ vs, IsTrip s.heap v (k v).1 (k v).2 (tx v)) (hd : ∀ v ∈ vs, ∀ u ∈ vs, k v = k u → v = u) :
    SrtO.Cmp prog w A s (tuples' true) (fun p => p.1 ∈ vs) (SrtO.lt2 fun v u => SrtO.lexB (k v) (k u)) := by
  intro p q hm hm'
  have h1 := hp _ hm
  have h2 := hp _ hm'
  have same : (k p.1).1 = (k q.1).1 → (k p.1).2 = (k q.1).2 → tx p.1 = tx q.1 := fun a b => by rw [hd _ hm _ hm' (Prod.ext a b)]
  show wpAny (model prog w) A (keyLt' (tuples' true) p.1 q.1) (fun r s' => s' = s ∧ r = SrtO.lexB (k p.1) (k q.1)) (fun _ _ => False) s
  unfold SrtO.lexB
  generalize (k p.1).1 = x at h1 same ⊢
  generalize (k p.1).2 = y at h1 same ⊢
  generalize (k q.1).1 = x' at h2 same ⊢
  generalize (k q.1).2 = y' at h2 same ⊢
  generalize tx p.1 = z at h1 same
  generalize tx q.1 = z' at h2 same
  obtain ⟨a, o, t, u, y0, n, e, ho, hc, hd⟩ := h1
  obtain ⟨a', o', t', u', y0', n', e', ho', hc', hd'⟩ := h2
  rw [e, e']
  refine PySem.W.kat_lt ho hd ho' hd' ?_
  show PySem.W.KatLex prog w A true (decide (3 < 3)) _ [(.int x t, .int x' t'), (.int y u, .int y' u'), (.str z y0, .str z' y0')] 0 s
  refine PySem.W.kat_cons (SeqAt.EqAt.int_int x t x' t' prog w _ _ ?_)
  refine PySem.W.kat_go (fun e1 => ?_) (fun e1 => ?_)
  · have ex : x = x' := by simpa using e1
    refine PySem.W.kat_yes (PySem.W.kat_cons (SeqAt.EqAt.int_int y u y' u' prog w _ _ ?_))
    refine PySem.W.kat_go (fun e2 => ?_) (fun e2 => ?_)
    · have ey : y = y' := by simpa using e2
      have ez : z = z' := same ex ey
      have e3 : (if x = x' then decide (y < y') else decide (x < x')) = false := by
        rw [if_pos ex, ey]
        exact decide_eq_false (Int.lt_irrefl _)
      refine PySem.W.kat_yes (PySem.W.kat_cons (SeqAt.EqAt.str_str z y0 z' y0' prog w _ _ ?_))
      refine PySem.W.kat_go (fun _ => ?_) (fun e4 => ?_)
      · exact PySem.W.kat_yes (PySem.W.kat_nil ⟨rfl, e3.symm⟩)
      · rw [ez] at e4
        simp at e4
    · have e3 : (if x = x' then decide (y < y') else decide (x < x')) = decide (y < y') := if_pos ex
      refine PySem.W.kat_no (PySem.W.kat_one _ _ (PyProof.Rows.lt_int ?_))
      exact (show s = s ∧ decide (y < y') = (if x = x' then decide (y < y') else decide (x < x')) from ⟨rfl, e3.symm⟩)
  · have ex : ¬ x = x' := by simpa using e1
    have e3 : (if x = x' then decide (y < y') else decide (x < x')) = decide (x < x') := if_neg ex
    exact PySem.W.kat_no (oneLt_int ⟨rfl, e3.symm⟩)
theorem firsts3 {h : Heap} : ∀ {vs : List Value}, (∀ v ∈ vs, ∃ x y z, IsTrip h v x y z) → ∃ fs : List Value, PySem.W.KatTups h vs fs ∧ fs.length = vs.length ∧ ∀ f ∈ fs, ∃ x t, f = Value.int x t
  | [], _ => ⟨[], PySem.W.KatTups.nil, rfl, fun _ hm => by simp at hm⟩
  | v :: vs, hp => by
    obtain ⟨fs, h1, h2, h3⟩ := firsts3 (vs := vs) fun v' hm => hp v' (List.mem_cons_of_mem _ hm)
    obtain ⟨x, y, z, a, o, t, u, y0, n, e, ho, hc, hd⟩ := hp v (List.mem_cons_self ..)
    subst e
    refine ⟨.int x t :: fs, PySem.W.KatTups.cons ho hc hd rfl h1, by rw [List.length_cons, List.length_cons, h2], fun f hm => ?_⟩
    rcases List.mem_cons.mp hm with rfl | hm
    · exact ⟨x, t, rfl⟩
    · exact h3 f hm
theorem trips_sortable {a : Addr} {vs : List Value} {k : Value → Int × Int} {tx : Value → Str} (h0 : 0 < vs.length) (hp : ∀ v ∈ vs, IsTrip s.heap v (k v).1 (k v).2 (tx v)) (hd : ∀ v ∈ vs, ∀ u ∈ vs, k v = k u → v = u)
    (ha : ∀ o, s.heap.get? a = some o → o.cls ≠ .type "tuple") : SrtO.SortableO prog w A s a vs fun v u => SrtO.lexB (k v) (k u) := by
  intro h' keep
  have hp' : ∀ v ∈ vs, IsTrip h' v (k v).1 (k v).2 (tx v) := fun v hm => (hp v hm).keeps fun b o e c => keep b o (fun z => by subst z; exact ha o e c) e
  obtain ⟨fs, h1, h2, h3⟩ := firsts3 fun v hm => ⟨_, _, _, hp' v hm⟩
  refine ⟨tuples' true, fun Q E hq => ?_, trip_cmp hp' hd⟩
  refine PySem.W.kat_kind (T := .type "int") h1 (by omega) (fun f hm => ?_) (by rfl) ?_
  · obtain ⟨x, t, rfl⟩ := h3 f hm
    exact PySem.W.Looks.now
  · have e : (Value.type "int" != Value.type "tuple") = true := by first | decide +kernel | rfl | decide
    rw [e]
    exact hq
theorem sorted_trips {l : Addr} {vs : List Value} {k : Value → Int × Int} {tx : Value → Str} {Q : Value → Shared → Prop} (hl : s.heap.IsList l vs.toArray) (hz : vs.length ≤ sizeLine) (hp : ∀ v ∈ vs, IsTrip s.heap v (k v).1 (k v).2 (tx v)) (hd : ∀ v ∈ vs, ∀ u ∈ vs, k v = k u → v = u)
    (h : ∀ (h' : Heap) (d : Addr) (out : List Value), SrtO.Srtd (fun v u => SrtO.lexB (k v) (k u)) out → SrtO.Stb (fun v u => SrtO.lexB (k v) (k u)) out vs → (∀ b o, s.heap.get? b = some o → h'.get? b = some o) → s.heap.objs.size ≤ d → (∃ n, h'.get? d = some (seqObj "list" out.toArray n)) → Q (.ref d) { s with heap := h' }) :
    wpAny (model prog w) A (call (.builtin "sorted") [.ref l]) Q E s := by
  refine SrtO.sorted_ord (SrtO.swo_lex k) hl hz (fun h2 h₁ a ha kk => ?_) fun out hs hb => ?_
  · refine trips_sortable (s := { s with heap := h₁ }) (tx := tx) (by omega) (fun v hm => (hp v hm).keeps fun b o e _ => (kk b o e).2) hd fun o e => ?_
    have e' : some o = some (seqObj "list" vs.toArray 0) := e.symm.trans ha
    cases e'
    intro c
    exact absurd (Value.type.inj c) (by decide)
  · exact h _ _ out hs hb (fun b o e => sortedAll_old e) (Nat.le_succ _) (sortedAll_at s.heap vs out.toArray)
end
/-- sorted(xs), xs a list of triples at the addresses of L, each with its ints and its text; no two with the same ints -/
abbrev Trip := Addr × (Int × Int) × Str
def TripO (p : Trip) : HO := .tup [.int p.2.1.1, .int p.2.1.2, .str p.2.2]
def rSortedTr (K : PySem.W.Frag) : List V → Hp → VK → Prop := fun vs H Q => ∃ (a : Addr) (L : List Trip), vs = [V.ref a] ∧ SqL K H a (L.map fun p => V.ref p.1) ∧ (∀ p ∈ L, H p.1 = some (TripO p)) ∧ (L.map fun p => p.2.1).Nodup ∧
  ∀ (M : List Trip) (d : Addr), M.Perm L → M.Pairwise (fun p q => SrtO.lexB q.2.1 p.2.1 = false) → H d = none → Q (.ref d) (upd H d (.lst (M.map fun p => V.ref p.1)))
theorem vals_refs : ∀ {L : List Trip} {us : List Value}, Vals (L.map fun p => V.ref p.1) us → us = L.map fun p => Value.ref p.1
  | [], _, .nil => rfl
  | p :: L, _, .cons r t => by
    have e := vals_refs t
    cases r
    rw [e]
    rfl
theorem cr_sortedTr {X : Cx} : CallR X (.builtin "sorted") (rSortedTr X.K) := by
  intro pins s σ H vs us Q I r h
  obtain ⟨a, L, rfl, hs, hx, nd, q⟩ := h
  obtain ⟨its, rv, hl, hz⟩ := I.list hs
  obtain ⟨u, rfl, ru⟩ := vals1 r
  obtain rfl : u = Value.ref a := ru
  -- what stands behind an address
  let find : Value → Option Trip := fun v => L.find? fun p => Value.ref p.1 == v
  let k : Value → Int × Int := fun v => ((find v).map (·.2.1)).getD (0, 0)
  let tx : Value → Str := fun v => ((find v).map (·.2.2)).getD Str.empty
  have addr : ∀ p ∈ L, ∀ p' ∈ L, p.1 = p'.1 → p = p' := fun p hp p' hp' e => by
    have h1 := hx p hp
    rw [e, hx p' hp'] at h1
    obtain ⟨p1, ⟨pi, pj⟩, pz⟩ := p
    obtain ⟨p1', ⟨pi', pj'⟩, pz'⟩ := p'
    have e : p1 = p1' := e
    subst e
    unfold TripO at h1
    simp only [Option.some.injEq, HO.tup.injEq, List.cons.injEq, V.int.injEq, V.str.injEq, and_true] at h1
    obtain ⟨a, b, c⟩ := h1
    rw [a, b, c]
  have found : ∀ p ∈ L, find (.ref p.1) = some p := fun p hp => by
    show L.find? _ = _
    cases e : L.find? (fun q => Value.ref q.1 == Value.ref p.1) with
    | none =>
      rw [List.find?_eq_none] at e
      exact absurd (beq_self_eq_true _) (e p hp)
    | some q =>
      have m := List.mem_of_find?_eq_some e
      have y := List.find?_some e
      have y : q.1 = p.1 := by simpa using y
      rw [addr q m p hp y]
  have kof : ∀ p ∈ L, k (.ref p.1) = p.2.1 := fun p hp => by
    show ((find (.ref p.1)).map (·.2.1)).getD (0, 0) = _
    rw [found p hp]
    rfl
  have txof : ∀ p ∈ L, tx (.ref p.1) = p.2.2 := fun p hp => by
    show ((find (.ref p.1)).map (·.2.2)).getD Str.empty = _
    rw [found p hp]
    rfl
  have eits : its = L.map fun p => Value.ref p.1 := vals_refs rv
  have inits : ∀ v ∈ its, ∃ p ∈ L, v = Value.ref p.1 := fun v hv => by
    rw [eits] at hv
    obtain ⟨p, hp, e⟩ := List.mem_map.mp hv
    exact ⟨p, hp, e.symm⟩
  refine sorted_trips (k := k) (tx := tx) hl.isList (by rw [← rv.length]; exact hz) (fun v hv => ?_) (fun v hv u hu e => ?_) fun h' d out h1 h2 kp hd hn => ?_
  · obtain ⟨p, hp, rfl⟩ := inits v hv
    rw [kof p hp, txof p hp]
    obtain ⟨_, its2, r2, o, ho, hc, n, hd⟩ := I.hok _ _ (hx p hp)
    match its2, r2, hd with
    | _, .cons ri (.cons rj (.cons rz .nil)), hd =>
      obtain ⟨t1, rfl⟩ := ri
      obtain ⟨t2, rfl⟩ := rj
      obtain ⟨t3, rfl⟩ := rz
      exact ⟨p.1, o, t1, t2, t3, n, rfl, ho, hc, hd⟩
  · obtain ⟨p, hp, rfl⟩ := inits v hv
    obtain ⟨p', hp', rfl⟩ := inits u hu
    rw [kof p hp, kof p' hp'] at e
    obtain ⟨i, hi⟩ := List.mem_iff_getElem?.mp hp
    obtain ⟨j, hj⟩ := List.mem_iff_getElem?.mp hp'
    obtain ⟨hi1, hi2⟩ := List.getElem?_eq_some_iff.mp hi
    obtain ⟨hj1, hj2⟩ := List.getElem?_eq_some_iff.mp hj
    have nd2 := List.pairwise_iff_getElem.mp nd
    have ij : i = j := by
      rcases Nat.lt_trichotomy i j with c | c | c
      · exact absurd (by rw [List.getElem_map, List.getElem_map, hi2, hj2, e]) (nd2 i j (by simpa using hi1) (by simpa using hj1) c)
      · exact c
      · exact absurd (by rw [List.getElem_map, List.getElem_map, hi2, hj2, e]) (nd2 j i (by simpa using hj1) (by simpa using hi1) c)
    subst ij
    rw [hi] at hj
    cases hj
    rfl
  · obtain ⟨n, hn⟩ := hn
    let g : Value → Trip := fun v => (find v).getD (0, (0, 0), Str.empty)
    have gof : ∀ p ∈ L, g (.ref p.1) = p := fun p hp => by
      show (find (.ref p.1)).getD _ = p
      rw [found p hp]
      rfl
    have pm : (out.map g).Perm L := by
      have y := h2.perm.map g
      rw [eits, List.map_map] at y
      have e : L.map (g ∘ fun p => Value.ref p.1) = L := (List.map_congr_left fun p hp => gof p hp).trans (List.map_id L)
      rw [e] at y
      exact y
    have outin : ∀ v ∈ out, ∃ p ∈ L, v = Value.ref p.1 := fun v hv => inits v (h2.perm.mem_iff.mp hv)
    have eo : out = (out.map g).map fun p => Value.ref p.1 := by
      rw [List.map_map]
      refine (List.map_id out).symm.trans (List.map_congr_left fun v hv => ?_)
      obtain ⟨p, hp, rfl⟩ := outin v hv
      show _ = Value.ref (g (.ref p.1)).1
      rw [gof p hp]
      rfl
    have pw : (out.map g).Pairwise (fun p q => SrtO.lexB q.2.1 p.2.1 = false) := by
      refine List.pairwise_map.mpr (h1.imp_of_mem fun {v u} hv hu e => ?_)
      obtain ⟨p, hp, rfl⟩ := outin v hv
      obtain ⟨p', hp', rfl⟩ := outin u hu
      rw [gof p hp, gof p' hp']
      have e : SrtO.lexB (k (.ref p'.1)) (k (.ref p.1)) = false := e
      rw [kof p hp, kof p' hp'] at e
      exact e
    have vb : Vals ((out.map g).map fun p => V.ref p.1) out := by
      conv => rhs; rw [eo]
      generalize out.map g = M
      induction M with
      | nil => exact .nil
      | cons p M ih => exact .cons rfl ih
    refine ⟨.ref d, upd H d (.lst ((out.map g).map fun p => V.ref p.1)), I.laid (t' := s.toks) kp hd ⟨?_, out, n, vb, hn⟩, rfl, q _ d pm pw (I.hok.fresh hd)⟩
    rw [List.length_map, pm.length_eq]
    rw [List.length_map] at hz
    exact hz
end Pm
/-! ### more rules: sorted, deep ==, text[::-1], kinds of values -/
namespace Tr
open PySem PySem.Spec PyProof.Rows L2 SX
/-! text[::-1] -/
def tRevS (te : TE) : TE := fun σ H Q => te σ H fun x H1 => ∃ z : List Nat, x = .str (S z) ∧ z.length ≤ 100000 ∧ Q (.str (S z.reverse)) H1
theorem pe_revS {X : Cx} {e : Expr} {te : TE} {k : Nat} {p1 p2 p3 pos : Pos} (he : PE X e te) : PE X (.Subscript e (.Slice none none (some (.UnaryOp .USub (.Constant (.int 1) k p1) p2)) p3) pos) (tRevS te) := by
  refine ⟨fun pins s σ H Q I h => ?_⟩
  refine Subscript_ (thn (he.run pins s σ H _ I h) fun v s1 ⟨x, H1, I1, r1, q1⟩ => ?_)
  obtain ⟨z, ex, lz, q⟩ := q1
  subst ex
  obtain ⟨t, rfl⟩ := r1
  have hst : PO X (some (.UnaryOp .USub (.Constant (.int 1) k p1) p2)) (tPart (tUn (rU fun i => .int (-i)) (tC (.int 1)))) := po_some (pe_un un_neg pe_int)
  refine wpAny_Slice (thn (po_none.run pins s1 σ H1 (fun o H2 => o = none ∧ H2 = H1) I1 ⟨rfl, rfl⟩) fun vl s2 ⟨l, H2, I2, pl, el, e2⟩ => ?_)
  subst el e2
  refine thn (po_none.run pins s2 σ H2 (fun o H3 => o = none ∧ H3 = H2) I2 ⟨rfl, rfl⟩) fun vu s3 ⟨u, H3, I3, pu, eu, e3⟩ => ?_
  subst eu e3
  refine thn (hst.run pins s3 σ H3 (fun o H4 => o = some (-1) ∧ H4 = H3) I3 ⟨1, rfl, -1, rfl, rfl, rfl⟩) fun vs s4 ⟨o, H4, I4, ps, eo, e4⟩ => ?_
  subst eo e4
  have I5 : Inv X pins σ H4 { s4 with heap := s4.heap.push { cls := .type "slice", data := .fields #[vl, vu, vs] } } := I4.kept (t' := s4.toks) fun b ob q => Heap.get?_push_of_some _ q
  show wpAny (model X.prog X.w) X.A (subscriptTail e (.Slice none none (some (.UnaryOp .USub (.Constant (.int 1) k p1) p2)) p3) (.str (S z) t) (.ref s4.heap.objs.size)) (EP X pins σ Q) X.xe { s4 with heap := s4.heap.push { cls := .type "slice", data := .fields #[vl, vu, vs] } }
  refine tail_any (ops := [.str (S z) t, .ref s4.heap.objs.size]) (typeIs_str _ _ _) (F.slot_str_getitem.lookup) ?_ (by with_unfolding_all rfl)
  obtain ⟨l', rfl, el⟩ := IsPart.raw pl
  obtain ⟨u', rfl, eu⟩ := IsPart.raw pu
  obtain ⟨w', rfl, ew⟩ := IsPart.raw ps
  have hw : ∃ tw, w' = some (-1, tw) := by
    cases w' with
    | none => cases ew
    | some p => obtain ⟨a, b⟩ := p; cases ew; exact ⟨b, rfl⟩
  obtain ⟨tw, rfl⟩ := hw
  have hl : l' = none := by
    cases l' with
    | none => rfl
    | some p => cases el
  have hu : u' = none := by
    cases u' with
    | none => rfl
    | some p => cases eu
  subst hl hu
  refine wpAny_getItem_str_slice (l := none) (u := none) (st := some (-1, tw)) ⟨_, Heap.get?_push_size _ rfl, rfl, rfl⟩ rfl ?_
  have e : (⟨((Builtin.Str.strSliceIndices none none (-1) (S z).length).filterMap ((S z).cps[·]?)).toArray⟩ : Str) = S z.reverse := by
    rw [lenS, PyProof.Rows.picked_rev]
    have e2 : (List.range z.length).map (fun k => z.length - 1 - k) = (List.range z.length).reverse := PySem.W.krv_range z.length
    rw [e2, List.filterMap_reverse]
    have e3 := PySem.W.krv_all (S z).cps
    have e4 : (S z).cps.size = z.length := by rw [← Array.length_toList, cpsS]
    rw [e4, cpsS] at e3
    rw [e3]
  show Made.post (if ((-1 : Int) == 1 && _) = true then Made.val (.str (S z) t) else Made.str ⟨((Builtin.Str.strSliceIndices none none (-1) (S z).length).filterMap ((S z).cps[·]?)).toArray⟩) (EP X pins σ Q) _
  rw [if_neg (by simp), e]
  exact ⟨by rw [lenS, List.length_reverse]; exact sz5 lz, .str _, _, I5.tok _, ⟨_, rfl⟩, q⟩
section
variable {X : Cx} {B : Hp × Hp} {Γ : Env} {e a b c : Expr} {es : List Expr} {x y z : D} {pos : Pos} {u w : List Nat}
theorem t_revS {k : Nat} {p1 p2 p3 : Pos} (h : Ok X B e Γ (.tx u)) (l : u.length ≤ 100000) : Ok X B (.Subscript e (.Slice none none (some (.UnaryOp .USub (.Constant (.int 1) k p1) p2)) p3) pos) Γ (.tx u.reverse) := PE.weak (pe_revS h) fun σ H Q ⟨F, w, k⟩ => ⟨F, w, fun v F1 H1 w1 g1 r1 => by
  cases r1
  exact ⟨u, rfl, l, k _ F1 H1 w1 g1 (.str _)⟩⟩
/-! deep == of like data -/
mutual
def toPy : D → PyData
  | .non => .none
  | .bl b => .bool b
  | .int i => .int i
  | .str s => .str s
  | .tup xs => .tuple (toPys xs)
  | .lst xs => .list (toPys xs)
  | .obj _ _ => .none
  | .val _ => .none
  | .hp _ => .none
def toPys : List D → List PyData
  | [] => []
  | x :: xs => toPy x :: toPys xs
end
mutual
/-- data alone -/
def plain : D → Bool
  | .obj _ _ => false
  | .val _ => false
  | .hp _ => false
  | .tup xs => plains xs
  | .lst xs => plains xs
  | _ => true
def plains : List D → Bool
  | [] => true
  | x :: xs => plain x && plains xs
end
mutual
theorem dp_rep {K : PySem.W.Frag} {F H : Hp} (fh : Same F H) : ∀ {v : V} {d : D}, Rep K F v d → plain d = true → Dp K H v (toPy d)
  | _, _, .non, _ => .non
  | _, _, .bl b, _ => .bl b
  | _, _, .int i, _ => .int i
  | _, _, .str s, _ => .str s
  | _, _, .tup h r, p => .tup (toft (fh _ _ h)) (dps_rep fh r (by rwa [plain] at p))
  | _, _, .lst h r, p => .lst (tofl (fh _ _ h)) (dps_rep fh r (by rwa [plain] at p))
  | _, _, .obj h r, p => by cases p
  | _, _, .val v, p => by cases p
  | _, _, .hp _ _, p => by cases p
theorem dps_rep {K : PySem.W.Frag} {F H : Hp} (fh : Same F H) : ∀ {v : List V} {d : List D}, Reps K F v d → plains d = true → DpAll K H v (toPys d)
  | _, _, .nil, _ => .nil
  | _, _, .cons h r, p => by
    rw [plains, Bool.and_eq_true] at p
    exact .cons (dp_rep fh h p.1) (dps_rep fh r p.2)
end
theorem t_eqD (hu : X.A.units + 64 < cLine) (ha : Ok X B a Γ x) (hb : Ok X B b Γ y) (h : plain x = true ∧ SeqAt.shaped (toPy x) = true ∧ x = y) : Ok X B (.Compare a [.Eq] [b] pos) Γ (.bl true) := ev_op (fun p q => pe_cmpR (op_eqD hu) p q (nomark _)) ha hb (r2_val fun F H fh v w rv rw' Q q => by
  obtain ⟨h1, h2, rfl⟩ := h
  refine ⟨_, _, dp_rep fh rv h1, dp_rep fh rw' h1, h2, h2, ?_⟩
  rw [SeqAt.eqv_refl _ (SeqAt.canLay_of_shaped h2)]
  exact q _ fun _ => .bl _)
theorem t_neD (hu : X.A.units + 64 < cLine) (ha : Ok X B a Γ x) (hb : Ok X B b Γ y) (h : plain x = true ∧ SeqAt.shaped (toPy x) = true ∧ x = y) : Ok X B (.Compare a [.NotEq] [b] pos) Γ (.bl false) := ev_op (fun p q => pe_cmpR (op_neD hu) p q (nomark _)) ha hb (r2_val fun F H fh v w rv rw' Q q => by
  obtain ⟨h1, h2, rfl⟩ := h
  refine ⟨_, _, dp_rep fh rv h1, dp_rep fh rw' h1, h2, h2, ?_⟩
  rw [SeqAt.eqv_refl _ (SeqAt.canLay_of_shaped h2)]
  exact q _ fun _ => .bl _)
/-! comparisons as tests -/
theorem o_op {r : R2} {p : Bool} (ho : ∀ {ta tb : TE}, PE X a ta → PE X b tb → PT X e (tTest (tOp r ta tb))) (ha : Ok X B a Γ x) (hb : Ok X B b Γ y) (h : R2T X.K r x y (.bl p)) : OkT X B e Γ p := PT.weak (ho ha hb) fun σ H Q ⟨F, w, k⟩ =>
  ⟨F, w, fun v F1 H1 w1 g1 r1 => ⟨F1, w1, fun u F2 H2 w2 g2 r2 => h F2 H2 w2.fh v u (r1.mono g2.f) r2 _ fun q F3 H3 g3 fh r3 => by
    cases r3
    exact ⟨p, rfl, k F3 H3 (w2.gr g3 fh) ((g1.trans g2).trans g3)⟩⟩⟩
theorem r2_inS {K : PySem.W.Frag} {n : Nat} : R2T K (fun x y H Q => ∃ (c : Nat) (z : Str), x = .str ⟨#[c]⟩ ∧ y = .str z ∧ Q (.bl (decide (c ∈ z.cps.toList))) H) (.tx [n]) (.tx w) (.bl (decide (n ∈ w))) := r2_val fun F H fh v w' rv rw Q q => by
  cases rv; cases rw
  refine ⟨n, S w, rfl, rfl, ?_⟩
  rw [cpsS]
  exact q _ fun _ => .bl _
theorem r2_notInS {K : PySem.W.Frag} {n : Nat} : R2T K (fun x y H Q => ∃ (c : Nat) (z : Str), x = .str ⟨#[c]⟩ ∧ y = .str z ∧ Q (.bl (!decide (c ∈ z.cps.toList))) H) (.tx [n]) (.tx w) (.bl (!decide (n ∈ w))) := r2_val fun F H fh v w' rv rw Q q => by
  cases rv; cases rw
  refine ⟨n, S w, rfl, rfl, ?_⟩
  rw [cpsS]
  exact q _ fun _ => .bl _
theorem r2_eqDD {K : PySem.W.Frag} (h : plain x = true ∧ SeqAt.shaped (toPy x) = true ∧ x = y) : R2T K (rEqD K) x y (.bl true) := r2_val fun F H fh v w rv rw' Q q => by
  obtain ⟨h1, h2, rfl⟩ := h
  refine ⟨_, _, dp_rep fh rv h1, dp_rep fh rw' h1, h2, h2, ?_⟩
  rw [SeqAt.eqv_refl _ (SeqAt.canLay_of_shaped h2)]
  exact q _ fun _ => .bl _
theorem r2_neDD {K : PySem.W.Frag} (h : plain x = true ∧ SeqAt.shaped (toPy x) = true ∧ x = y) : R2T K (rNeD K) x y (.bl false) := r2_val fun F H fh v w rv rw' Q q => by
  obtain ⟨h1, h2, rfl⟩ := h
  refine ⟨_, _, dp_rep fh rv h1, dp_rep fh rw' h1, h2, h2, ?_⟩
  rw [SeqAt.eqv_refl _ (SeqAt.canLay_of_shaped h2)]
  exact q _ fun _ => .bl _
/-! sorted(text), sorted(triples) -/
theorem rc_sortTx {K : PySem.W.Frag} (l : u.length ≤ 1000) : RCT K Pm.rSortedTx [.tx u] (.lst ((Pm.asc u).map fun c => .tx [c])) := fun F H fh vs r Q q => by
  cases r with
  | cons h r =>
    cases r
    cases h
    refine ⟨u, rfl, l, fun ys p pm pw n => ?_⟩
    rw [Pm.asc_of pm pw]
    refine q _ _ _ (Gr.new (o := .lst ((Pm.ones (Pm.asc u)).map V.str)) fh n) (same_both fh) (.lst upd_same ?_)
    have key : ∀ (G : Hp) (zs : List Nat), Reps K G ((Pm.ones zs).map V.str) (zs.map fun c => .tx [c]) := fun G zs => by
      induction zs with
      | nil => exact .nil
      | cons z zs ih => exact .cons (.str _) ih
    exact key _ _
theorem rm_joinS {K : PySem.W.Frag} (l : u.length ≤ 1000) : RMT K (rJoinT K) (.tx []) [.lst ((Pm.asc u).map fun c => .tx [c])] (.tx (Pm.asc u)) := by
  have h := rm_join (K := K) (u := []) (zs := (Pm.asc u).map fun c => [c]) 1 (fun z m => by obtain ⟨c, _, rfl⟩ := List.mem_map.mp m; exact Nat.le_refl _) (by
    rw [List.length_map, (Pm.asc_perm u).length_eq]
    show u.length * 1 ≤ _
    omega)
  rw [List.map_map, Pm.joinL_one] at h
  exact h
def rListO (K : PySem.W.Frag) : List V → Hp → VK → Prop := fun xs H Q => ∃ p ys, xs = [.ref p] ∧ (SqL K H p ys ∨ SqT K H p ys) ∧ ∀ l, H l = none → Q (.ref l) (upd H l (.lst ys))
theorem rc_list {K : PySem.W.Frag} {ds : List D} : RCT K (rListO K) [.lst ds] (.lst ds) := fun F H fh vs r Q q => by
  cases r with
  | cons h r =>
    cases r
    cases h with
    | @lst a us _ h1 r1 =>
      refine ⟨a, us, rfl, .inl (tofl (fh _ _ h1)), fun p n => ?_⟩
      have g := Gr.new (o := .lst us) fh n
      exact q _ _ _ g (same_both fh) (.lst upd_same (r1.mono g.f))
theorem s_appendM {α : Type} {s : Stmt} {i : Nat} (enc : α → D) (zs : List α) (k : α) (ho : ∀ {t : TA}, PA X es t → PS X s (tDrop (tBM X.K "list" rAppend (tVar i) t))) (g : Γ[i]? = some (.own (.l (zs.map enc)))) (h : OkA X B es Γ [enc k]) (l : zs.length < 100000) :
    OkS X B s Γ (.nx (Γ.set i (.own (.l ((zs ++ [k]).map enc))))) := by
  rw [List.map_append]
  exact s_append ho g h (by rw [List.length_map]; exact l)
/-- a test that is known to fail; a loop that only looks -/
theorem s_ifNo {c : Expr} {ss r : List Stmt} {ou : Out} (hc : OkT X B c Γ false) (hr : OkSs X B r Γ ou) : OkSs X B (.If c ss [] pos :: r) Γ ou :=
  PSs.weak (pss_cons (ps_if hc (PSs.when (p := False) (t := fun _ _ _ => True) fun z => z.elim) pss_nil) hr) fun D σ H ⟨F, w, k⟩ => ⟨F, w, fun F1 H1 w1 g1 => iteF ⟨F1, w1, k⟩⟩
theorem s_ifYes {c : Expr} {ss es r : List Stmt} {d : D} (hc : OkT X B c Γ true) (ha : OkSs X B ss Γ (.rt d)) : OkSs X B (.If c ss es pos :: r) Γ (.rt d) :=
  PSs.weak (pss_cons (ps_if hc ha (PSs.when (p := False) (t := fun _ _ _ => True) fun z => z.elim)) (PSs.when (p := False) (t := fun _ _ _ => True) fun z => z.elim)) fun D σ H ⟨F, w, k⟩ => ⟨F, w, fun F1 H1 w1 g1 => iteT ⟨F1, w1, k⟩⟩
theorem s_forNo {α : Type} {g : TG} {vs : List Nat} {body r : List Stmt} {s : Stmt} {tg : Expr} {ou : Out} (ks : List α) (enc : α → D) (bound : α → Env)
    (ho : ∀ {wi : TI} {tb : TS}, PI X tg e wi → PSs X body tb → PS X s (tFor wi g tb)) (hi : OkI X B tg e Γ (ks.map enc))
    (hg : ∀ (B : Hp × Hp) k, k ∈ ks → BindG X.K B vs g Γ (enc k) (bound k)) (hb : ∀ (B : Hp × Hp) k, k ∈ ks → OkSs X B body (bound k) (.nx Γ)) (hr : OkSs X B r Γ ou) : OkSs X B (s :: r) Γ ou := by
  have h := s_for (S := Unit) (vs := vs) (fun _ => Γ) (fun s _ => s) ks enc () (fun _ k => bound k) ho hi (fun B _ k m => hg B k m) fun B i k s h1 _ => hb B k (List.mem_of_getElem? h1)
  exact s_cons h hr
theorem foldl_app {α β : Type} (f : α → β) : ∀ (ks : List α) (s : List β), ks.foldl (fun s k => s ++ [f k]) s = s ++ ks.map f
  | [], s => by simp
  | k :: ks, s => by rw [List.foldl_cons, foldl_app f ks, List.map_cons, List.append_assoc]; rfl
/-! a def keeps its promise -/
theorem spG_len {K : PySem.W.Frag} {G : List D → D → Prop} {n : Nat} (h : ∀ ds d, G ds d → ds.length = n) : ∀ vs H Q E, spG K G vs H Q E → vs.length = n := fun vs H Q E ⟨ds, d, g, F, _, r, _⟩ => by rw [r.length, h ds d g]
end
end Tr
/-! ### objects that are made: __init__ and C(..) -/
namespace Tr
open PySem PySem.Spec PyProof.Rows L2 SX
def putD (f : Str) (v : D) : List (Str × D) → List (Str × D)
  | [] => [(f, v)]
  | (g, x) :: r => if g = f then (g, v) :: r else (g, x) :: putD f v r
theorem FReps.put {K : PySem.W.Frag} {F : Hp} {f : Str} {v : V} {d : D} (h : Rep K F v d) : ∀ {fv : List (Str × V)} {fs : List (Str × D)}, FReps K F fv fs → FReps K F (putF f v fv) (putD f d fs)
  | _, _, .nil => .cons h .nil
  | _, _, .cons (n := n) h0 r => by
    unfold putF putD
    by_cases e : n = f
    · rw [if_pos e, if_pos e]
      exact .cons h r
    · rw [if_neg e, if_neg e]
      exact .cons h0 (FReps.put h r)
theorem FReps.length {K : PySem.W.Frag} {F : Hp} : ∀ {fv : List (Str × V)} {fs : List (Str × D)}, FReps K F fv fs → fv.length = fs.length
  | _, _, .nil => rfl
  | _, _, .cons _ r => congrArg (· + 1) (FReps.length r)
/-- the heap without the thing at x -/
def wo (x : Addr) (H : Hp) : Hp := fun a => if a = x then none else H a
theorem wo_x (x : Addr) (H : Hp) : wo x H x = none := if_pos rfl
theorem wo_ne {x a : Addr} {H : Hp} (h : a ≠ x) : wo x H a = H a := if_neg h
theorem wo_same (x : Addr) (H : Hp) : Same (wo x H) H := fun a o e => by
  unfold wo at e
  split at e
  · cases e
  · exact e
/-- a promise of __init__: the new object at x gets the fields fs -/
def spI (K : PySem.W.Frag) (C : Addr) (G : List D → List (Str × D) → Prop) : Sp := fun vs H Q _ => ∃ ds fs, G ds fs ∧ ∃ x us dx F, vs = .ref x :: us ∧ H x = some (.ins C dx []) ∧ F x = none ∧ Same F H ∧ Reps K F us ds ∧
  ∀ F' H', Same F F' → (∀ a o, a ≠ x → H a = some o → H' a = some o) → (∀ a o, H a = some o → F a = none → F' a = none) → Same F' H' → (∃ fv, H' x = some (.ins C dx fv) ∧ FReps K F' fv fs) → Q .non H'
section
variable {X : Cx} {B : Hp × Hp} {Γ Γ' : Env} {e a b c o : Expr} {es : List Expr} {x y z d : D} {pos pos' : Pos} {s : Stmt} {i : Nat} {E : XK}
theorem s_expr (ho : ∀ {t : TE}, PE X e t → PS X s (tDrop t)) (h : Ok X B e Γ d) : OkS X B s Γ (.nx Γ) := PS.weak (ho h) fun D σ H ⟨F, w, k⟩ => ⟨F, w, fun v F' H' w' g r => k σ F' H' w'⟩
/-- self.f = e, while self is made -/
theorem s_fld {xa dx C : Addr} {f : Str} {fs : List (Str × D)} (ho : ∀ {tv : TE}, PE X e tv → PS X s (sFld X.K (tVar i) tv f)) (g : Γ[i]? = some (.own (.o xa dx C fs))) (h : Ok X B e Γ d) (c : Cls X.K C) (n : NoAttr X.K C f) (l : fs.length < 1000) :
    OkS X B s Γ (.nx (Γ.set i (.own (.o xa dx C (putD f d fs))))) := PS.weak (ho h) fun D σ H ⟨F, w, k⟩ => ⟨F, w, fun v F1 H1 w1 g1 r1 => by
  obtain ⟨p, hv, e, h0, hF, hp, r⟩ := w1.own g
  obtain ⟨rfl, fv, rfl, q⟩ := r.obj
  exact ⟨_, e, p, C, dx, fv, rfl, hp, c, n, by rw [q.length]; exact l, k _ F1 _ (w1.grow e g hp h0 hF (.o (q.put r1)))⟩⟩
/-- self.f read while self is made -/
theorem t_fldO {xa dx C : Addr} {f : Str} {fs : List (Str × D)} (ho : PE X e (tFld X.K (tVar i) f)) (g : Γ[i]? = some (.own (.o xa dx C fs))) (c : Cls X.K C) (n : NoAttr X.K C f) (l : fs.lookup f = some z) : Ok X B e Γ z := PE.weak ho fun σ H Q ⟨F, w, k⟩ => by
  obtain ⟨p, hv, e, h0, hF, hp, r⟩ := w.own g
  obtain ⟨rfl, fv, rfl, q⟩ := r.obj
  obtain ⟨v, ev, rv⟩ := q.look l
  exact ⟨_, e, p, C, dx, fv, v, rfl, hp, c, n, ev, k v F H w (Gr.refl _ _) rv⟩
/-- C(..) -/
theorem t_make {C : Addr} {sp : Sp} {ds : List D} {fs : List (Str × D)} (ho : ∀ {t : TA}, PA X es t → PE X e (tMake C sp [] E t)) (ha : OkA X B es Γ ds) (h : ∀ vs H Q, spI X.K C (fun ds' fs' => ds' = ds ∧ fs' = fs) vs H Q E → sp vs H Q E) : Ok X B e Γ (.obj C fs) :=
  PE.weak (ho ha) fun σ H Q ⟨F, w, k⟩ => ⟨F, w, fun vs F1 H1 w1 g1 r1 xa dx nx nd ne => by
    rw [List.append_nil]
    have keep : ∀ {a : Addr} {u : HO}, H1 a = some u → upd (upd H1 dx (.own xa)) xa (.ins C dx []) a = some u := fun {a u} e => by
      rw [upd_ne (ne_of_none e nx), upd_ne (ne_of_none e nd)]
      exact e
    refine h _ _ _ ⟨ds, fs, ⟨rfl, rfl⟩, xa, vs, dx, F1, rfl, upd_same, w1.fh.free nx, fun a u e => keep (w1.fh _ _ e), r1, fun F' H' sF sH ex fh hfv => ⟨rfl, ?_⟩⟩
    obtain ⟨fv, hx, hr⟩ := hfv
    have nF : F' xa = none := ex _ _ upd_same (w1.fh.free nx)
    have sx := sup (o := .ins C dx fv) nF
    have g : Gr F1 H1 (upd F' xa (.ins C dx fv)) H' := ⟨sF.trans sx, fun a u e => sH a u (ne_of_none e nx) (keep e), fun a u e n => by
      rw [upd_ne (ne_of_none e nx)]
      exact ex _ _ (keep e) n⟩
    have fh2 : Same (upd F' xa (.ins C dx fv)) H' := fun a u e => by
      by_cases y : a = xa
      · subst y
        rw [upd_same] at e
        rw [← e]
        exact hx
      · rw [upd_ne y] at e
        exact fh _ _ e
    exact k _ _ _ (w1.gr g fh2) (g1.trans g) (.obj upd_same (FReps.mono sx hr))⟩
theorem t_makeG {C : Addr} {G : List D → List (Str × D) → Prop} {ds : List D} {fs : List (Str × D)} (ho : ∀ {t : TA}, PA X es t → PE X e (tMake C (spI X.K C G) [] E t)) (ha : OkA X B es Γ ds) (h : G ds fs) : Ok X B e Γ (.obj C fs) :=
  t_make ho ha fun _ _ _ ⟨_, _, ⟨e1, e2⟩, r⟩ => ⟨ds, fs, h, by subst e1; subst e2; exact r⟩
end
/-- __init__ keeps its promise -/
theorem init_wish {K : PySem.W.Frag} {C : Addr} {N : List Str} {ds : List D} {fs : List (Str × D)} {vs us : List V} {xa dx : Addr} {F H : Hp} {Q : VK} {Γf : Env} (ev : vs = .ref xa :: us) (hx : H xa = some (.ins C dx [])) (nx : F xa = none) (fh : Same F H) (r : Reps K F us ds) (l : ds.length + 1 ≤ N.length)
    (k : ∀ F' H', Same F F' → (∀ a o, a ≠ xa → H a = some o → H' a = some o) → (∀ a o, H a = some o → F a = none → F' a = none) → Same F' H' → (∃ fv, H' xa = some (.ins C dx fv) ∧ FReps K F' fv fs) → Q .non H') (e0 : Γf[0]? = some (.own (.o xa dx C fs))) :
    tSt K (F, wo xa H) (.own (.o xa dx C []) :: ds.map Sl.d ++ List.replicate (N.length - (ds.length + 1)) .no) (.nx Γf) { nx := fun _ H' => Q .non H', rt := Q } (L2.start N vs) H := by
  subst ev
  have w0 := wd_start (K := K) (N := N.tail) fh r (by rw [r.length, List.length_tail]; omega)
  have es : L2.start N (.ref xa :: us) = some (.ref xa) :: L2.start N.tail us := by
    unfold L2.start
    rw [List.map_cons, List.length_cons, List.length_tail, List.cons_append]
    have : N.length - (us.length + 1) = N.length - 1 - us.length := by omega
    rw [this]
  have eg : (.own (.o xa dx C []) :: ds.map Sl.d ++ List.replicate (N.length - (ds.length + 1)) .no : Env) = .own (.o xa dx C []) :: (ds.map Sl.d ++ List.replicate (N.tail.length - ds.length) .no) := by
    rw [List.cons_append, List.length_tail]
    have : N.length - (ds.length + 1) = N.length - 1 - ds.length := by omega
    rw [this]
  rw [es, eg]
  have noown : ∀ (j : Nat) (c : Ow), (ds.map Sl.d ++ List.replicate (N.tail.length - ds.length) .no)[j]? = some (Sl.own c) → False := fun j c h => by
    by_cases lj : j < ds.length
    · rw [List.getElem?_append_left (by rw [List.length_map]; exact lj), List.getElem?_map] at h
      cases e : ds[j]? with
      | none => rw [e] at h; cases h
      | some d => rw [e] at h; cases h
    · rw [List.getElem?_append_right (by rw [List.length_map]; omega), List.getElem?_replicate] at h
      split at h <;> cases h
  refine ⟨F, ⟨Same.refl _, wo_same xa H, fh, fun _ _ _ h => h, by rw [List.length_cons, List.length_cons, w0.len], fun j o s h1 h2 => ?_, fun j m p xs ys ne h1 h2 h3 h4 => ?_⟩, fun σ' F' H' w' => ?_⟩
  · cases j with
    | zero =>
      cases h1; cases h2
      exact ⟨xa, _, rfl, wo_x xa H, nx, hx, .o .nil⟩
    | succ j =>
      have q := w0.sl j o s h1 h2
      cases s with
      | no => trivial
      | d x => exact q
      | own c => exact (noown j c h2).elim
  · cases j with
    | zero =>
      cases m with
      | zero => exact ne rfl
      | succ m => exact noown m ys h4
    | succ j => exact noown j xs h3
  · obtain ⟨p, ho, e, h0, hF, hp, q⟩ := w'.own e0
    obtain ⟨rfl, fv, rfl, qf⟩ := q.obj
    refine k F' H' w'.ff (fun a o n h => w'.hh a o (by show wo p H a = some o; rw [wo_ne n]; exact h)) (fun a o h n => ?_) w'.fh ⟨fv, hp, qf⟩
    by_cases y : a = p
    · rw [y]
      exact hF
    · exact w'.ex a o (by show wo p H a = some o; rw [wo_ne y]; exact h) n
end Tr
namespace Pm
open PySem PySem.Spec PyProof.Rows L2 SX Tr
theorem none_S : ("" : Str) = S [] := by decide +kernel
theorem space_S : (" " : Str) = S [32] := by decide +kernel
theorem empty_S : Str.empty = S [] := by decide +kernel
theorem strOk_S {z : List Nat} (h : ∀ c ∈ z, c < 256) : PyData.strOk (S z) = true := by
  show (S z).cps.all (· < 0x110000) = true
  rw [Array.all_eq_true]
  intro i hi
  have m := h _ (List.getElem_mem (l := z) (n := i) (by simpa using hi))
  exact decide_eq_true (Nat.lt_of_lt_of_le (by simpa using m) (by decide))
def mb (b : Addr) (H : Hp) : Hp := fun a => if a = b then none else H a
theorem mb_same (b : Addr) (H : Hp) : Same (mb b H) H := fun a o e => by
  unfold mb at e
  split at e
  · cases e
  · exact e
theorem mb_b (b : Addr) (H : Hp) : mb b H b = none := if_pos rfl
theorem mb_ne {b a : Addr} {H : Hp} (h : a ≠ b) : mb b H a = H a := if_neg h
theorem mb_of {b a : Addr} {H : Hp} {o : HO} (e : H a = some o) (n : a ≠ b) : mb b H a = some o := by rw [mb_ne n]; exact e
theorem mb_mono {b : Addr} {H H' : Hp} (s : SameBut b H H') : Same (mb b H) (mb b H') := fun a o e => by
  by_cases h : a = b
  · rw [h, mb_b] at e
    cases e
  · rw [mb_ne h] at e ⊢
    exact s a o h e
theorem sb_of {b : Addr} {H H' : Hp} (s : Same H H') : SameBut b H H' := fun a o _ e => s a o e
theorem mb_in {b : Addr} {F' H' : Hp} (s : Same F' H') (n : F' b = none) : Same F' (mb b H') := fun a o e => mb_of (s a o e) fun y => by rw [y, n] at e; cases e
section
variable {K : PySem.W.Frag} {b l : Addr} {H : Hp}
/-- a pure def asked while the bag stands -/
theorem ask {G : List D → D → Prop} {vs : List V} {ds : List D} {d : D} {Q : VK} {E : XK} (hb : BagL H b l) (hG : G ds d) (r : Reps K (mb b H) vs ds) (k : ∀ v H', Same H H' → Rep K (mb b H') v d → Q v H') : spG K G vs H Q E := by
  obtain ⟨xs, e⟩ := bag_b hb
  exact ⟨ds, d, hG, mb b H, mb_same b H, r, fun v F' H' g fh rv => k v H' g.h (rv.mono (mb_in fh (g.x b _ e (mb_b b H))))⟩
end
end Pm
/-! ### a draw from the bag between statements over trees -/
namespace Pm
open PySem PySem.Spec PyProof.Rows L2 SX Tr
def cleanS : Sl → Sl
  | .own _ => .no
  | s => s
theorem cleanS_own {s : Sl} {c : Ow} (h : cleanS s = .own c) : False := by
  cases s <;> cases h
theorem drawn {K : PySem.W.Frag} {B : Hp × Hp} {F H H' : Hp} {σ : L2.St} {Γ : Tr.Env} {b l : Addr} (w : Wd K B F H σ Γ) (nb : F b = none) (s : SameBut b H H') : Wd K (mb b H', H') (mb b H') H' σ (Γ.map cleanS) := by
  have sF : Same F (mb b H') := fun a o e => by
    have n : a ≠ b := fun y => by rw [y, nb] at e; cases e
    exact mb_of (s a o n (w.fh _ _ e)) n
  have no : ∀ (j : Nat) (c : Ow), (Γ.map cleanS)[j]? = some (.own c) → False := fun j c h => by
    rw [List.getElem?_map] at h
    cases e : Γ[j]? with
    | none => rw [e] at h; cases h
    | some s =>
      rw [e] at h
      exact cleanS_own (Option.some.inj h)
  refine ⟨Same.refl _, Same.refl _, mb_same b H', fun _ _ _ h => h, by rw [List.length_map, w.len], fun j o s h1 h2 => ?_, fun j m p xs ys ne h1 h2 h3 h4 => no j xs h3⟩
  rw [List.getElem?_map] at h2
  cases e : Γ[j]? with
  | none => rw [e] at h2; cases h2
  | some s0 =>
    rw [e] at h2
    have q := w.sl j o s0 h1 e
    cases s0 with
    | no => cases h2; trivial
    | own c => cases h2; trivial
    | d x =>
      cases h2
      obtain ⟨v, ev, rv⟩ := q
      exact ⟨v, ev, rv.mono sF⟩
/-- the bag is none of what is frozen -/
theorem bag_out {K : PySem.W.Frag} {b l : Addr} {H0 F H : Hp} {σ : L2.St} {Γ : Tr.Env} (w : Wd K (mb b H0, H0) F H σ Γ) (hb : BagL H0 b l) : F b = none := by
  obtain ⟨xs, e⟩ := bag_b hb
  exact w.ex b _ e (mb_b b H0)
/-- all but the bag, with what the slots hold -/
theorem wd_bag {K : PySem.W.Frag} {b : Addr} {H : Hp} {σ : L2.St} {Γ : Tr.Env} (len : σ.length = Γ.length) (sl : ∀ (i : Nat) (o : Option V) (s : Sl), σ[i]? = some o → Γ[i]? = some s → s = .no ∨ ∃ x v, s = .d x ∧ o = some v ∧ Rep K (mb b H) v x) : Wd K (mb b H, H) (mb b H) H σ Γ := by
  refine ⟨Same.refl _, Same.refl _, mb_same b H, fun _ _ _ h => h, len, fun j o s h1 h2 => ?_, fun j m p xs ys ne h1 h2 h3 h4 => ?_⟩
  · rcases sl j o s h1 h2 with rfl | ⟨x, v, rfl, rfl, r⟩
    · trivial
    · exact ⟨v, rfl, r⟩
  · rcases sl j _ _ h1 h3 with e | ⟨x, v, e, _⟩ <;> cases e
end Pm
namespace Pm
open PySem PySem.Spec PyProof.Rows L2 SX
/-! ### a def that is called where an error is handled, whatever error it is -/
structure FnW (P : Program) (w : World) (K : PySem.W.Frag) (mg : Str → Option Value) (base : Heap) (CXf : CXT) (k : Nat) (f : Addr) (fd : FuncData) (ps : List Str) (sp : Sp) : Prop where
  len : ∀ vs H Q E, sp vs H Q E → vs.length = ps.length
  run : ∀ (A : Around) (outer : List Env) (s : Shared) (H : Hp) (args : Args) (us : List Value) (vs : List V) (Q : VK) (E : XK) (p : Addr × Obj), L2H.RoomH k A → L2H.PinOk outer H s p → Env0 P w K mg base A outer s H →
    BindsTo s fd args (ps.zip us) → Vals vs us → sp vs H Q E → codeAny (model P w) A (.call (.ref f) args) (CR CXf outer P w H s Q E) s
theorem fnW_of {CXf : CXT} {P : Program} {w : World} {K : PySem.W.Frag} {mg : Str → Option Value} {base : Heap} {k : Nat} {x qual : Str} {st : Stmt} {f : Addr} {fd : FuncData} {N ps : List Str} {sp : Sp} (F : Fun K x qual st f fd) (S : FnScope N ps (defScope st))
    (len : ∀ vs H Q E, sp vs H Q E → vs.length = ps.length)
    (body : ∀ (cdv : Value) (A : Around) (outer : List Env) (s : Shared) (H : Hp) (vs : List V) (Q : VK) (E : XK) (p : Addr × Obj), L2H.RoomH k (A.deeper (envOfC qual (defScope st) s.heap.objs.size f cdv)) → sp vs H Q E →
      ∃ t, PSs (L2H.cxH CXf P w K mg base N qual (defScope st) f cdv A outer s H E p) (defBody st) t ∧ t { nx := fun _ G => Q .non G, rt := Q } (L2.start N vs) H) : FnW P w K mg base CXf (k + 1) f fd ps sp := by
  obtain ⟨oc, od, kV, doc, pm, an, cdv, ct, osl, rfl, lk, hcd⟩ := F.ex
  constructor
  case len => exact len
  case run =>
    intro A outer s H args us vs Q E p room pin env0 bind rv asked
    have few := len _ _ _ _ asked
    have kin : K.In s.heap := env0.mod.kin.keeps fun b o e => (env0.bs b o e).1
    have unlimited : s.heap.NoLimit := env0.mod.nolimit.keeps fun b o e => (env0.bs b o e).1
    have kinds : ∀ y ∈ ps.zip us, (defScope st).names.lookup y.1 = some .local ∨ ((defScope st).names.lookup y.1 = some .cell ∧ ((cellsFrom (s.heap.objs.size + 1) (defScope st).names []).lookup y.1).isSome = true) := by
      rintro ⟨n, v⟩ hy
      rcases S.par n (List.of_mem_zip hy).1 with q | q
      · exact Or.inl q
      · exact Or.inr ⟨q, PySem.W.cellsFrom_some _ _ _ (.inl q)⟩
    refine codeAny_call_function room.depth (kin _ _ lk) rfl S.co S.gen rfl (PySem.W.codeRec_of kin hcd) (bind _ _ _ _ (wpAny_newFunctionEnv_cells S.kind kinds fun env he s1 call => ?_))
    subst he
    refine ⟨unlimited.keeps call.toInCall.keep, codeAny_func ?_⟩
    obtain ⟨t, ht, read⟩ := body cdv A outer s H vs Q E p (room.deeper _) asked
    have I := L2H.inv_startH (CX := CXf) (E := E) S pin env0 few rv call
    refine wpAny_mono (ht.run [] s1 (L2.start N vs) H _ I read) (fun fl s2 z => ?_) fun _ _ z => z
    cases fl with
    | ret u =>
      obtain ⟨v, _, G, J, ru, q⟩ := z
      exact ⟨v, G, J.os, J.bare, J.base, J.hok, ru, q⟩
    | next =>
      obtain ⟨_, G, J, q⟩ := z
      exact ⟨V.non, G, J.os, J.bare, J.base, J.hok, rfl, q⟩
    | brk =>
      obtain ⟨_, _, _, q⟩ := z
      exact q.elim
    | cont =>
      obtain ⟨_, _, _, q⟩ := z
      exact q.elim
section
variable {X : Cx} {CXf : CXT} {k : Nat} {f : Addr} {fd : FuncData} {ps : List Str} {sp : Sp} {x : Str} {q pos : Pos} {e : Expr} {es : List Expr} {t : TA}
/-- f(e, ..) where something is pinned; nothing that is raised leaves f -/
theorem pe_callW {p : Addr × Obj} (F : FnW X.prog X.w X.K X.mg X.base CX0 k f fd ps sp) (hr : L2H.RoomH k X.A) (hp : p ∈ X.pn) (hg : Gl X x) (hm : X.mg x = some (.ref f)) (hk : PySem.W.keepIn X.K (.ref f) = true) (hb : Binds X.K fd ps []) (ha : PA X (e :: es) t)
    (dbg : (x == ("__debug__" : Str)) = false := by decide) (st : starEach (e :: es) X.env = (false, eval e X.env) :: starEach es X.env := by rfl) (pl : (backTo pos (starEach es X.env)).any (·.1) = false := by rfl) :
    PE X (.Call (.Name x q) (e :: es) [] pos) (tCall sp [] E0 t) := by
  refine ⟨fun pins s σ H Q I h => wpAny_Call_Name_kw (ld_glob I hg hm ?_ dbg)⟩
  refine PySem.W.callWith_K (h₀ := X.base) I.ok.mod.kin hk (thn (ha.run pos pins s σ H _ I h) fun us s1 ⟨vs, H1, I1, rv, asked⟩ => ⟨I1.kIn, ?_⟩) st pl
  have asked : sp (vs ++ []) H1 Q E0 := asked
  rw [List.append_nil] at asked
  show wpAny _ _ (call (.ref f) us) _ _ _
  have len : us.length = ps.length := rv.length.symm.trans (F.len _ _ _ _ asked)
  have bind := hb s1 us I1.kIn (by rw [List.append_nil]; exact len)
  rw [List.append_nil] at bind
  obtain ⟨p1, p2, p3, p4, p5⟩ := I1.pin p (List.mem_append_left _ hp)
  have pin : L2H.PinOk X.stack H1 s1 p := ⟨p1, p2, fun hm => (List.mem_cons.mp (I1.stkSub p.1 hm)).elim p3 p4, p5⟩
  refine wpAny_call (codeAny_mono (F.run X.A X.stack s1 H1 ⟨us, []⟩ us vs Q E0 p hr pin I1.env0 bind rv asked) fun r s2 z => ?_)
  cases r with
  | error er => exact z.elim
  | ok fl =>
    cases fl with
    | ret u => exact I1.after z
    | next => exact z.elim
    | brk => exact z.elim
    | cont => exact z.elim
end
end Pm
namespace Pm
open PySem PySem.Spec PyProof.Rows L2 SX
/-! ### try with several clauses «except C as e», all with the same name -/
abbrev Suites := List (Value × (Addr → Value → Option Addr → TS))
/-- what the clauses wish, one after the other; the error goes into slot i, which is empty behind the suite -/
def wClauses (K : PySem.W.Frag) (i : Nat) (Wout : WX) (D : Ends) : Suites → WX
  | [] => Wout
  | (c, ts) :: r => fun cls d σ H => ∃ b, PySem.W.exmOne K cls c = some b ∧
      (b = true → ∀ a, H a = none → ts a cls d ⟨fun σ2 H2 => D.nx (σ2.set i none) H2, D.rt, fun σ2 H2 => D.bk (σ2.set i none) H2, fun σ2 H2 => D.ct (σ2.set i none) H2⟩ (σ.set i (some (.ref a))) H) ∧ (b = false → wClauses K i Wout D r cls d σ H)
inductive Clauses (X : Cx) (n : Str) : List ExceptHandler → Suites → Prop
  | nil : Clauses X n [] []
  | cons {x : Str} {c : Value} {ts : Addr → Value → Option Addr → TS} {s0 : Stmt} {ss : List Stmt} {p1 p2 : Pos} {hds : List ExceptHandler} {l : Suites} (named : Names X x c)
      (suite : ∀ (a : Addr) (oe : Obj) (cls : Value) (d : Option Addr) (pn : List (Addr × Obj)), Zc cls d oe → (∃ vs, oe.data = .fields vs) → PSs (X.suite a ((a, oe) :: pn)) (s0 :: ss) (ts a cls d)) (rest : Clauses X n hds l) :
      Clauses X n (.ExceptHandler (some (.Name x p1)) (some n) (s0 :: ss) p2 :: hds) ((c, ts) :: l)
section
variable {X : Cx} {n : Str} {i : Nat} {body : List Stmt} {h0 : ExceptHandler} {hds : List ExceptHandler} {l : Suites} {pos : Pos} {tb : WX → TS} {Wout : WX}
theorem ps_try_clauses (stk : X.stack = X.env :: X.outer) (fr : X.env.frame = some X.env.locals) (nd : X.N.Nodup) (slot : X.N[i]? = some n) (loc : X.env.kindOf n = some .local) (out : Takes X Wout)
    (hbody : ∀ (W : WX) (pn : List (Addr × Obj)) (xe : Value → Shared → Prop), Takes (X.tr pn xe) W → PassesOwn (model X.prog X.w) X.A X.env xe → PSs (X.tr pn xe) body (tb W)) (hcl : Clauses X n (h0 :: hds) l) :
    PS X (.Try body (h0 :: hds) [] [] pos) (fun D σ H => tb (wClauses X.K i Wout D l) D σ H) := by
  constructor
  intro pins s σ H D I asked
  have good := I.ok
  have frames : X.A.frames = some (X.env :: X.outer) := by rw [good.frames, stk]
  have lc : Loc X.env.scope n := Or.inl loc
  refine wpAny_Try_except ?_
  refine wpAny_mono ((hbody (wClauses X.K i Wout D l) (X.pn ++ pins) (fun e s1 => wpAny (model X.prog X.w) X.A (noteFrame e X.env) (fun _ s2 => wpAny (model X.prog X.w) X.A (setFlight e none)
    (fun _ s3 => wpAny (model X.prog X.w) X.A (handleBy e X.env (h0 :: hds)) (SP X pins D) X.xe s3) X.xe s2) X.xe s1) (fun u s1 raised => ?_) PassesOwn.looking).run [] s σ H D (I.toTry _) asked) (fun fl s1 z => ?_) (fun _ _ z => z)
  case _ =>
    obtain ⟨a, B, sI, pins1, σ1, H1, cls, d, rfl, J0, nb, up, sky, na, os, bare, wish⟩ := raised
    have J : L2.Inv X pins σ1 H1 sI := J0.ofTry good
    show wpAny (model X.prog X.w) X.A (noteFrame (.ref a) X.env) _ _ _
    refine Sky.land Zc.steady frames fr (by rw [← stk]; exact sky) fun g fly up2 => ?_
    have J1 : L2.Inv X pins σ1 H1 { s1 with heap := g } := J.landed nb fly.1 (up.trans up2) os bare
    obtain ⟨o1, v1, at1, z1, d1⟩ := fly.there
    have outside : a ∉ frs (X.env :: X.outer) := fun m => by
      obtain ⟨_, o, eo, nf⟩ := fly.2.2.1.mem m
      rw [at1] at eo
      cases eo
      exact nf _ d1
    have notL : a ≠ X.env.locals := fun z => outside (List.mem_filterMap.mpr ⟨X.env, List.mem_cons_self, by rw [fr, z]⟩)
    have notF : a ∉ X.fs := fun m => by
      obtain ⟨e, me, y⟩ := List.mem_filterMap.mp m
      exact outside (List.mem_filterMap.mpr ⟨e, List.mem_cons_of_mem _ me, y⟩)
    have inSuite := J1.suite at1 d1 na notL notF
    have types : PySem.W.Looks (model X.prog X.w) g (typeOf (.ref a)) cls := fun A Q E s k q => wpAny_typeOf_ref (k _ _ at1) (by rw [z1.1]; exact q)
    clear asked hbody
    -- the clauses in turn
    have turn : ∀ (hd2 : List ExceptHandler) (l2 : Suites), Clauses X n hd2 l2 → wClauses X.K i Wout D l2 cls d σ1 H1 → wpAny (model X.prog X.w) X.A (handleBy (.ref a) X.env hd2) (SP X pins D) X.xe { s1 with heap := g } := by
      intro hd2 l2 cl
      induction cl with
      | nil =>
        intro wish
        refine wpAny_handleBy_nil ?_
        obtain ⟨_, _, _, oe, vs, T, oT, ts2, e1, e2, e3, e4, e5⟩ := id fly
        unfold PySem.passOn
        refine wpAny_bind (wpAny_field e1 e3 e4 ?_)
        rw [if_neg (show ¬ ((Value.ref T == Value.none) = true) from by simp)]
        have leave : wpAny (model X.prog X.w) X.A (setFlight (.ref a) X.env.frame) (fun _ s2 => wpAny (model X.prog X.w) X.A (throw (.ref a) : Sem Flow) (SP X pins D) X.xe s2) X.xe { s1 with heap := g } := by
          rw [fr]
          refine HandSPX.setFlight_upZ fly fun g2 held up3 => wpAny_throw (out _ _ ⟨a, B, sI, pins, σ1, H1, cls, d, rfl, J, nb, (up.trans up2).trans up3, .inr (.inr (by rw [stk]; exact held)), na, os, bare, wish⟩)
        first
          | exact wpAny_bind (wpAny_pure (wpAny_bind leave))
          | exact wpAny_bind leave
      | @cons x c ts s0 ss p1 p2 hd3 l3 named suite rest ih =>
        rintro ⟨b, eb, yes, no⟩
        have meets := PySem.W.exm_one (M := model X.prog X.w) J1.kIn types eb
        refine wpAny_handleBy_cons (codeAny_handlers_test ?_) (fun z => nomatch z)
        have name : ∀ {Q : Value → Shared → Prop} {E : Value → Shared → Prop}, Q c { s1 with heap := g } → wpAny (model X.prog X.w) (X.A.mark (some (.ref a))) (eval (.Name x p1) X.env) Q E { s1 with heap := g } := by
          intro Q E q
          obtain ⟨hg, dbg, hm⟩ := named
          rcases hm with hm | ⟨hm, hv, hn⟩
          · exact ld_glob (X := X.suite a ((a, o1) :: (X.pn ++ pins))) inSuite hg hm q dbg
          · exact ld_blt (X := X.suite a ((a, o1) :: (X.pn ++ pins))) inSuite hg hm hv q hn dbg
        refine name (meets.here ?_)
        cases b with
        | false => exact ih (no rfl)
        | true =>
          refine codeAny_handlers_suite_as (HandSPX.lands_againZ fly fun g2 fly2 up3 => ?_)
          have J2 : L2.Inv X pins σ1 H1 { s1 with heap := g2 } := J.landed nb fly2.1 ((up.trans up2).trans up3) os bare
          obtain ⟨o2, v2, at2, z2, d2⟩ := fly2.there
          refine store_ok (X := X.suite a ((a, o2) :: (X.pn ++ pins))) (v := .ref a) (J2.suite at2 d2 na notL notF) nd slot lc rfl (fun s2 S2 => ?_) (.inr loc)
          refine wpAny_mono ((suite a o2 cls d (X.pn ++ pins) z2 ⟨_, d2⟩).run [] s2 _ H1 _ S2 (yes rfl a na)) (fun fl s3 z => ?_) (fun _ _ z => False.elim z)
          have gone : ∀ {σ3 : L2.St} {H3 : Hp} {Q : Shared → Prop}, L2.Inv (X.suite a ((a, o2) :: (X.pn ++ pins))) [] σ3 H3 s3 → (∀ s4, L2.Inv X pins (σ3.set i none) H3 s4 → Q s4) →
              wpAny (model X.prog X.w) X.A (do bindName X.env n .none; unbindBehindTheSuite X.env n p2) (fun _ s4 => Q s4) X.xe s3 := fun S3 q => gone_ok (S3.unsuite good) nd slot loc q
          cases fl with
          | ret u =>
            obtain ⟨v, _, _, S3, rv, q⟩ := z
            exact gone S3 fun _ J4 => ⟨_, _, _, J4, rv, q⟩
          | next =>
            obtain ⟨_, _, S3, q⟩ := z
            exact gone S3 fun _ J4 => ⟨_, _, J4, q⟩
          | brk =>
            obtain ⟨_, _, S3, q⟩ := z
            exact gone S3 fun _ J4 => ⟨_, _, J4, q⟩
          | cont =>
            obtain ⟨_, _, S3, q⟩ := z
            exact gone S3 fun _ J4 => ⟨_, _, J4, q⟩
    exact turn _ _ hcl wish
  cases fl with
  | ret u =>
    obtain ⟨v, σ2, H2, J2, rv, q⟩ := z
    exact ⟨v, σ2, H2, J2.ofTry good, rv, q⟩
  | next =>
    obtain ⟨σ2, H2, J2, q⟩ := z
    exact wpAny_execs_nil ⟨σ2, H2, J2.ofTry good, q⟩
  | brk =>
    obtain ⟨σ2, H2, J2, q⟩ := z
    exact ⟨σ2, H2, J2.ofTry good, q⟩
  | cont =>
    obtain ⟨σ2, H2, J2, q⟩ := z
    exact ⟨σ2, H2, J2.ofTry good, q⟩
end
end Pm
/-! ### errors over trees: what raises, where it goes, who takes it -/
namespace Tr
open PySem PySem.Spec PyProof.Rows L2 SX
abbrev Fs := List (Str × V)
/-- the promise of a def that raises: the class at C, the fields fs -/
def spX (K : PySem.W.Frag) (ds : List D) (C : Addr) (fs : Fs) : Sp := fun vs H _ E => ∃ F, Same F H ∧ Reps K F vs ds ∧ Pm.Lets E C fs H
def spGX (K : PySem.W.Frag) (G : List D → Addr → Fs → Prop) : Sp := fun vs H Q E => ∃ ds C fs, G ds C fs ∧ spX K ds C fs vs H Q E
/-- what stands where the error leaves -/
def erq (K : PySem.W.Frag) (B : Hp × Hp) (W : WX) (C : Addr) (fs : Fs) (Γ : Env) : Prop := ∀ σ F H d, Wd K B F H σ Γ → B.2 d = none → F d = none → H d = some (.xd fs) → W (.ref C) (some d) σ H
def tXE (K : PySem.W.Frag) (B : Hp × Hp) (Γ : Env) (W : WX) (C : Addr) (fs : Fs) : TE := fun σ H _ => ∃ F, Wd K B F H σ Γ ∧ erq K B W C fs Γ
def tXS (K : PySem.W.Frag) (B : Hp × Hp) (Γ Γ' : Env) (W : WX) (C : Addr) (fs : Fs) : TS := fun _ σ H => ∃ F, Wd K B F H σ Γ ∧ erq K B W C fs Γ'
abbrev XE (X : Cx) (B : Hp × Hp) (W : WX) (e : Expr) (Γ : Env) (C : Addr) (fs : Fs) : Prop := PE X e (tXE X.K B Γ W C fs)
abbrev XA (X : Cx) (B : Hp × Hp) (W : WX) (e : List Expr) (Γ : Env) (C : Addr) (fs : Fs) : Prop := PA X e (fun σ H _ => ∃ F, Wd X.K B F H σ Γ ∧ erq X.K B W C fs Γ)
abbrev XT (X : Cx) (B : Hp × Hp) (W : WX) (e : Expr) (Γ : Env) (C : Addr) (fs : Fs) : Prop := PT X e (fun σ H _ => ∃ F, Wd X.K B F H σ Γ ∧ erq X.K B W C fs Γ)
abbrev XS (X : Cx) (B : Hp × Hp) (W : WX) (s : Stmt) (Γ Γ' : Env) (C : Addr) (fs : Fs) : Prop := PS X s (tXS X.K B Γ Γ' W C fs)
abbrev XSs (X : Cx) (B : Hp × Hp) (W : WX) (s : List Stmt) (Γ Γ' : Env) (C : Addr) (fs : Fs) : Prop := PSs X s (tXS X.K B Γ Γ' W C fs)
theorem Wd.rise {K : PySem.W.Frag} {B : Hp × Hp} {F H H' : Hp} {σ : L2.St} {Γ : Env} (w : Wd K B F H σ Γ) (s : Same H H') : Wd K B F H' σ Γ := w.gr ⟨Same.refl _, s, fun _ _ _ n => n⟩ (w.fh.trans s)
theorem lets_of {K : PySem.W.Frag} {B : Hp × Hp} {F H : Hp} {σ : L2.St} {Γ : Env} {W : WX} {C : Addr} {fs : Fs} (w : Wd K B F H σ Γ) (k : erq K B W C fs Γ) : Pm.Lets (WE W σ) C fs H :=
  fun d H' nd hd s => k σ F H' d (w.rise s) (w.hh.free nd) (w.fh.free nd) hd
section
variable {X : Cx} {B : Hp × Hp} {W : WX} {Γ Γ' Γ1 : Env} {e a b c o : Expr} {es rest : List Expr} {x y z : D} {pos apos : Pos} {Ce : Addr} {ef : Fs} {s : Stmt} {ss r : List Stmt} {ou : Out} {p : Bool}
/-! calls that raise -/
theorem x_call {sp : Sp} {ds : List D} (ho : ∀ {t : TA}, PA X es t → PE X e (tCallS sp (WE W) t)) (ha : OkA X B es Γ ds) (h : ∀ vs H Q σ, spX X.K ds Ce ef vs H Q (WE W σ) → sp vs H Q (WE W σ)) : XE X B W e Γ Ce ef :=
  PE.weak (ho ha) fun σ H Q ⟨F, w, k⟩ => ⟨F, w, fun vs F1 H1 w1 g1 r1 => h _ _ _ σ ⟨F1, w1.fh, r1, lets_of w1 k⟩⟩
theorem x_meth {C : Addr} {m : Str} {sp : Sp} {fs : List (Str × D)} {ds : List D} (ho : ∀ {to : TE} {t : TA}, PE X o to → PA X es t → PE X e (Pm.tMethE C m sp (WE W) to t)) (hx : Ok X B o Γ (.obj C fs)) (ha : OkA X B es Γ ds) (nf : fs.lookup m = none)
    (h : ∀ vs H Q σ, spX X.K (.obj C fs :: ds) Ce ef vs H Q (WE W σ) → sp vs H Q (WE W σ)) : XE X B W e Γ Ce ef :=
  PE.weak (ho hx ha) fun σ H Q ⟨F, w, k⟩ => ⟨F, w, fun v F1 H1 w1 g1 r1 => by
    cases r1 with
    | obj h1 r1 =>
      exact ⟨_, _, _, rfl, w1.fh _ _ h1, r1.none nf, F1, w1, fun vs F2 H2 w2 g2 r2 => h _ _ _ σ ⟨F2, w2.fh, .cons (.obj (g2.f _ _ h1) (r1.mono g2.f)) r2, lets_of w2 k⟩⟩⟩
theorem x_cmeth {C : Addr} {sp : Sp} {ds : List D} (ho : ∀ {t : TA}, PA X es t → PE X e (Pm.tCMethE C sp (WE W) (tC (.ref C)) t)) (ha : OkA X B es Γ ds)
    (h : ∀ vs H Q σ, spX X.K (.val (.ref C) :: ds) Ce ef vs H Q (WE W σ) → sp vs H Q (WE W σ)) : XE X B W e Γ Ce ef :=
  PE.weak (ho ha) fun σ H Q ⟨F, w, k⟩ => ⟨rfl, F, w, fun vs F1 H1 w1 g1 r1 => h _ _ _ σ ⟨F1, w1.fh, .cons (.val _) r1, lets_of w1 k⟩⟩
/-- C(..) that raises -/
theorem x_make {C : Addr} {sp : Sp} {ds : List D} (ho : ∀ {t : TA}, PA X es t → PE X e (Pm.tMakeS C sp (WE W) t)) (ha : OkA X B es Γ ds)
    (h : ∀ x dx vs H Q E, H x = some (.ins C dx []) → spX X.K ds Ce ef vs H Q E → sp (.ref x :: vs) H Q E) : XE X B W e Γ Ce ef :=
  PE.weak (ho ha) fun σ H Q ⟨F, w, k⟩ => ⟨F, w, fun vs F1 H1 w1 g1 r1 xa dx nx nd ne => by
    have keep : Same H1 (upd (upd H1 dx (.own xa)) xa (.ins C dx [])) := fun a u e => by
      rw [upd_ne (ne_of_none e nx), upd_ne (ne_of_none e nd)]
      exact e
    exact h _ _ _ _ _ _ upd_same ⟨F1, w1.fh.trans keep, r1, lets_of (w1.rise keep) k⟩⟩
/-! statements -/
theorem xs_expr (ho : ∀ {t : TE}, PE X e t → PS X s (tDrop t)) (h : XE X B W e Γ Ce ef) : XS X B W s Γ Γ Ce ef := PS.weak (ho h) fun _ _ _ q => q
theorem xs_set {i : Nat} (ho : ∀ {t : TE}, PE X e t → PS X s (tAsg t (gName i))) (h : XE X B W e Γ Ce ef) : XS X B W s Γ Γ Ce ef := PS.weak (ho h) fun _ _ _ q => q
theorem xs_ret (h : XE X B W e Γ Ce ef) : XS X B W (.Return (some e) pos) Γ Γ Ce ef := PS.weak (ps_ret h) fun _ _ _ q => q
theorem xs_here (h : XS X B W s Γ Γ' Ce ef) : XSs X B W (s :: r) Γ Γ' Ce ef := PSs.weak (pss_cons h (PSs.when (p := False) (t := fun _ _ _ => True) fun z => z.elim)) fun _ _ _ q => q
theorem xs_one (h : XS X B W s Γ Γ' Ce ef) : XSs X B W [s] Γ Γ' Ce ef := pss_one h
theorem xs_cons (h : OkS X B s Γ (.nx Γ1)) (hr : XSs X B W r Γ1 Γ' Ce ef) : XSs X B W (s :: r) Γ Γ' Ce ef := PSs.weak (pss_cons h hr) fun D σ H ⟨F, w, k⟩ => ⟨F, w, fun σ' F' H' w' => ⟨F', w', k⟩⟩
theorem xs_ifYes (hc : OkT X B c Γ true) (ha : XSs X B W ss Γ Γ' Ce ef) : XS X B W (.If c ss r pos) Γ Γ' Ce ef :=
  PS.weak (ps_if hc ha (PSs.when (p := False) (t := fun _ _ _ => True) fun z => z.elim)) fun D σ H ⟨F, w, k⟩ => ⟨F, w, fun F1 H1 w1 g1 => iteT ⟨F1, w1, k⟩⟩
theorem xs_ifNo (hc : OkT X B c Γ false) (ha : XSs X B W r Γ Γ' Ce ef) : XS X B W (.If c ss r pos) Γ Γ' Ce ef :=
  PS.weak (ps_if hc (PSs.when (p := False) (t := fun _ _ _ => True) fun z => z.elim) ha) fun D σ H ⟨F, w, k⟩ => ⟨F, w, fun F1 H1 w1 g1 => iteF ⟨F1, w1, k⟩⟩
/-- raise C(..) -/
theorem xs_raise {C : Addr} {sp : Sp} {ds : List D} {fs : Fs} (hc : X.calm = true) (tk : Takes X W) (ho : ∀ {t : TA}, PA X es t → PMk X e (tMkO C sp [] t)) (ha : OkA X B es Γ ds) (few : ds.length ≤ 1000)
    (h : ∀ F H a vs Q E, Reps X.K F vs ds → (∀ H2 d, H2 a = some (exo a C (some d)) → H2 d = some (exd d fs) → (upd H a (exo a C none)) d = none → d ≠ a → Pm.SameBut a (upd H a (exo a C none)) H2 → Q .non H2) → sp (.ref a :: vs) (upd H a (exo a C none)) Q E) :
    XS X B W (.Raise (some e) none pos) Γ Γ C fs := PS.weak (ps_raise hc tk (ho ha)) fun D σ H ⟨F, w, k⟩ => ⟨F, w, fun vs F1 H1 w1 g1 r1 => ⟨by rw [r1.length]; exact few, fun a na => by
      rw [List.append_nil]
      refine h F1 H1 a vs _ _ r1 fun H2 d h1 h2 nd ne sb => ⟨rfl, d, fs, h1, h2, ?_, ?_⟩
      · rwa [upd_ne ne] at nd
      · exact lets_of w1 k d _ (by rwa [upd_ne ne] at nd) upd_same (Pm.on_way na nd ne sb)⟩⟩
theorem xs_raise1 {C f : Addr} {fd : FuncData} {n nm : Str} {u : V} (hc : X.calm = true) (tk : Takes X W) (xv : Pm.EMk X.prog X.w X.K X.mg X.base C nm ["self", n] (Pm.spE1 C n) f fd) (ho : ∀ {t : TA}, PA X es t → PMk X e (tMkO C (Pm.spE1 C n) [] t)) (ha : OkA X B es Γ [x]) (hu : ∀ F v, Rep X.K F v x → v = u) :
    XS X B W (.Raise (some e) none pos) Γ Γ C [(n, u)] := xs_raise hc tk ho ha (by show 1 ≤ 1000; decide) fun F H a vs Q E r k => by
  cases r with
  | cons r1 r =>
    cases r
    cases hu _ _ r1
    exact ⟨a, _, rfl, upd_same, fun H2 d h1 h2 nd ne sb => k H2 d h1 h2 nd ne sb⟩
theorem xs_raise2 {C f : Addr} {fd : FuncData} {nm : Str} {u v : V} (hc : X.calm = true) (tk : Takes X W) (xv : Pm.EMk X.prog X.w X.K X.mg X.base C nm ["self", "x", "y"] (Pm.spE2 C) f fd) (ho : ∀ {t : TA}, PA X es t → PMk X e (tMkO C (Pm.spE2 C) [] t)) (ha : OkA X B es Γ [x, y]) (hu : ∀ F v', Rep X.K F v' x → v' = v) (hv : ∀ F v, Rep X.K F v y → v = u) :
    XS X B W (.Raise (some e) none pos) Γ Γ C [("y", u), ("x", v)] := xs_raise hc tk ho ha (by show 2 ≤ 1000; decide) fun F H a vs Q E r k => by
  cases r with
  | cons r1 r =>
    cases r with
    | cons r2 r =>
      cases r
      cases hu _ _ r1
      cases hv _ _ r2
      exact ⟨a, _, _, rfl, upd_same, fun H2 d h1 h2 nd ne sb => k H2 d h1 h2 nd ne sb⟩
end
/-- a def that raises keeps its promise -/
theorem tree_wishX {K : PySem.W.Frag} {N : List Str} {ds : List D} {C : Addr} {fs : Fs} {vs : List V} {H : Hp} {Q : VK} {E : XK} {D : Ends} {Γ' : Env} (h : spX K ds C fs vs H Q E) (l : ds.length ≤ N.length) :
    ∃ B : Hp × Hp, tXS K B (ds.map Sl.d ++ List.replicate (N.length - ds.length) .no) Γ' (fun cls d _ H => E cls d H) C fs D (L2.start N vs) H := by
  obtain ⟨F, fh, r, k⟩ := h
  exact ⟨(F, H), F, wd_start fh r (by rw [r.length]; exact l), fun σ F' H' d w nb nf hd => k d H' nb hd w.hh⟩
theorem spGX_len {K : PySem.W.Frag} {G : List D → Addr → Fs → Prop} {n : Nat} (h : ∀ ds C fs, G ds C fs → ds.length = n) : ∀ vs H Q E, spGX K G vs H Q E → vs.length = n := fun vs H Q E ⟨ds, C, fs, g, F, _, r, _⟩ => by rw [r.length]; exact h _ _ _ g
theorem s_retHere {X : Cx} {B : Hp × Hp} {s : Stmt} {r : List Stmt} {Γ : Env} {d : D} (h : OkS X B s Γ (.rt d)) : OkSs X B (s :: r) Γ (.rt d) := PSs.weak (pss_cons h (PSs.when (p := False) (t := fun _ _ _ => True) fun z => z.elim)) fun D σ H ⟨F, w, k⟩ => ⟨F, w, k⟩
/-- a statement over trees, then what is by hand -/
theorem s_consTo {X : Cx} {B : Hp × Hp} {s : Stmt} {r : List Stmt} {Γ Γ1 : Env} {t : TS} (h : OkS X B s Γ (.nx Γ1)) (hr : PSs X r t) : PSs X (s :: r) (fun D σ H => ∃ F, Wd X.K B F H σ Γ ∧ ∀ σ2 F2 H2, Wd X.K B F2 H2 σ2 Γ1 → t D σ2 H2) := PSs.weak (pss_cons h hr) fun D σ H ⟨F, w, k⟩ => ⟨F, w, k⟩
/-! the suite that takes it -/
theorem Wd.base {K : PySem.W.Frag} {B : Hp × Hp} {F H : Hp} {σ : L2.St} {Γ : Env} (w : Wd K B F H σ Γ) (no : ∀ (j : Nat) (c : Ow), Γ[j]? = some (.own c) → False) : Wd K (F, H) F H σ Γ := by
  refine ⟨Same.refl _, Same.refl _, w.fh, fun _ _ _ h => h, w.len, fun j o s h1 h2 => ?_, fun j k p xs ys ne h1 h2 h3 h4 => no j xs h3⟩
  have q := w.sl j o s h1 h2
  cases s with
  | no => trivial
  | d x => exact q
  | own c => exact (no j c h2).elim
theorem Wb.back {K : PySem.W.Frag} {B : Hp × Hp} {F H F' H' : Hp} {σ : L2.St} {Γ : Env} (w : Wd K B F H σ Γ) (q : Wb (F, H) F' H') : Wb B F' H' := ⟨w.ff.trans q.ff, w.hh.trans q.hh, q.fh, fun a o e n => q.ex a o (w.hh _ _ e) (w.ex a o e n)⟩
theorem Wd.back {K : PySem.W.Frag} {B : Hp × Hp} {F H F' H' : Hp} {σ σ' : L2.St} {Γ Γ' : Env} (w : Wd K B F H σ Γ) (q : Wd K (F, H) F' H' σ' Γ') : Wd K B F' H' σ' Γ' := by
  have b := Wb.back w q.b
  refine ⟨b.ff, b.hh, b.fh, b.ex, q.len, fun j o s h1 h2 => ?_, q.dj⟩
  have z := q.sl j o s h1 h2
  cases s with
  | no => trivial
  | d x => exact z
  | own c =>
    obtain ⟨p, ho, e, h0, hF, hp, r⟩ := z
    exact ⟨p, ho, e, w.hh.free h0, hF, hp, r⟩
theorem Wd.drop {K : PySem.W.Frag} {B : Hp × Hp} {F H : Hp} {σ : L2.St} {Γ : Env} (w : Wd K B F H σ Γ) (i : Nat) (o' : Option V) : Wd K B F H (σ.set i o') (Γ.set i .no) := by
  refine ⟨w.ff, w.hh, w.fh, w.ex, by rw [List.length_set, List.length_set, w.len], fun j o s h1 h2 => ?_, fun j k p xs ys ne h1 h2 h3 h4 => ?_⟩
  · rw [List.getElem?_set] at h1 h2
    by_cases e : i = j
    · rw [if_pos e] at h2
      split at h2
      · cases h2
        trivial
      · cases h2
    · rw [if_neg e] at h1 h2
      exact w.sl j o s h1 h2
  · rw [List.getElem?_set] at h1 h2 h3 h4
    have nj : i ≠ j := fun e => by
      rw [if_pos e] at h3
      split at h3 <;> cases h3
    have nk : i ≠ k := fun e => by
      rw [if_pos e] at h4
      split at h4 <;> cases h4
    rw [if_neg nj] at h1 h3
    rw [if_neg nk] at h2 h4
    exact w.dj j k p xs ys ne h1 h2 h3 h4
def Out.drop (i : Nat) : Out → Out
  | .nx Γ => .nx (Γ.set i .no)
  | .rt d => .rt d
section
variable {X : Cx} {B : Hp × Hp} {W : WX} {Γ Γ' Γ1 : Env} {e a b c o : Expr} {es rest : List Expr} {x y z : D} {pos apos : Pos} {Ce : Addr} {ef : Fs} {s : Stmt} {r : List Stmt} {ou : Out} {p : Bool}
/-- what the clauses in turn say of the error: those that are not for it, then the one that is -/
inductive Takers (X : Cx) (n : Str) (i : Nat) (Γ' : Env) (Ce : Addr) (ef : Fs) (ou : Out) : List ExceptHandler → Prop
  | here {x : Str} {c : Value} {s0 : Stmt} {ss : List Stmt} {p1 p2 : Pos} {hds : List ExceptHandler} (named : Names X x c) (yes : PySem.W.exmOne X.K (.ref Ce) c = some true)
      (suite : ∀ (a d : Addr) (oe : Obj) (pn : List (Addr × Obj)) (B : Hp × Hp), Zc (.ref Ce) (some d) oe → (∃ vs, oe.data = .fields vs) → B.2 d = some (.xd ef) → OkSs (X.suite a ((a, oe) :: pn)) B (s0 :: ss) (Γ'.set i (.d (.val (.ref a)))) ou)
      (rest : ∃ l, Pm.Clauses X n hds l) : Takers X n i Γ' Ce ef ou (.ExceptHandler (some (.Name x p1)) (some n) (s0 :: ss) p2 :: hds)
  | next {x : Str} {c : Value} {s0 : Stmt} {ss : List Stmt} {p1 p2 : Pos} {hds : List ExceptHandler} (named : Names X x c) (no : PySem.W.exmOne X.K (.ref Ce) c = some false) (rest : Takers X n i Γ' Ce ef ou hds) : Takers X n i Γ' Ce ef ou (.ExceptHandler (some (.Name x p1)) (some n) (s0 :: ss) p2 :: hds)
theorem Takers.cl {n : Str} {i : Nat} {hds : List ExceptHandler} (T : Takers X n i Γ' Ce ef ou hds) (no : ∀ (j : Nat) (c : Ow), Γ'[j]? = some (.own c) → False) :
    ∃ l, Pm.Clauses X n hds l ∧ ∀ (D : Ends) (B : Hp × Hp), after X.K B D (ou.drop i) → erq X.K B (Pm.wClauses X.K i (fun _ _ _ _ => False) D l) Ce ef Γ' := by
  induction T with
  | @here x c s0 ss p1 p2 hds named yes suite rest =>
    obtain ⟨l, cl⟩ := rest
    refine ⟨(c, fun a cls d D σ H => ∃ d0, (cls = .ref Ce ∧ d = some d0) ∧ ∃ B : Hp × Hp, B.2 d0 = some (.xd ef) ∧ tSt X.K B (Γ'.set i (.d (.val (.ref a)))) ou D σ H) :: l, .cons named (fun a oe cls d pn hz hf => PSs.exi fun d0 => PSs.when fun q => PSs.exi fun B2 => PSs.when fun hB => ?_) cl, fun D B k σ F H d w nb nf hd => ⟨true, yes, fun _ a na => ⟨d, ⟨rfl, rfl⟩, (F, H), hd, F, (w.base no).set (.val _), ?_⟩, fun z => nomatch z⟩⟩
    · obtain ⟨rfl, rfl⟩ := q
      exact suite a d0 oe pn B2 hz hf hB
    · cases ou with
      | nx Γ2 =>
        intro σ2 F2 H2 w2
        exact k _ F2 H2 ((w.back w2).drop i none)
      | rt dd =>
        intro v F2 H2 wb rv
        exact k v F2 H2 (Wb.back w wb) rv
  | @next x c s0 ss p1 p2 hds named nm rest ih =>
    obtain ⟨l, cl, q⟩ := ih
    refine ⟨(c, fun _ _ _ _ _ _ => False) :: l, .cons named (fun a oe cls d pn hz hf => ⟨fun _ _ _ _ _ _ z => z.elim⟩) cl, fun D B k σ F H d w nb nf hd => ⟨false, nm, (fun z => nomatch z), fun _ => q D B k σ F H d w nb nf hd⟩⟩
/-- try: what raises; except .. as n: .. -/
theorem s_tryX {n : Str} {i : Nat} {body : List Stmt} {h0 : ExceptHandler} {hds : List ExceptHandler} (stk : X.stack = X.env :: X.outer) (fr : X.env.frame = some X.env.locals) (nd : X.N.Nodup) (slot : X.N[i]? = some n) (loc : X.env.kindOf n = some .local) (out : Takes X (fun _ _ _ _ => False))
    (hb : ∀ (W : WX) (pn : List (Addr × Obj)) (xe : Value → Shared → Prop), Takes (X.tr pn xe) W → XSs (X.tr pn xe) B W body Γ Γ' Ce ef) (T : Takers X n i Γ' Ce ef ou (h0 :: hds)) (no : ∀ (j : Nat) (c : Ow), Γ'[j]? = some (.own c) → False) :
    OkS X B (.Try body (h0 :: hds) [] [] pos) Γ (ou.drop i) := by
  obtain ⟨l, cl, q⟩ := T.cl no
  exact PS.weak (Pm.ps_try_clauses (i := i) (n := n) (l := l) (tb := fun W => tXS X.K B Γ Γ' W Ce ef) (Wout := fun _ _ _ _ => False) stk fr nd slot loc out (fun W pn xe t _ => hb W pn xe t) cl) fun D σ H ⟨F, w, k⟩ => ⟨F, w, q D B k⟩
/-! what the suite asks of it -/
theorem t_errF {at_ : Addr} {oe : Obj} {d : Addr} {pn : List (Addr × Obj)} {f : Str} {v : V} (hz : Zc (.ref Ce) (some d) oe) (hf : ∃ vs, oe.data = .fields vs) (C : Pm.ErrC X.K Ce) (nf : PySem.W.findIn X.K (.ref Ce) f = some none) (hB : B.2 d = some (.xd ef)) (l : ef.lookup f = some v) (rv : ∀ F, Rep X.K F v z)
    (he : Ok (X.suite at_ ((at_, oe) :: pn)) B e Γ (.val (.ref at_))) (hb : attributeBase e f X.env (eval e X.env) = eval e X.env := by rfl) : Ok (X.suite at_ ((at_, oe) :: pn)) B (.Attribute e f pos) Γ z :=
  PE.weak (Pm.pe_errX hz hf he hb) fun σ H Q ⟨F, w, k⟩ => ⟨F, w, fun u F1 H1 w1 g1 r1 => by
    cases r1
    exact ⟨Ce, d, ef, v, rfl, rfl, rfl, C, nf, w1.hh _ _ hB, l, k v F1 H1 w1 g1 (rv _)⟩⟩
theorem t_isX {at_ : Addr} {oe : Obj} {d : Addr} {pn : List (Addr × Obj)} {c : V} {cv : Value} {b : Bool} (hB : B.2 d = some (.xd ef)) (C : Pm.ErrC X.K Ce) (hc : ∀ u, RelV c u → u = cv) (kit : PySem.W.kitOne X.K (.ref Ce) cv = some b)
    (ho : ∀ {t : TA}, PA (X.suite at_ ((at_, oe) :: pn)) es t → PE (X.suite at_ ((at_, oe) :: pn)) e (tCB (Pm.rIsX X.K at_ (.ref Ce) (some d)) t)) (ha : OkA (X.suite at_ ((at_, oe) :: pn)) B es Γ [.val (.ref at_), .val c]) : Ok (X.suite at_ ((at_, oe) :: pn)) B e Γ (.bl b) :=
  PE.weak (ho ha) fun σ H Q ⟨F, w, k⟩ => ⟨F, w, fun vs F1 H1 w1 g1 r1 => by
    cases r1 with
    | cons r1 r2 =>
      cases r2 with
      | cons r2 r3 =>
        cases r3
        cases r1
        cases r2
        exact ⟨Ce, d, ef, c, cv, b, rfl, rfl, rfl, C, w1.hh _ _ hB, hc, kit, k _ F1 H1 w1 g1 (.bl _)⟩⟩
/-! a list of the def's own: its length; it is turned round -/
theorem t_lenOwn {xs : List D} {i : Nat} (h : PE X e (tCB (rLen X.K) (tCons (tVar i) tNil))) (g : Γ[i]? = some (.own (.l xs))) : Ok X B e Γ (.int (xs.length : Int)) := PE.weak h fun σ H Q ⟨F, w, k⟩ => by
  obtain ⟨p, ho, e, h0, hF, hp, r⟩ := w.own g
  obtain ⟨us, rfl, q⟩ := r.lst
  exact ⟨_, e, p, us, rfl, .inl (tofl hp), by rw [q.length]; exact k _ F H w (Gr.refl _ _) (.int _)⟩
theorem s_reverse {xs : List D} {i : Nat} (h : PS X s (tDrop (tBM0 X.K "list" rReverse (tVar i)))) (g : Γ[i]? = some (.own (.l xs))) : OkS X B s Γ (.nx (Γ.set i (.own (.l xs.reverse)))) := PS.weak h fun D σ H ⟨F, w, k⟩ => by
  obtain ⟨p, ho, e, h0, hF, hp, r⟩ := w.own g
  obtain ⟨us, rfl, q⟩ := r.lst
  exact ⟨_, e, .inl ⟨rfl, _, tofl hp⟩, p, us, rfl, rfl, hp, k _ F _ (w.grow e g hp h0 hF (.l q.rev))⟩
end
end Tr
/-! ### sketches: what their methods say (written by gen_sk1.py) -/
namespace Tr
open PySem PySem.Spec PyProof.Rows L2 SX
section
variable {X : Cx} {B : Hp × Hp} {Γ : Env} {e a b c : Expr} {i j k : Int}
theorem i_as {tg : Expr} {ds ds' : List D} (h : OkI X B tg e Γ ds) (q : ds = ds') : OkI X B tg e Γ ds' := q ▸ h
end
end Tr
namespace Pm
open PySem PySem.Spec PyProof.Rows L2 SX Tr
/-- the scope of a comprehension -/
@[reducible] def cutScope (ns : List (Str × NameKind)) : Scope := { kind := .function, names := ns, isGenerator := false, isCoroutine := false }
theorem S_any : S anyL = (".abcdefghijklmnopqrstuvwxyz" : Str) := by decide +kernel
structure Kls (K : PySem.W.Frag) (mg : Str → Option Value) (CS : Addr) : Prop where
  cl : L2.Cls K CS
  nW : NoAttr K CS "width"
  nH : NoAttr K CS "height"
  nR : NoAttr K CS "_rows"
  any : ∃ u, Con K CS "ANY" (.str ".abcdefghijklmnopqrstuvwxyz") u
  gS : mg "Sketch" = some (.ref CS)
  aw : ∃ u, mg "_ANY_WORD" = some u ∧ RelV (.str "*") u
abbrev tabD (T : Tab) : D := .lst (T.map fun r => .lst (r.map D.tx))
abbrev skD (CS : Addr) (T : Tab) (m n : Nat) : D := .obj CS [("width", .int m), ("height", .int n), ("_rows", tabD T)]
/-- a word that a cell may have -/
def okW (w : List Nat) : Prop := w ≠ [] ∧ w.length ≤ 27 ∧ (∀ c ∈ w, c = 46 ∨ (97 ≤ c ∧ c ≤ 122)) ∧ w.Nodup ∧ asc w = w
structure TabOk (T : Tab) (m n : Nat) : Prop where
  h : T.length = n
  w : ∀ r ∈ T, r.length = m
  m1 : 1 ≤ m
  m8 : m ≤ 8
  n1 : 1 ≤ n
  n8 : n ≤ 8
  ok : ∀ r ∈ T, ∀ w ∈ r, okW w
theorem starW_len {w : List Nat} (h : w.length ≤ 27) : (starW w).length ≤ 27 := by
  unfold starW
  split
  · show 1 ≤ 27
    decide
  · exact h
theorem join_len {c : Nat} {m : Nat} : ∀ (ws : List (List Nat)), (∀ w ∈ ws, w.length ≤ m) → (TL.joinL [c] ws).length ≤ ws.length * (m + 1)
  | [], _ => Nat.zero_le _
  | [w], h => by
    show w.length ≤ 1 * (m + 1)
    have := h w List.mem_cons_self
    omega
  | w :: v :: r, h => by
    show (w ++ ([c] ++ TL.joinL [c] (v :: r))).length ≤ _
    have ih := join_len (c := c) (v :: r) fun u m => h u (List.mem_cons_of_mem _ m)
    have hw := h w List.mem_cons_self
    have e : (w :: v :: r).length * (m + 1) = (v :: r).length * (m + 1) + (m + 1) := by rw [List.length_cons (a := w), Nat.add_mul, Nat.one_mul]
    rw [List.length_append, List.length_append, e]
    show w.length + (1 + (TL.joinL [c] (v :: r)).length) ≤ _
    omega
theorem row_len {T : Tab} {m n : Nat} (h : TabOk T m n) {r : List (List Nat)} (hr : r ∈ T) : (TL.joinL [32] r).length ≤ 224 := by
  have e := join_len (c := 32) (m := 27) r fun w mw => (h.ok r hr w mw).2.1
  rw [h.w r hr] at e
  have := h.m8
  omega
theorem star_ok_len {T : Tab} {m n : Nat} (h : TabOk T m n) {r : List (List Nat)} (hr : r ∈ T) : (TL.joinL [32] (r.map starW)).length ≤ 224 := by
  have e := join_len (c := 32) (m := 27) (r.map starW) fun w mw => by
    obtain ⟨v, mv, rfl⟩ := List.mem_map.mp mw
    exact starW_len (h.ok r hr v mv).2.1
  rw [List.length_map, h.w r hr] at e
  have := h.m8
  omega
theorem tab_len {T : Tab} {m n : Nat} (h : TabOk T m n) : (tabT T).length ≤ 1800 := by
  unfold tabT
  have e := join_len (c := 10) (m := 224) (T.map fun r => TL.joinL [32] r) fun w mw => by
    obtain ⟨r, mr, rfl⟩ := List.mem_map.mp mw
    exact row_len h mr
  rw [List.length_map, h.h] at e
  have := h.n8
  omega
theorem star_eq (w : List Nat) : (bif decide (w = anyL) then D.tx [42] else D.tx w) = D.tx (starW w) := by
  unfold starW
  by_cases e : w = anyL
  · rw [decide_eq_true e, if_pos e]; rfl
  · rw [decide_eq_false e, if_neg e]; rfl
section
variable {P : Program} {w : World} {K : PySem.W.Frag} {mg : Str → Option Value} {base : Heap} {CS : Addr}
/-! text -/
def gSkText (CS : Addr) (ds : List D) (d : D) : Prop := ∃ T m n, TabOk T m n ∧ ds = [skD CS T m n] ∧ d = .tx (tabT (starT T))
abbrev nSkText : List Str := ["self", "words", "row", "signs"]
theorem scSkText : FnScope nSkText ["self"] (defScope cSketchText) := ⟨rfl, rfl, rfl, by decide +kernel, rfl, by decide +kernel, by decide +kernel⟩
theorem ok_skText {f : Addr} {fd : FuncData} (F : Fun K "text" "Sketch.text" cSketchText f fd) (T : Kls K mg CS) : FnOk P w K mg base CX0 1 f fd ["self"] (spG K (gSkText CS)) := by
  refine F.ok scSkText (spG_len fun ds d ⟨_, _, _, _, e, _⟩ => by rw [e]; rfl) (fun cdv A outer s H vs Q E hr h => ?_)
  obtain ⟨ds, d, ⟨R, m, n, g, rfl, rfl⟩, h⟩ := h
  obtain ⟨B, tw⟩ := tree_wish (N := nSkText) h (by show 1 ≤ 4; decide)
  refine ⟨_, (show OkSs _ B _ [.d (skD CS R m n), .no, .no, .no] (.rt (.tx (tabT (starT R)))) from ?_), tw⟩
  obtain ⟨uA, cA⟩ := T.any
  obtain ⟨uW, hW, rW⟩ := T.aw
  have few : R.length ≤ 90000 := by rw [g.h]; have := g.n8; omega
  have fewr : ∀ r ∈ R, r.length ≤ 90000 := fun r m1 => by rw [g.w r m1]; have := g.m8; omega
  have e1 : D.lst (R.map fun r => D.tx (TL.joinL [32] (r.map starW))) = .lst ((R.map fun r => TL.joinL [32] (r.map starW)).map D.tx) := by rw [List.map_map]; rfl
  have e2 : TL.joinL [10] (R.map fun r => TL.joinL [32] (r.map starW)) = tabT (starT R) := by
    unfold tabT starT
    rw [List.map_map]
    rfl
  have l1 : ∀ r ∈ R, ∀ z ∈ r.map starW, z.length ≤ 27 := fun r mr z mz => by
    obtain ⟨v, mv, rfl⟩ := List.mem_map.mp mz
    exact starW_len (g.ok r mr v mv).2.1
  have l2 : ∀ r ∈ R, (r.map starW).length * (27 + 1) ≤ 16777216 := fun r mr => by rw [List.length_map, g.w r mr]; have := g.m8; omega
  have l3 : ∀ z ∈ R.map fun r => TL.joinL [32] (r.map starW), z.length ≤ 224 := fun z mz => by
    obtain ⟨r, mr, rfl⟩ := List.mem_map.mp mz
    exact star_ok_len g mr
  have l4 : (R.map fun r => TL.joinL [32] (r.map starW)).length * (224 + 1) ≤ 16777216 := by rw [List.length_map, g.h]; have := g.n8; omega
  refine (s_cons (s_setLc (i := 1) (vs := [2]) (R) (fun r => .lst (r.map D.tx)) (fun k => _) (fun r => .lst ((r.map starW).map D.tx)) (fun h => by exact ps_setLc (i := 1) (own := [("row", 2)]) (g := (gName 2)) (tt := tYes) rfl scSkText.nd rfl rfl (sw_true rfl rfl rfl (by decide +kernel)) h (blkOk_by (own := [("row", 2)]) (N := nSkText) (sc := defScope cSketchText) (by decide +kernel)) (fun _ _ _ _ _ => (pg_name (i := 2) scSkText.nd rfl (.inl rfl))) (fun _ _ _ _ _ => pts_nil) (fun _ _ _ _ _ => (pe_el fun B k m => (ok_as (t_lc (vs := [3]) (k) D.tx (fun k => _) (fun w => .tx (starW w)) (fun h => by exact pe_lc (own := [("signs", 3)]) (g := (gName 3)) (tt := tYes) rfl scSkText.nd h (blkOk_by (own := [("signs", 3)]) (N := nSkText) (sc := cutScope [(".0", .local), ("row", .local), ("self", .cell)]) (by decide +kernel)) (fun _ _ _ _ _ => (pg_name (i := 3) scSkText.nd rfl (.inl rfl))) (fun _ _ _ _ _ => pts_nil) (fun _ _ _ _ _ => (pe_el fun B1 k1 m1 => (ok_as (t_if (o_op (fun p q => pt_cmpR op_eq p q (nomark _)) (ok_var (pv 3) rfl) (t_con (ok_var (pv 0) rfl) T.cl cA rfl (fun F => by rw [← S_any]; exact .str _) rfl) r2_eqS) (fun _ => ok_as (ok_glob (by rfl) hW rW (fun _ _ => .str _)) rfl) (fun _ => ok_var (pv 3) rfl)) (star_eq _))))) (i_list (ok_var (pv 2) rfl)) (fun _ _ _ => (b_name (i := 3) (by decide))) (fewr k m)) (by rw [List.map_map]; rfl))))) (i_list (t_fld (ok_var (pv 0) rfl) T.cl T.nR rfl rfl)) (fun _ _ _ => (b_name (i := 2) (by decide))) few)
    (s_one (s_ret (ok_as (t_bm (fun h g => pe_bm PySem.F.plainAttrs_str PySem.F.slot_str_join PySem.F.type_str_join mt_join h g) (ok_tx (z := [10]) (by decide +kernel)) (a_cons (ok_as (t_lc (vs := [2]) (R) (fun r => .lst ((r.map starW).map D.tx)) (fun k => _) (fun r => .tx (TL.joinL [32] (r.map starW))) (fun h => by exact pe_lc (own := [("row", 2)]) (g := (gName 2)) (tt := tYes) rfl scSkText.nd h (blkOk_by (own := [("row", 2)]) (N := nSkText) (sc := defScope cSketchText) (by decide +kernel)) (fun _ _ _ _ _ => (pg_name (i := 2) scSkText.nd rfl (.inl rfl))) (fun _ _ _ _ _ => pts_nil) (fun _ _ _ _ _ => (pe_el fun B k m => (t_bm (fun h g => pe_bm PySem.F.plainAttrs_str PySem.F.slot_str_join PySem.F.type_str_join mt_join h g) (ok_tx (z := [32]) (by decide +kernel)) (a_cons (ok_var (pv 2) rfl) a_nil) ty_str (rm_join 27 (l1 k m) (l2 k m)))))) (i_list (ok_var (pv 1) rfl)) (fun _ _ _ => (b_name (i := 2) (by decide))) few) e1) a_nil) ty_str (rm_join 224 l3 l4)) (congrArg D.tx e2)))))
/-! the law's text of a table -/
def gLText (ds : List D) (d : D) : Prop := ∃ T m n, TabOk T m n ∧ ds = [tabD T] ∧ d = .tx (tabT (starT T))
abbrev nLText : List Str := ["_law_table_here", "_law_line"]
theorem scLText : FnScope nLText ["_law_table_here"] (defScope lSketchText) := ⟨rfl, rfl, rfl, by decide +kernel, rfl, by decide +kernel, by decide +kernel⟩
theorem scAny : FnScope [] [] (defScope lAny) := ⟨rfl, rfl, rfl, by decide +kernel, rfl, by decide +kernel, by decide +kernel⟩
def spAny : Sp := fun vs H Q _ => vs = [] ∧ Q (.str (S anyL)) H
theorem ok_any {f : Addr} {fd : FuncData} (F : Fun K "_law_any" "_law_any" lAny f fd) : FnOk P w K mg base CX0 1 f fd [] spAny := by
  refine F.ok scAny (fun vs H Q E h => by rw [h.1]; rfl) (fun cdv A outer s H vs Q E hr h => ?_)
  obtain ⟨rfl, q⟩ := h
  refine ⟨_, (pss_one (ps_ret pe_str)), ?_⟩
  rw [S_any] at q
  exact q
theorem repl_S (T : Tab) (h : ∀ r ∈ T, ∀ w ∈ r, w.length ≤ 27) : Txt.replace (S (tabT T)) ".abcdefghijklmnopqrstuvwxyz" "*" = S (tabT (starT T)) := by
  rw [← S_any]
  have e := PySem.StrLaws.replace_list (x := S (tabT T)) (y := S anyL) (z := "*") (by rw [S_len]; decide)
  rw [cpsS, cpsS, show ("*" : Str).cps.toList = [42] from by decide +kernel, repl_tab h] at e
  have back : ∀ s : Str, s = S s.cps.toList := fun s => by
    obtain ⟨a⟩ := s
    rfl
  rw [back (Txt.replace _ _ _), e]
theorem ok_lText {f g : Addr} {fd gd : FuncData} (F : Fun K "_law_sketch_text" "_law_sketch_text" lSketchText f fd) (G : Fun K "_law_any" "_law_any" lAny g gd) (bG : Binds K gd [] []) (mG : mg "_law_any" = some (.ref g)) : FnOk P w K mg base CX0 1 f fd ["_law_table_here"] (spG K gLText) := by
  refine RepC.okT F scLText (by decide +kernel) (by decide) (spG_len fun ds d ⟨_, _, _, _, e, _⟩ => by rw [e]; rfl) (fun cdv A outer s H vs Q E hr h => ?_)
  obtain ⟨ds, d, ⟨R, m, n, g0, rfl, rfl⟩, h⟩ := h
  obtain ⟨B, F0, w0, tw⟩ := tree_wish (N := nLText) h (by show 1 ≤ 2; decide)
  have few : R.length ≤ 90000 := by rw [g0.h]; have := g0.n8; omega
  have l1 : ∀ r ∈ R, ∀ z ∈ r, z.length ≤ 27 := fun r mr z mz => (g0.ok r mr z mz).2.1
  have l2 : ∀ r ∈ R, r.length * (27 + 1) ≤ 16777216 := fun r mr => by rw [g0.w r mr]; have := g0.m8; omega
  have l3 : ∀ z ∈ R.map fun r => TL.joinL [32] r, z.length ≤ 224 := fun z mz => by
    obtain ⟨r, mr, rfl⟩ := List.mem_map.mp mz
    exact row_len g0 mr
  have l4 : (R.map fun r => TL.joinL [32] r).length * (224 + 1) ≤ 16777216 := by rw [List.length_map, g0.h]; have := g0.n8; omega
  have e1 : D.lst (R.map fun r => D.tx (TL.joinL [32] r)) = .lst ((R.map fun r => TL.joinL [32] r).map D.tx) := by rw [List.map_map]; rfl
  have big := tab_len g0
  refine ⟨_, (CwR.psst_one (CwR.pst_ret (RepC.pet_replF (show Ok _ B _ [.d (tabD R), .no] (.tx (tabT R)) from ?_) G scAny rfl hr (by rfl) mG bG))), ?_⟩
  · refine (t_bm (fun h g => pe_bm PySem.F.plainAttrs_str PySem.F.slot_str_join PySem.F.type_str_join mt_join h g) (ok_tx (z := [10]) (by decide +kernel)) (a_cons (ok_as (t_lc (vs := [1]) (R) (fun r => .lst (r.map D.tx)) (fun k => _) (fun r => .tx (TL.joinL [32] r)) (fun h => by exact pe_lc (own := [("_law_line", 1)]) (g := (gName 1)) (tt := tYes) rfl scLText.nd h (blkOk_by (own := [("_law_line", 1)]) (N := nLText) (sc := defScope lSketchText) (by decide +kernel)) (fun _ _ _ _ _ => (pg_name (i := 1) scLText.nd rfl (.inl rfl))) (fun _ _ _ _ _ => pts_nil) (fun _ _ _ _ _ => (pe_el fun B k m => (t_bm (fun h g => pe_bm PySem.F.plainAttrs_str PySem.F.slot_str_join PySem.F.type_str_join mt_join h g) (ok_tx (z := [32]) (by decide +kernel)) (a_cons (ok_var (pv 1) rfl) a_nil) ty_str (rm_join 27 (l1 k m) (l2 k m)))))) (i_list (ok_var (pv 0) rfl)) (fun _ _ _ => (b_name (i := 1) (by decide))) few) e1) a_nil) ty_str (rm_join 224 l3 l4))
  · refine ⟨F0, w0, fun v F1 H1 w1 g1 r1 => ?_⟩
    cases r1
    refine ⟨_, rfl, ?_, ?_⟩
    · rw [S_len, show ("*" : Str).length = 1 from by decide +kernel]
      omega
    · rw [repl_S R l1]
      exact tw _ F1 H1 ⟨w1.ff, w1.hh, w1.fh, w1.ex⟩ (.str _)
end
end Pm
namespace Pm
open PySem PySem.Spec PyProof.Rows L2 SX
/-! ### a text times an int -/
theorem mul_fit {x : Str} {n : Int} (hx : x.length ≤ 1000) (n0 : 0 ≤ n) (n1 : n ≤ 1000) : MulOk x n := by
  have nn : (n.toNat : Int) = n := Int.toNat_of_nonneg n0
  have hm : x.length * n.toNat ≤ 1000 * 1000 := Nat.mul_le_mul hx (by omega)
  refine ⟨?_, fun a _ => ?_, fun _ _ => ?_⟩
  · rw [decide_eq_false (by omega), decide_eq_false (by omega)]
    rfl
  · have e : (x.length : Int) * n ≤ 2 ^ 63 - 1 := by
      rw [← nn]
      have y : ((x.length * n.toNat : Nat) : Int) ≤ ((1000 * 1000 : Nat) : Int) := Int.ofNat_le.mpr hm
      rw [Int.natCast_mul] at y
      exact Int.le_trans y (by decide)
    have := Int.le_ediv_of_mul_le (by omega) e
    omega
  · show decide (x.length * n.toNat > sizeLine) = false
    refine decide_eq_false ?_
    have : (1000 * 1000 : Nat) ≤ sizeLine := by decide
    omega
theorem op_mul_str {X : Cx} : OpR X (binaryOp .Mult) (fun x y H Q => ∃ i n, x = .str i ∧ y = .int n ∧ i.length ≤ 1000 ∧ 0 ≤ n ∧ n ≤ 1000 ∧ Q (.str (Txt.mul i n)) H) := by
  intro pins s σ H x y v u Q I rx ry h
  obtain ⟨i, n, rfl, rfl, hi, n0, n1, q⟩ := h
  obtain ⟨t, rfl⟩ := rx
  obtain ⟨t2, rfl⟩ := ry
  exact SB.mul (mul_fit hi n0 n1) fun t3 tk => ⟨.str (Txt.mul i n), H, I.tok _, ⟨_, rfl⟩, q⟩
theorem mul3 {z : List Nat} (h : Pal z) : Txt.mul (S z) 3 = S (z ++ z ++ z) := by
  obtain ⟨c, d, e, rfl, _⟩ := h
  rfl
theorem mul1 (c : Nat) (n : Int) : Txt.mul (S [c]) n = S (List.replicate n.toNat c) := by
  have e := mul_one_list c n
  have y : S (Txt.mul (S [c]) n).cps.toList = Txt.mul (S [c]) n := S_tl _
  rw [← y, e]
end Pm
namespace Pm
open PySem PySem.Spec PyProof.Rows L2 SX
section
variable {P : Program} {w : World} {K : PySem.W.Frag} {mg : Str → Option Value} {base : Heap} {C CI : Addr}
theorem PicAt.same {C : Addr} {H H' : Hp} {r : Addr} {R : Rows} (h : PicAt C H r R) (s : Same H H') : PicAt C H' r R := by
  obtain ⟨dx, l, a, b⟩ := h
  exact ⟨dx, l, s _ _ a, s _ _ b⟩
theorem made_same {C : Addr} {H : Hp} {x dx : Addr} (nx : H x = none) (nd : H dx = none) : Same H (upd (upd H dx (.own x)) x (.ins C dx [])) := fun b o e => by
  rw [upd_ne (ne_of_none e nx), upd_ne (ne_of_none e nd)]
  exact e
theorem made_but {C : Addr} {H H' : Hp} {x dx : Addr} (nx : H x = none) (nd : H dx = none) (s : SameBut x (upd (upd H dx (.own x)) x (.ins C dx [])) H') : Same H H' := fun b o e => by
  have ne : b ≠ x := ne_of_none e nx
  exact s b o ne (made_same nx nd _ _ e)
theorem lets_made {E : XK} {D : Addr} {fs : List (Str × V)} {H H' : Hp} (h : Lets E D fs H) (s : Same H H') : Lets E D fs H' := fun d G nd hd sg => h d G (back s nd) hd (s.trans sg)
def spLines (C : Addr) : Sp := fun vs H Q _ => ∃ r R, vs = [.ref r] ∧ PicAt C H r R ∧ ∀ p H', Same H H' → H p = none → H' p = some (.lst (rowsV R)) → Q (.ref p) H'
theorem scLines : FnScope ["self"] ["self"] (defScope cPictureLines) := ⟨rfl, rfl, rfl, by decide +kernel, rfl, by decide +kernel, by decide +kernel⟩
theorem ok_lines {f : Addr} {fd : FuncData} (F : Fun K "lines" "Picture.lines" cPictureLines f fd) (L : LTxt K mg) (T : PCls K C) : FnOk P w K mg base CX0 1 f fd ["self"] (spLines C) := by
  refine F.ok scLines (fun vs H Q E h => ?_) (fun cdv A outer s H vs Q E hr h => ?_)
  · obtain ⟨r, R, rfl, _⟩ := h
    rfl
  · obtain ⟨r, R, rfl, ⟨dx, l, hr1, hl⟩, k⟩ := h
    refine ⟨_, pss_one (ps_ret (pe_callTy call_list_of (by rfl) L.lst (by decide +kernel) (pa_cons (pe_fld (pv 0) rfl) pa_nil))), ?_⟩
    refine ⟨_, rfl, r, C, dx, _, _, rfl, hr1, T.cl, T.nR, rfl, l, _, rfl, .inl (SqL.of hl), fun p np => k p _ (same_upd np) np upd_same⟩
/-! ### contains -/
def inB (R : Rows) (x y : Int) : Bool := decide (0 ≤ x ∧ x < wideOf R) && decide (0 ≤ y ∧ y < (R.length : Int))
def spContains (C : Addr) : Sp := fun vs H Q _ => ∃ r R x y, vs = [.ref r, .int x, .int y] ∧ PicAt C H r R ∧ Q (.bl (inB R x y)) H
theorem scContains : FnScope ["self", "x", "y"] ["self", "x", "y"] (defScope cPictureContains) := ⟨rfl, rfl, rfl, by decide +kernel, rfl, by decide +kernel, by decide +kernel⟩
theorem ok_contains {f : Addr} {fd : FuncData} (F : Fun K "contains" "Picture.contains" cPictureContains f fd) (T : PCls K C) : FnOk P w K mg base CX0 1 f fd ["self", "x", "y"] (spContains C) := by
  refine F.ok scContains (fun vs H Q E h => ?_) (fun cdv A outer s H vs Q E hr h => ?_)
  · obtain ⟨r, R, x, y, rfl, _⟩ := h
    rfl
  · obtain ⟨r, R, x, y, rfl, ⟨dx, l, h1, h2⟩, k⟩ := h
    refine ⟨_, pss_one (ps_ret (pe_and (pe_chain op_le op_lt pe_int (pv 1) (pe_fld (pv 0) rfl)) (pe_one (pe_chain op_le op_lt pe_int (pv 2) (pe_fld (pv 0) rfl))))), ?_⟩
    have second : inB R x y = decide (0 ≤ y ∧ y < (R.length : Int)) → tChain (rI0 fun i j => .bl (decide (i ≤ j))) (rI0 fun i j => .bl (decide (i < j))) (tC (.int 0)) (tVar 2) (tFld K (tVar 0) "height") (L2.start ["self", "x", "y"] [.ref r, .int x, .int y]) H Q := fun e => by
      rw [e] at k
      refine ⟨_, rfl, _, _, rfl, rfl, _, rfl, ite2 (fun a => ?_) (fun a => ?_)⟩
      · have a := of_decide_eq_true a
        refine ⟨_, rfl, r, C, dx, _, _, rfl, h1, T.cl, T.nH, rfl, _, _, rfl, rfl, ?_⟩
        have e2 : decide (0 ≤ y ∧ y < (R.length : Int)) = decide (y < (R.length : Int)) := decide_eq_decide.mpr ⟨fun z => z.2, fun z => ⟨a, z⟩⟩
        rw [e2] at k
        exact k
      · have a : ¬ 0 ≤ y := fun z => a (decide_eq_true z)
        rw [decide_eq_false (fun z => a z.1)] at k
        exact k
    refine ⟨_, rfl, _, _, rfl, rfl, _, rfl, ite2 (fun a => ?_) (fun a => ?_)⟩
    · have a := of_decide_eq_true a
      refine ⟨_, rfl, r, C, dx, _, _, rfl, h1, T.cl, T.nW, rfl, _, _, rfl, rfl, _, rfl, ite2 (fun b => ?_) (fun b => ?_)⟩
      · have b := of_decide_eq_true b
        refine second ?_
        unfold inB
        rw [decide_eq_true (show 0 ≤ x ∧ x < wideOf R from ⟨a, b⟩), Bool.true_and]
      · have b : ¬ x < wideOf R := fun z => b (decide_eq_true z)
        unfold inB at k
        rw [decide_eq_false (fun z => b z.2), Bool.false_and] at k
        exact k
    · have a : ¬ 0 ≤ x := fun z => a (decide_eq_true z)
      unfold inB at k
      rw [decide_eq_false (fun z => a z.1), Bool.false_and] at k
      exact ⟨_, rfl, iteF k⟩
end
end Pm
namespace Pm
open PySem PySem.Spec PyProof.Rows L2 SX
/-! ### rows as data -/
/-- no sign is far out, none ends a line -/
def Low (R : Rows) : Prop := ∀ r ∈ R, ∀ c ∈ r, c < 256 ∧ c ≠ 10
def dR (r : List Nat) : PyData := .str (S r)
theorem dR_eqv (r q : List Nat) : PyData.eqv (dR r) (dR q) = decide (r = q) := by
  show (S r == S q) = _
  exact S_beq_eq
theorem dRs_lay : ∀ {M : Rows}, Low M → PyData.canLayAll0 (M.map dR) = true
  | [], _ => rfl
  | r :: M, h => by
    have e1 := dRs_lay (M := M) fun q m => h q (List.mem_cons_of_mem _ m)
    have e2 : PyData.strOk (S r) = true := by
      show (S r).cps.all (· < 0x110000) = true
      rw [Array.all_eq_true]
      intro i hi
      have m := h r List.mem_cons_self _ (List.getElem_mem (l := r) (n := i) (by simpa using hi))
      exact decide_eq_true (Nat.lt_of_lt_of_le (by simpa using m.1) (by decide))
    show (PyData.strOk (S r) && PyData.canLayAll0 (M.map dR)) = true
    rw [e1, e2]
    rfl
theorem dRs_depth : ∀ M : Rows, PyData.depthAll (M.map dR) = 0
  | [] => by simp [PyData.depthAll]
  | c :: M => by
    have := dRs_depth M
    simp [PyData.depthAll, dR, PyData.depth, this]
theorem dRs_shaped {M : Rows} (h : Low M) : SeqAt.shaped (.list (M.map dR)) = true := by
  have z := dRs_depth M
  have y := dRs_lay h
  simp [SeqAt.shaped, PyData.canLay0, PyData.depth, y, z]
theorem dRs_eqvAll : ∀ M N : Rows, PyData.eqvAll (M.map dR) (N.map dR) = decide (M = N)
  | [], N => by cases N <;> simp [PyData.eqvAll]
  | r :: M, [] => by simp [PyData.eqvAll]
  | r :: M, q :: N => by
    rw [List.map_cons, List.map_cons]
    show (PyData.eqv (dR r) (dR q) && PyData.eqvAll (M.map dR) (N.map dR)) = _
    rw [dR_eqv, dRs_eqvAll M N]
    simp
theorem dRs_eqv (M N : Rows) : PyData.eqv (.list (M.map dR)) (.list (N.map dR)) = decide (M = N) := by
  simp [PyData.eqv, dRs_eqvAll]
theorem dp_rows {K : PySem.W.Frag} {H : Hp} : ∀ R : Rows, DpAll K H (rowsV R) (R.map dR)
  | [] => .nil
  | r :: R => .cons (.str _) (dp_rows R)
theorem dp_list {K : PySem.W.Frag} {H : Hp} {a : Addr} {R : Rows} (h : H a = some (.lst (rowsV R))) : Dp K H (.ref a) (.list (R.map dR)) := .lst (SqL.of h) (dp_rows R)
theorem Low.nil : Low [] := fun r m => nomatch m
end Pm
namespace Pm
open PySem PySem.Spec PyProof.Rows L2 SX
/-! ### grids that change -/
def rowAt (R : Rows) (j : Nat) : List Nat := R.getD j []
def putR (R : Rows) (i j : Nat) (z : List Nat) : Rows := R.set j ((rowAt R j).take i ++ z ++ (rowAt R j).drop (i + 1))
theorem good_low {c : Nat} (h : Good c) : c < 256 ∧ c ≠ 10 := by
  unfold Good Let at h
  omega
theorem line_good {r : List Nat} {R : Rows} (ok : ∀ (j : Nat) y, j < 8 → (r :: R)[j]? = some y → okB (r.length : Int) y = true) : lineOf (r :: R) = if 8 < (r :: R).length then 9 else 0 := by
  rw [lineOf_cons, find_none fun j y hy => by
    rw [List.getElem?_take] at hy
    by_cases a : j < 8
    · rw [if_pos a] at hy
      rw [ok j y a hy]
      rfl
    · rw [if_neg a] at hy
      cases hy]
theorem Grid.line {R : Rows} {n : Nat} (g : Grid R n) : lineOf R = 0 := by
  have h1 := g.h1
  have h8 := g.h8
  have w1 := g.w1
  have w8 := g.w8
  match R, g, h1, h8 with
  | r :: R, g, h1, h8 =>
    have ok : ∀ z ∈ r :: R, okB (r.length : Int) z = true := fun z m => by
      have e1 := g.row z m
      have e2 := g.row r List.mem_cons_self
      have e3 : (z.all fun c => decide (Good c)) = true := List.all_eq_true.mpr fun c mc => decide_eq_true (g.sgn z m c mc)
      unfold okB
      rw [e3, decide_eq_true (show 1 ≤ z.length by omega), decide_eq_true (show z.length ≤ 8 by omega), decide_eq_true (show (z.length : Int) = (r.length : Int) by omega)]
      rfl
    rw [line_good fun j y _ hy => ok y (List.mem_of_getElem? hy), if_neg (by omega)]
theorem Grid.wide {R : Rows} {n : Nat} (g : Grid R n) : wideOf R = (n : Int) := by
  match R, g, g.h1 with
  | r :: R, g, _ =>
    show (r.length : Int) = _
    rw [g.row r List.mem_cons_self]
theorem Grid.at {R : Rows} {n : Nat} (g : Grid R n) {j : Nat} (hj : j < R.length) : R[j]? = some (rowAt R j) ∧ rowAt R j ∈ R ∧ (rowAt R j).length = n := by
  have e : R[j]? = some R[j] := List.getElem?_eq_getElem hj
  have y : rowAt R j = R[j] := by
    unfold rowAt
    rw [List.getD_eq_getElem?_getD, e]
    rfl
  rw [y]
  exact ⟨e, List.getElem_mem hj, g.row _ (List.getElem_mem hj)⟩
theorem Grid.inside {R : Rows} {n : Nat} (g : Grid R n) {x y : Int} (h : inB R x y = true) : ∃ i j : Nat, x = (i : Int) ∧ y = (j : Int) ∧ i < n ∧ j < R.length := by
  unfold inB at h
  obtain ⟨a, b⟩ := Bool.and_eq_true_iff.mp h
  have a := of_decide_eq_true a
  have b := of_decide_eq_true b
  rw [g.wide] at a
  exact ⟨x.toNat, y.toNat, by omega, by omega, by omega, by omega⟩
theorem goodB_one {z : List Nat} (h : goodB z = true) : ∃ c, z = [c] ∧ Good c := by
  match z, h with
  | [c], h => exact ⟨c, rfl, of_decide_eq_true h⟩
theorem Grid.put {R : Rows} {n i j c : Nat} (g : Grid R n) (hi : i < n) (hj : j < R.length) (hc : Good c) : Grid (putR R i j [c]) n := by
  obtain ⟨_, m, l⟩ := g.at hj
  have new : ((rowAt R j).take i ++ [c] ++ (rowAt R j).drop (i + 1)).length = n := by
    simp only [List.length_append, List.length_take, List.length_drop, List.length_cons, List.length_nil]
    omega
  refine ⟨g.w1, g.w8, by unfold putR; rw [List.length_set]; exact g.h1, by unfold putR; rw [List.length_set]; exact g.h8, fun z mz => ?_, fun z mz d md => ?_⟩
  · rcases List.mem_or_eq_of_mem_set mz with a | a
    · exact g.row z a
    · rw [a, new]
  · rcases List.mem_or_eq_of_mem_set mz with a | a
    · exact g.sgn z a d md
    · rw [a] at md
      rcases List.mem_append.mp md with y | y
      · rcases List.mem_append.mp y with y | y
        · exact g.sgn _ m d (List.mem_of_mem_take y)
        · rw [List.mem_singleton.mp y]
          exact hc
      · exact g.sgn _ m d (List.mem_of_mem_drop y)
theorem Grid.plain {n m c : Nat} (n1 : 1 ≤ n) (n8 : n ≤ 8) (m1 : 1 ≤ m) (m8 : m ≤ 8) (hc : Good c) : Grid (List.replicate m (List.replicate n c)) n := by
  refine ⟨n1, n8, by rw [List.length_replicate]; exact m1, by rw [List.length_replicate]; exact m8, fun z mz => ?_, fun z mz d md => ?_⟩
  · rw [(List.mem_replicate.mp mz).2, List.length_replicate]
  · rw [(List.mem_replicate.mp mz).2] at md
    rw [(List.mem_replicate.mp md).2]
    exact hc
theorem put_back {R : Rows} {n i j : Nat} {c d : Nat} (g : Grid R n) (hi : i < n) (hj : j < R.length) (hd : (rowAt R j)[i]? = some d) : putR (putR R i j [c]) i j [d] = R := by
  obtain ⟨e, m, l⟩ := g.at hj
  have e1 : rowAt (putR R i j [c]) j = (rowAt R j).take i ++ [c] ++ (rowAt R j).drop (i + 1) := by
    unfold rowAt putR
    rw [List.getD_eq_getElem?_getD, List.getElem?_set_self (by simpa using hj)]
    rfl
  have li : ((rowAt R j).take i).length = i := by rw [List.length_take]; omega
  unfold putR at e1 ⊢
  rw [e1, List.set_set]
  have t : ((rowAt R j).take i ++ [c] ++ (rowAt R j).drop (i + 1)).take i = (rowAt R j).take i := by
    rw [List.append_assoc, List.take_append_of_le_length (by omega), List.take_of_length_le (by omega)]
  have u : ((rowAt R j).take i ++ [c] ++ (rowAt R j).drop (i + 1)).drop (i + 1) = (rowAt R j).drop (i + 1) := by
    have lc : ((rowAt R j).take i ++ [c]).length = i + 1 := by rw [List.length_append, li]; rfl
    rw [← lc, List.drop_left]
  rw [t, u]
  have w : (rowAt R j).take i ++ [d] ++ (rowAt R j).drop (i + 1) = rowAt R j := by
    obtain ⟨h1, h2⟩ := List.getElem?_eq_some_iff.mp hd
    rw [List.append_assoc, List.singleton_append, ← h2, List.getElem_cons_drop, List.take_append_drop]
  rw [w]
  obtain ⟨h1, h2⟩ := List.getElem?_eq_some_iff.mp e
  rw [← h2, List.set_getElem_self]
section
variable {P : Program} {w : World} {K : PySem.W.Frag} {mg : Str → Option Value} {base : Heap} {C CI CO CG : Addr}
theorem gone {z : Prop} {E : XK} {D : Addr} {fs : List (Str × V)} {H : Hp} (n : ¬ z) : z → Lets E D fs H := fun y => absurd y n
/-! ### str -/
theorem nl_S : ("\n" : Str) = S [10] := by decide +kernel
def spStr (C : Addr) : Sp := fun vs H Q _ => ∃ r R n, vs = [.ref r] ∧ PicAt C H r R ∧ Grid R n ∧ Q (.str (S (TL.joinL [10] R))) H
theorem scStr : FnScope ["self"] ["self"] (defScope cPictureStr) := ⟨rfl, rfl, rfl, by decide +kernel, rfl, by decide +kernel, by decide +kernel⟩
theorem sum_le (n : Nat) : ∀ R : Rows, (∀ z ∈ R, z.length ≤ n) → (R.map (·.length)).sum ≤ R.length * n
  | [], _ => by simp
  | z :: R, h => by
    have e := sum_le n R fun y m => h y (List.mem_cons_of_mem _ m)
    have e1 := h z List.mem_cons_self
    simp only [List.map_cons, List.sum_cons, List.length_cons]
    rw [Nat.add_mul]
    omega
theorem strs_rows (R : Rows) : (R.map S).map V.str = rowsV R := by
  rw [List.map_map]
  rfl
theorem join_fit {R : Rows} {n : Nat} (g : Grid R n) : ((R.map S).map (·.length)).sum + (R.map S).length * ("\n" : Str).length ≤ 16777216 := by
  have e2 : ((R.map S).map (·.length)) = R.map (·.length) := lens R
  have e3 := sum_le 8 R fun z m => by rw [g.row z m]; exact g.w8
  have h8 := g.h8
  rw [e2, nl_S, len_S, List.length_map]
  show (R.map (·.length)).sum + R.length * 1 ≤ 16777216
  omega
theorem ok_str {f : Addr} {fd : FuncData} (F : Fun K "__str__" "Picture.__str__" cPictureStr f fd) (T : PCls K C) : FnOk P w K mg base CX0 1 f fd ["self"] (spStr C) := by
  refine F.ok scStr (fun vs H Q E h => ?_) (fun cdv A outer s H vs Q E hr h => ?_)
  · obtain ⟨r, R, n, rfl, _⟩ := h
    rfl
  · obtain ⟨r, R, n, rfl, ⟨dx, l, h1, h2⟩, g, k⟩ := h
    refine ⟨_, pss_one (ps_ret (pe_join pe_str (pe_fld (pv 0) rfl))), ?_⟩
    refine ⟨⟨_, rfl⟩, _, rfl, r, C, dx, _, _, rfl, h1, T.cl, T.nR, rfl, ("\n" : Str), l, R.map S, rfl, rfl, .inl (by rw [strs_rows]; exact SqL.of h2), join_fit g, ?_⟩
    rw [nl_S, join_S [10] R]
    exact k
end
/-! ### str(picture) -/
structure OwnM (K : PySem.W.Frag) (C : Addr) (m : Str) (f : Addr) : Prop where
  at_ : PySem.W.findIn K (.ref C) m = some (some (.ref f))
  fn : PySem.W.isFn K (.ref f) = true
section
variable {X : Cx} {CXf : CXT} {k : Nat} {f C : Addr} {fd : FuncData} {ps : List Str} {sp : Sp} {E : XK} {pins : List (Addr × Obj)} {σ : L2.St} {H : Hp} {s : Shared}
/-- a def called from any place around, with the caller's frames -/
theorem run_at {A : Around} {Q : VK} {us : List Value} {vs : List V} (F : FnOk X.prog X.w X.K X.mg X.base CXf k f fd ps sp) (hr : Room k A) (fr : A.frames = X.A.frames) (hb : Binds X.K fd ps []) (hx : Passes CXf X E) (I : L2.Inv X pins σ H s)
    (r : Vals vs us) (h : sp vs H Q E) : wpAny (model X.prog X.w) A (call (.ref f) us) (EP X pins σ Q) X.xe s := by
  have e0 : Env0 X.prog X.w X.K X.mg X.base A X.stack s H := by
    have e := I.env0
    exact ⟨by rw [fr]; exact e.frames, e.mod, e.bs, e.bsz, e.funs, e.frf, e.hok, e.bare⟩
  have hl := F.len _ _ _ _ h
  refine wpAny_call (codeAny_mono (F.run A X.stack s H ⟨us, []⟩ us vs _ E hr e0 (by
    have := hb s us I.kIn (by rw [List.append_nil, ← r.length]; exact hl)
    simpa using this) r h) fun q s' hq => ?_)
  cases q with
  | error e => exact hx pins σ H s e s' I hq
  | ok fl =>
    cases fl with
    | ret u => exact I.after hq
    | next => exact False.elim hq
    | brk => exact False.elim hq
    | cont => exact False.elim hq
theorem pic_inst {r : Addr} {R : Rows} (I : L2.Inv X pins σ H s) (h : PicAt C H r R) : ∃ ox od, PySem.W.InstAt s.heap r ox C od := by
  obtain ⟨dx, l, h1, _⟩ := h
  obtain ⟨mA, J, _⟩ := ins_get I.hok h1
  obtain ⟨od, J, _⟩ := J.look
  exact ⟨_, _, J⟩
def rStrP (C : Addr) : List V → Hp → VK → Prop := fun xs H Q => ∃ r R n, xs = [.ref r] ∧ PicAt C H r R ∧ Grid R n ∧ Q (.str (S (TL.joinL [10] R))) H
theorem call_strP (O : FnOk X.prog X.w X.K X.mg X.base CX0 k f fd ["self"] (spStr C)) (hr : Room (k + 2) X.A) (b : Binds X.K fd ["self"] []) (m : OwnM X.K C "__str__" f) : CallR X (.type "str") (rStrP C) := by
  intro pins s σ H xs us Q I r h
  obtain ⟨r0, R, n, rfl, hp, g, q⟩ := h
  match r with
  | .cons rx .nil =>
    cases rx
    obtain ⟨ox, od, J⟩ := pic_inst I hp
    refine PySem.W.kso_call (hr.in1.in1.units0) I.kIn J m.at_ m.fn ?_
    refine wpAny_mono (run_at (Q := fun v H' => v = .str (S (TL.joinL [10] R)) ∧ H' = H) (E := E0) (vs := [.ref r0]) O hr.in1.in1 rfl b pass0 I (.cons rfl .nil) ⟨r0, R, n, rfl, hp, g, rfl, rfl⟩) (fun v s' z => ?_) fun _ _ z => z
    obtain ⟨v', H', I', rv, rfl, rfl⟩ := z
    obtain ⟨t, rfl⟩ := rv
    exact ⟨.str _, _, I', ⟨_, rfl⟩, q⟩
end
theorem ixN_nat {n j : Nat} (h : j < n) : ixN n (j : Int) = some j := by
  unfold ixN
  rw [if_pos (by omega), if_pos (by omega)]
  rfl
theorem cut_from (xs : List V) (n : Nat) : cutV xs (some (n : Int)) none = xs.drop n := by
  unfold cutV
  rw [HT.sIx_none, HT.sIx_nat]
  rcases Nat.le_total n xs.length with h | h
  · rw [Nat.min_eq_left h, List.take_of_length_le (by rw [List.length_drop]; omega)]
  · rw [Nat.min_eq_right h, Nat.sub_self, List.take_zero, List.drop_of_length_le h]
def signAt (R : Rows) (x y : Int) : List Nat := if inB R x y = true then [(rowAt R y.toNat).getD x.toNat 0] else [35]
def LowR (z : List Nat) : Prop := ∀ c ∈ z, c < 256 ∧ c ≠ 10
theorem Grid.low {R : Rows} {n : Nat} (g : Grid R n) : Low R := fun r m c mc => good_low (g.sgn r m c mc)
theorem inB_out {R : Rows} {n : Nat} (g : Grid R n) {x y : Int} (h : y < 0 ∨ (R.length : Int) ≤ y ∨ x < 0 ∨ (n : Int) ≤ x) : inB R x y = false := by
  unfold inB
  rw [g.wide]
  by_cases a : 0 ≤ x ∧ x < (n : Int)
  · rw [decide_eq_false (show ¬ (0 ≤ y ∧ y < (R.length : Int)) by omega), Bool.and_false]
  · rw [decide_eq_false a, Bool.false_and]
theorem inB_in {R : Rows} {n : Nat} (g : Grid R n) {x y : Int} (a : 0 ≤ x) (b : x < (n : Int)) (c : 0 ≤ y) (d : y < (R.length : Int)) : inB R x y = true := by
  unfold inB
  rw [g.wide, decide_eq_true (show 0 ≤ x ∧ x < (n : Int) from ⟨a, b⟩), decide_eq_true (show 0 ≤ y ∧ y < (R.length : Int) from ⟨c, d⟩)]
  rfl
theorem rowsV_get {R : Rows} {n j : Nat} (g : Grid R n) (hj : j < R.length) : (rowsV R)[j]? = some (.str (S (rowAt R j))) := by
  unfold rowsV
  rw [List.getElem?_map, (g.at hj).1]
  rfl
theorem rows_ok {R : Rows} {n : Nat} (g : Grid R n) : SeqAt.shaped (.list (R.map dR)) = true ∧ PyData.eqv (.list (R.map dR)) (.list (R.map dR)) = true := ⟨dRs_shaped g.low, by rw [dRs_eqv]; exact decide_eq_true rfl⟩
theorem rows_ne {H : Hp} {b l q : Addr} {R : Rows} (h : BagL H b l) (hq : H q = some (.lst (rowsV R))) : q ≠ b := fun e => by
  obtain ⟨ns, i, p, r, hb, _⟩ := h
  rw [e, hb] at hq
  match R, hq with
  | [_, _, _, _], hq => simp [rowsV] at hq
theorem PicAt.but {C : Addr} {H H' : Hp} {r b l : Addr} {R : Rows} (h : PicAt C H r R) (hb : BagL H b l) (s : SameBut b H H') : PicAt C H' r R := by
  obtain ⟨dx, q, h1, h2⟩ := h
  have nb : r ≠ b := fun e => by
    obtain ⟨xs, e2⟩ := bag_b hb
    rw [e, e2] at h1
    cases h1
  exact ⟨dx, q, s _ _ nb h1, s _ _ (rows_ne hb h2) h2⟩
theorem bag_same {H H' : Hp} {b l : Addr} (h : BagL H b l) (s : Same H H') : BagL H' b l := by
  obtain ⟨ns, i, q, r, e1, e2, e3⟩ := h
  exact ⟨ns, i, q, r, s _ _ e1, s _ _ e2, e3⟩
end Pm
namespace Pm
open PySem PySem.Spec PyProof.Rows L2 PpSet
/-! ### sets of at most 64 pairs -/
/-- a set of pairs of which only this is kept: its rows, and that they can be collected -/
structure Full (P : Program) (w : World) (h : Heap) (a : Addr) (L : List (Addr × List Int)) : Prop where
  at_ : ∃ (es : Array (Int × Value)) (ep : Nat) (t : SetTable) (o : Obj), (h.get? a = some o ∧ o.cls = .type "set" ∧ o.data = .set es ep t) ∧ es.toList.map (·.2) = (L.map fun q => Value.ref q.1) ∧ t.fits es.size = true ∧ Ris t.place.toList ∧ (t.led = true ∨ w.params.followText "set-order" = true)
  nd : (L.map (·.2)).Nodup
  len : L.length ≤ 64
def FullO (P : Program) (w : World) (a : Addr) (L : List (Addr × List Int)) : HO := .ext fun h => Full P w h a L
/-- as long as more can come, else full -/
def SetQ (P : Program) (w : World) (a : Addr) (L : List (Addr × List Int)) : HO := if L.length < 64 then SetTO P w a L else FullO P w a L
theorem setQ_few {P : Program} {w : World} {a : Addr} {L : List (Addr × List Int)} (h : L.length < 64) : SetQ P w a L = SetTO P w a L := if_pos h
theorem full_ok {P : Program} {w : World} {H : Hp} {h : Heap} {a : Addr} {L : List (Addr × List Int)} (R : Full P w h a L) : ObjOk P w H h a (FullO P w a L) := by
  have ⟨es, ep, t, o, ⟨ho, hc⟩, q⟩ := R.at_
  refine ⟨R, ⟨o, ho⟩, fun h1 h2 p k => ?_⟩
  have ⟨es', ep', t', o', ⟨ho', hc'⟩, q'⟩ := Full.at_ p
  exact ⟨⟨es', ep', t', o', ⟨k o' ho', hc'⟩, q'⟩, Full.nd p, Full.len p⟩
theorem full_of {P : Program} {w : World} {h : Heap} {a : Addr} {L : List (Addr × List Int)} (R : SetT0 P w h a L) (tp : ∀ p ∈ L, L2.IsT P w h p.2 p.1) : Full P w h a L := by
  obtain ⟨es, ep, t, R⟩ := R.full tp
  obtain ⟨o, ho, hx, hd⟩ := R.ob
  have ft : t.fits es.size = true := SetTR.fits (s := { heap := h }) R
  refine ⟨⟨es, ep, t, o, ⟨ho, hx.1, hd⟩, ?_, ft, R.tab.ris, R.led.symm⟩, R.nd, Nat.le_of_lt R.few⟩
  rw [R.rows, rowsOf, List.map_map]
  rfl
section
variable {P : Program} {w : World} {A : Around} {E : Value → Shared → Prop} {s : Shared} {a : Addr} {L : List (Addr × List Int)} {es : Array (Int × Value)} {ep : Nat} {t : SetTable}
/-- the last that a table of this size can take without a new table -/
theorem add_last (R : SetTR P w s.heap a L es ep t) {x : Addr} {k : List Int} (hx : L2.IsT P w s.heap k x) (hu : A.units < cLine) (l63 : L.length = 63) {Q : Bool → Shared → Prop}
    (old : k ∈ L.map (·.2) → Q false s)
    (new : k ∉ L.map (·.2) → ∀ h' L', Heap.SameBut a s.heap h' → Full P w h' a L' → L'.Perm ((x, k) :: L) → Q true { s with heap := h' }) :
    wpAny (model P w) A (setAddHashed a (.ref x) (thash P w k)) Q E s := by
  obtain ⟨o, ho, hex, hd⟩ := R.ob
  have room := R.room
  have m127 : t.mask = 127 := by
    rcases R.tab.mok with e | e | e
    · omega
    · omega
    · exact e
  unfold setAddHashed
  refine wpAny_holding ?_
  rw [show (100000 : Nat) = 99999 + 1 from rfl, setAddHashedIn_succ]
  refine wpAny_bind (wpAny_setState_of ho hd R.fits ?_)
  dsimp only
  refine wp_if_neg (by simp [byScan, Value.scannable]) ?_
  try refine wpAny_bind (wpAny_pure ?_)
  refine wpAny_bind (search_at R hx hu (fun hm => ?_) fun K hm hK hb => ?_)
  · dsimp only
    exact wpAny_pure (old hm)
  · dsimp only
    refine wpAny_bind (wpAny_setState_of ho hd R.fits ?_)
    dsimp only
    obtain ⟨q1, q2, q3, q4, q5, q6, q7, q8, q9⟩ := R.tab.put hK hb
    have pl1 : (t.put (way t.mask (thash P w k) K)).1.plain = true := q6.trans R.plain
    generalize et : t.put (way t.mask (thash P w k) K) = pt at q1 q3 q4 q5 q6 q7 q8 q9 pl1 ⊢
    obtain ⟨t1, p⟩ := pt
    dsimp only at q1 q3 q4 q5 q6 q7 q8 q9 pl1 ⊢
    subst q1
    first
      | (refine wpAny_bind ?_; refine wp_if_pos pl1 ?_; refine hashBy_tup hx ?_)
      | refine wp_if_pos pl1 (wpAny_bind (hashBy_tup hx ?_))
    simp only [if_true]
    have rws : (SetTable.insertAt es (SetTable.below t.place (way t.mask (thash P w k) K)) (thash P w k, Value.ref x)).toList = rowsOf P w (L.take (SetTable.below t.place (way t.mask (thash P w k) K)) ++ (x, k) :: L.drop (SetTable.below t.place (way t.mask (thash P w k) K))) := by
      rw [SetTable.toList_insertAt, rows_put, R.rows]
    generalize SetTable.below t.place (way t.mask (thash P w k) K) = p at q2 q3 rws ⊢
    have pm := put_perm L p (x, k)
    have l64 : (L.take p ++ (x, k) :: L.drop p).length = 64 := by rw [pm.length_eq, List.length_cons, l63]
    have hhs : (L.take p ++ (x, k) :: L.drop p).map (fun p => thash P w p.2) = (L.map fun p => thash P w p.2).take p ++ thash P w k :: (L.map fun p => thash P w p.2).drop p := by
      rw [List.map_append, List.map_cons, List.map_take, List.map_drop]
    rw [← hhs] at q3
    have nd1 : ((L.take p ++ (x, k) :: L.drop p).map (·.2)).Nodup := (pm.map (·.2)).nodup_iff.mpr (by
      rw [List.map_cons]
      exact List.nodup_cons.mpr ⟨hm, R.nd⟩)
    have sz : (SetTable.insertAt es p (thash P w k, Value.ref x)).size = 64 := by
      have z := congrArg List.length rws
      unfold rowsOf at z
      rw [Array.length_toList, List.length_map, l64] at z
      exact z
    generalize SetTable.insertAt es p (thash P w k, Value.ref x) = es1 at rws sz ⊢
    generalize L.take p ++ (x, k) :: L.drop p = L1 at pm l64 q3 nd1 rws
    refine wpAny_bind (wpAny_storeSet_of ho hd ?_ (by rw [sz, sizeLine_eq]; omega))
    have sb : Heap.SameBut a s.heap (s.heap.update a (Obj.putSet es1 t1)) := Heap.SameBut.update ..
    have ho1 := store_at (es' := es1) (t' := t1) ho hd
    generalize s.heap.update a (Obj.putSet es1 t1) = h1 at sb ho1 ⊢
    have nf : ¬ t1.tooFull = true := fun z => by
      unfold SetTable.tooFull at z
      rw [decide_eq_true_eq, q9, List.length_map, q4, m127] at z
      omega
    have sz1 : t1.place.size = es1.size := by
      have z := q3.sz
      rw [List.length_map, l64] at z
      rw [z, sz]
    have fit : t1.fits es1.size = true := by
      have z := q9
      rw [List.length_map] at z
      unfold SetTable.fits
      rw [z, Bool.and_eq_true, beq_iff_eq, decide_eq_true_eq, q4, m127]
      exact ⟨sz1, by omega⟩
    have got : Full P w h1 a L1 := ⟨⟨es1, ep + 1, t1, _, ⟨ho1, hex.1, rfl⟩, by rw [rws, rowsOf, List.map_map]; rfl, fit, q3.ris, by rw [q5]; exact R.led.symm⟩, nd1, Nat.le_of_eq l64⟩
    first
      | refine wp_if_neg (by simp [nf]) ?_
      | (refine wpAny_bind ?_; refine wp_if_neg (by simp [nf]) ?_; refine wpAny_pure ?_)
    exact wpAny_pure (new hm h1 L1 sb got pm)
end
section
variable {X : Cx} {pins : List (Addr × Obj)} {σ : L2.St} {H : Hp} {s : Shared}
/-- D.add(t), t a tuple of ints -/
theorem put_tup {E : Value → Shared → Prop} {D t : Addr} {k : List Int} {L : List (Addr × List Int)} {Q : Value → Shared → Prop} (J : Inv X pins σ H s) (hD : H D = some (SetTO X.prog X.w D L))
    (hL : ∀ p ∈ L, SqT X.K H p.1 (p.2.map V.int)) (ht : SqT X.K H t (k.map V.int)) (few : L.length < 64) (hu : X.A.units + 1 < cLine)
    (go : ∀ L' s', (k ∈ L.map (·.2) → L' = L) → (k ∉ L.map (·.2) → L'.Perm ((t, k) :: L)) → Inv X pins σ (upd H D (SetQ X.prog X.w D L')) s' → Q .none s') :
    wpAny (model X.prog X.w) X.A (call (.builtin "set.add") [.ref D, .ref t]) Q E s := by
  have R0 : SetT0 X.prog X.w s.heap D L := (J.hok D _ hD).1
  obtain ⟨es, ep, tb, R⟩ := R0.full fun p hp => J.isT (hL p hp)
  have hk : L2.IsT X.prog X.w s.heap k t := J.isT ht
  have hT : s.TypeIs (.ref D) "set" := by
    obtain ⟨o, ho, hx, _⟩ := R.ob
    exact ⟨o, ho, hx.1⟩
  refine wpAny_call_entry F.slot_set_add hT F.entry_set_add ?_ (F.args_set_add_2 _ _)
  unfold Builtin.«set.add» Builtin.Frozenset.oneOther
  simp only [bind_assoc, List.isEmpty_nil]
  unfold setAdd Builtin.Frozenset.addrOf
  refine wpAny_bind (wpAny_pure ?_)
  try dsimp only
  refine wpAny_bind (wpAny_pure ?_)
  try dsimp only
  refine wpAny_bind (wpAny_holding (wpAny_bind (wpAny_pyHash_tuple hu hk ?_)))
  rcases Nat.lt_or_ge (L.length + 1) 64 with lt | ge
  case inr =>
    refine add_last (s := { s with toks := s.toks + (k.length + 1) }) R hk hu (by omega) (fun hm => ?_) fun hm h' L' sb R2 pm => ?_
    · show wpAny _ _ (ret Value.none) _ _ _
      have there : ∃ u, s.heap.get? D = some u := by
        obtain ⟨o, ho, _⟩ := R.ob
        exact ⟨o, ho⟩
      refine wpAny_pure ⟨_, rfl, go L _ (fun _ => rfl) (fun z => absurd hm z) (J.write (e := D) (t' := s.toks + (k.length + 1)) (by rw [hD]; trivial) (.inl rfl) (fun b u hb q => q) there ?_)⟩
      rw [setQ_few few]
      exact setTO_new R0
    · show wpAny _ _ (ret Value.none) _ _ _
      have there : ∃ u, h'.get? D = some u := by
        obtain ⟨_, _, _, o, ⟨ho, _⟩, _⟩ := R2.at_
        exact ⟨o, ho⟩
      refine wpAny_pure ⟨_, rfl, go L' _ (fun z => absurd z hm) (fun _ => pm) (J.write (e := D) (t' := s.toks + (k.length + 1)) (by rw [hD]; trivial) (.inl rfl) (fun b u hb q => (sb.2 b hb).trans q) there ?_)⟩
      have l64 : ¬ L'.length < 64 := by rw [pm.length_eq, List.length_cons]; omega
      rw [show SetQ X.prog X.w D L' = FullO X.prog X.w D L' from if_neg l64]
      exact full_ok R2
  refine add_at (s := { s with toks := s.toks + (k.length + 1) }) R hk hu lt fun b h' L' es' ep' t' sb R2 c1 c2 => ?_
  show wpAny _ _ (ret Value.none) _ _ _
  have there : ∃ u, h'.get? D = some u := by
    obtain ⟨o, ho, _⟩ := R2.ob
    exact ⟨o, ho⟩
  exact wpAny_pure ⟨_, rfl, go L' _ c1 c2 (J.write (e := D) (t' := s.toks + (k.length + 1)) (by rw [hD]; trivial) (.inl rfl) (fun b u hb q => (sb.2 b hb).trans q) there (by rw [setQ_few R2.few]; exact setTO_new R2.t0))⟩
/-- {elt for target in iter}, elt a tuple of ints: D the new set; L its members, each with its address -/
def tSct (P : Program) (w : World) (K : PySem.W.Frag) (walk : TI) (g : TG) (tt : TT) (te : TE) (vs : List Nat) : TE := fun σ H Q => walk σ H fun J H1 => ∀ D, H1 D = none →
  ∃ W : Nat → Nat → Hp → Prop, (∃ m, W 0 m (upd H1 D (SetTO P w D []))) ∧ ∀ i m G, W i m G →
    (J.stop i G ∧ Q (.ref D) G) ∨ (J.go i G ∧ ∃ Nx : Hp → Prop, (∀ G', Nx G' → ∃ m', m' < m ∧ W (i + 1) m' G') ∧
      ∀ x G1, J.yld i G x G1 → g x (wipe σ vs) G1 fun σ2 G2 => wipe σ2 vs = wipe σ vs ∧ tt σ2 G2 fun b G3 => if b = true then te σ2 G3 fun y G4 =>
        ∃ (t : Addr) (k : List Int) (L : List (Addr × List Int)), y = .ref t ∧ SqT K G4 t (k.map V.int) ∧ G4 D = some (SetTO P w D L) ∧ (∀ p ∈ L, SqT K G4 p.1 (p.2.map V.int)) ∧ L.length < 64 ∧
          ∀ L', (k ∈ L.map (·.2) → L' = L) → (k ∉ L.map (·.2) → L'.Perm ((t, k) :: L)) → Nx (upd G4 D (SetQ P w D L')) else Nx G3)
/-- the set that a comprehension begins with -/
abbrev noSet (w : World) : Obj := { cls := .type "set", dict := none, data := .set #[] 0 (.fresh 0 0 (!w.params.followText "set-order")) }
theorem pe_sct {elt tg iter : Expr} {ifs : List Expr} {scope : Scope} {own : List (PySem.Str × Nat)} {pos : Pos} {walk : TI} {g : TG} {tt : TT} {te : TE} (calm : X.calm = true) (hu : X.A.units + 1 < cLine) (nd : X.N.Nodup) (hi : PI X tg iter walk)
    (ok : BlkOk X.N X.env.scope scope own)
    (hg : ∀ (s0 : Shared) (H0 : Hp) (C : Addr) (cl : List (PySem.Str × Addr)) (fp : List Addr), PG (X.blk s0 H0 scope (compEnvC scope cl C X.env) fp) tg g)
    (ht : ∀ (s0 : Shared) (H0 : Hp) (C : Addr) (cl : List (PySem.Str × Addr)) (fp : List Addr), PTs (X.blk s0 H0 scope (compEnvC scope cl C X.env) fp) ifs tt)
    (he : ∀ (s0 : Shared) (H0 : Hp) (C : Addr) (cl : List (PySem.Str × Addr)) (fp : List Addr), PE (X.blk s0 H0 scope (compEnvC scope cl C X.env) fp) elt te)
    (plain : ∀ x, foldedSetIterable iter X.env x = pure x := by intro _; rfl) :
    PE X (.SetComp elt [⟨tg, iter, ifs, 0⟩] scope pos) (tSct X.prog X.w X.K walk g tt te (own.map (·.2))) := by
  refine ⟨fun pins s σ H Q J0 h => ?_⟩
  rw [eval_SetComp]
  have frees : ∀ y ∈ scope.names, y.2 = .free → ∃ c, X.env.cells.lookup y.1 = some c := fun y hy e => (ok.free y hy e).elim (fun z => J0.ok.has _ (.inl z)) fun z => J0.ok.has _ (.inr z)
  refine wpAny_comprehension_free rfl plain (closure_ok frees) ok.kind (fun y hy e => by rw [ok.uniq y hy, e]) (thn (hi.run pins s σ H _ J0 h) fun xv sa hx => thn hx fun itv sb h2 => ?_)
  obtain ⟨it, fp, tn, J, Ha, e, Ia, T, sta, fa, q⟩ := h2
  subst e
  refine newSet_ok (newEnv_comp ?_)
  generalize eD : sb.heap.objs.size = D
  obtain ⟨W, ⟨m0, w0⟩, turn⟩ := q D (Ia.hok.fresh (Nat.le_of_eq eD))
  generalize es1 : ({ sb with heap := sb.heap.push (noSet X.w) } : Shared) = s1
  have hp1 : s1.heap = sb.heap.push (noSet X.w) := by rw [← es1]
  have I1 : L2.Inv X pins σ (upd Ha D (SetTO X.prog X.w D [])) s1 := by
    rw [← es1]
    refine Ia.laid (t' := sb.toks) (fun b o z => Heap.get?_push_of_some _ z) (Nat.le_of_eq eD) (setTO_new (SetTR.t0 (es := #[]) (ep := 0) (setTR_fresh ?_)))
    rw [← eD]
    exact Heap.get?_push_size _ rfl
  have fpOk : ∀ b ∈ fp, FpOk X pins (upd Ha D (SetTO X.prog X.w D [])) b ∧ b < s1.heap.objs.size := fun b hb => by
    obtain ⟨o, z, _⟩ := T.obj _ _ sta b hb
    have lt := Heap.lt_size z
    refine ⟨⟨?_, (fa b hb).2⟩, by rw [hp1, Heap.size_push]; exact Nat.lt_succ_of_lt lt⟩
    rw [upd_ne (by rw [← eD]; exact Nat.ne_of_lt lt)]
    exact (fa b hb).1
  have st1 : tn 0 s1.heap := T.keep _ _ _ sta fun b _ o z => by
    rw [hp1]
    exact Heap.get?_push_of_some _ z
  have I2 := block_start I1 ok nd fpOk
  have rg := hg s1 (upd Ha D (SetTO X.prog X.w D [])) s1.heap.objs.size (cellsFrom (s1.heap.objs.size + 1) scope.names (cloFrom X.env.cells scope.names [])) fp
  have rt := ht s1 (upd Ha D (SetTO X.prog X.w D [])) s1.heap.objs.size (cellsFrom (s1.heap.objs.size + 1) scope.names (cloFrom X.env.cells scope.names [])) fp
  have re := he s1 (upd Ha D (SetTO X.prog X.w D [])) s1.heap.objs.size (cellsFrom (s1.heap.objs.size + 1) scope.names (cloFrom X.env.cells scope.names [])) fp
  show codeAny _ _ (.compStart (.SetComp elt [⟨tg, iter, ifs, 0⟩] scope pos) 0 (.ref it) (.ref D) (compEnvC scope (cellsFrom (s1.heap.objs.size + 1) scope.names (cloFrom X.env.cells scope.names [])) s1.heap.objs.size X.env))
    (compPost (model X.prog X.w) X.A X.xe none (EP X pins σ Q) (.ref D) s1.heap.objs.size) { s1 with heap := pushCells (s1.heap.push { cls := .type "dict", data := .dict #[] }) scope.names }
  have nofp : ∀ b ∈ fp, (upd Ha D (SetTO X.prog X.w D [])) b = none := fun b hb => (fpOk b hb).1.1
  generalize ece : compEnvC scope (cellsFrom (s1.heap.objs.size + 1) scope.names (cloFrom X.env.cells scope.names [])) s1.heap.objs.size X.env = ce at I2 rg rt re ⊢
  have cL : ce.locals = s1.heap.objs.size := by subst ece; rfl
  generalize eHb : upd Ha D (SetTO X.prog X.w D []) = Hb at I1 I2 rg rt re w0 nofp fpOk
  generalize es2 : ({ s1 with heap := pushCells (s1.heap.push { cls := .type "dict", data := .dict #[] }) scope.names } : Shared) = s2 at I2 ⊢
  have st2 : tn 0 s2.heap := T.keep _ _ _ st1 fun b _ o z => by
    rw [← es2]
    exact pushCells_keeps _ _ _ _ (Heap.get?_push_of_some _ z)
  have fpB : ∀ {σ' : L2.St} {H' : Hp} {s' : Shared}, L2.Inv (X.blk s1 Hb scope ce fp) [] σ' H' s' → (∀ b ∈ fp, H' b = none) → ∀ b ∈ fp, FpOk (X.blk s1 Hb scope ce fp) [] H' b := fun {σ' H' s'} I' hn b hb =>
    ⟨hn b hb, (I'.ok.exf b hb).1, I'.ok.exfs b hb, .inl hb, fun x c z => (I'.ok.exf b hb).2 x c z, fun p hp => absurd (show p ∈ ([] : List (Addr × Obj)) ++ [] from hp) (by simp)⟩
  have loop : codeAny (model X.prog X.w) X.A (.compLoop (.SetComp elt [⟨tg, iter, ifs, 0⟩] scope pos) 0 (.ref it) (.ref D) ce) (compPost (model X.prog X.w) X.A X.xe none (EP X pins σ Q) (.ref D) s1.heap.objs.size) s2 := by
    refine compLoopS_any (fun n z => ∃ i G, L2.Inv (X.blk s1 Hb scope ce fp) [] (wipe σ (own.map (·.2))) G z ∧ tn i z.heap ∧ (∀ b ∈ fp, G b = none) ∧ W i n G) ?_ m0 ⟨0, Hb, I2, st2, nofp, w0⟩
    rintro n s3 ⟨i, G, I3, st3, n3, w3⟩
    rcases turn i n G w3 with ⟨stop, qq⟩ | ⟨go, Nx, hNx, step⟩
    · refine thnF (T.done (X.blk s1 Hb scope ce fp) rfl rfl rfl calm i [] s3 _ G (fun _ _ => False) I3 (fpB I3 n3) st3 stop) fun r s4 ⟨hr, I4⟩ => ?_
      subst hr
      have I5 : L2.Inv X pins σ G s4 := I1.call' (ch := fp) I4.os I4.base I4.hok I4.bare fun b hb => ⟨(fpOk b hb).1.2.2.2.1, (fpOk b hb).1.2.1, (fpOk b hb).1.2.2.2.2.1, (fpOk b hb).1.2.2.2.2.2⟩
      have nC : G s1.heap.objs.size = none := by
        have z : G ce.locals = none := I4.free
        rw [cL] at z
        exact z
      obtain ⟨mm, hn, _⟩ := I4.loc
      have hn' : s4.heap.Ns ce.locals mm := hn
      rw [cL] at hn'
      refine ⟨mm, hn', fun h'' sbt => ?_⟩
      obtain ⟨f0, f1, f2, f3, f4, f5⟩ := I1.fpOk (Nat.le_refl _) nC
      exact ⟨.ref D, G, I5.turned (t' := s4.toks) (fun b o hb z => (sbt.2 b hb).trans z) f0 f1 f3 f4 f5, rfl, qq⟩
    · refine thnF (T.item (X.blk s1 Hb scope ce fp) rfl rfl rfl calm i [] s3 _ G (fun _ _ => False) I3 (fpB I3 n3) st3 go) fun r s4 ⟨u, hr, h4⟩ => ?_
      subst hr
      refine thnF h4 fun _ s5 ⟨x, G1, I5, r5, y5, st5, n5⟩ => ?_
      refine thnF (rg.run _ s5 _ G1 x u _ (I5.pinned (fpB I5 n5) (T.obj _ _ st5)) r5 (step x G1 y5)) fun _ s6 ⟨σ6, G2, I6, hw, q6⟩ => ?_
      refine thnF (rt.run _ s6 σ6 G2 _ I6 q6) fun b s7 ⟨G3, I7, q7⟩ => ?_
      have fin : ∀ {s' : Shared} {G' : Hp}, L2.Inv (X.blk s1 Hb scope ce fp) ([] ++ pinsAt fp s5.heap) σ6 G' s' → Nx G' → ∃ m, m < n ∧ ∃ i G, L2.Inv (X.blk s1 Hb scope ce fp) [] (wipe σ (own.map (·.2))) G s' ∧ tn i s'.heap ∧ (∀ b ∈ fp, G b = none) ∧ W i m G := fun {s' G'} I' nx => by
        obtain ⟨m', hm, w'⟩ := hNx G' nx
        have pn : ∀ b ∈ fp, ∀ o, s5.heap.get? b = some o → s'.heap.get? b = some o ∧ G' b = none := fun b hb o z =>
          let y := I'.pin (b, o) (List.mem_append_right _ (List.mem_append_right _ (mem_pinsAt hb z)))
          ⟨y.1, y.2.1⟩
        refine ⟨m', hm, i + 1, G', (I'.unpinned (pins := [])).weak (by rw [← hw, wipe_length]) (fun j v z => ?_), T.keep _ _ _ st5 fun b hb o z => (pn b hb o z).1, fun b hb => ?_, w'⟩
        · rw [← hw] at z
          exact (wipe_some z).1
        · obtain ⟨o, z, _⟩ := T.obj _ _ st5 b hb
          exact (pn b hb o z).2
      cases b with
      | false =>
        simp only [if_false, Bool.false_eq_true] at q7 ⊢
        exact fin I7 q7
      | true =>
        simp only [if_true] at q7 ⊢
        refine thnF (re.run _ s7 σ6 G3 _ I7 q7) fun z s8 ⟨yv, G4, I8, r8, t, k, L, ey, htk, hD, hL, few, nx⟩ => ?_
        subst ey
        cases (show z = Value.ref t from r8)
        exact put_tup (X := X.blk s1 Hb scope ce fp) I8 hD hL htk few hu fun L' s9 c1 c2 I9 => fin I9 (nx L' c1 c2)
  exact codeAny_compStart_set loop (T.self X.A 0 _ _ _ st2 loop)
end
end Pm
namespace Pm
open PySem PySem.Spec PyProof.Rows L2 PpSet SrtO
/-! ### sorted of a set of pairs -/
def pr (l : List Int) : Int × Int := (l.getD 0 0, l.getD 1 0)
section
variable {P : Program} {w : World} {A : Around} {E : Value → Shared → Prop} {s : Shared}
theorem pair_of {h : Heap} {b : Addr} {k : List Int} (x : L2.IsT P w h k b) (hl : k.length = 2) : Srt.IsPair h (.ref b) (pr k).1 (pr k).2 := by
  obtain ⟨a, xs, e, ⟨o, ho, hc, n, hd⟩, i⟩ := tupInts_of x
  injection e with e
  subst e
  obtain ⟨u, v, rfl⟩ : ∃ u v, k = [u, v] := match k, hl with | [u, v], _ => ⟨u, v, rfl⟩
  generalize exs : xs.toList = l at i
  cases i with
  | cons _ t1 i =>
    cases i with
    | cons _ t2 i =>
      cases i
      have ex : xs = #[Value.int u t1, Value.int v t2] := by
        rw [← Array.toArray_toList (xs := xs), exs]
      subst ex
      exact ⟨_, o, _, _, n, rfl, ho, hc, hd⟩
variable {a : Addr} {L : List (Addr × List Int)}
theorem sorted_setP {Q : Value → Shared → Prop} (R : Full P w s.heap a L) (tp : ∀ p ∈ L, L2.IsT P w s.heap p.2 p.1) (hh : A.handled = none) (two : ∀ p ∈ L, p.2.length = 2)
    (go : ∀ s' p (out : Array Value) (c : Nat) (M : List (Addr × List Int)), (∀ b o, s.heap.get? b = some o → s'.heap.get? b = some o) → s'.gens = s.gens → s'.os = s.os → s.heap.objs.size ≤ p → s'.heap.get? p = some (seqObj "list" out c) →
      out.toList = M.map (fun q => Value.ref q.1) → M.Perm L → M.Pairwise (fun q r => lexB (pr r.2) (pr q.2) = false) → Q (.ref p) s') :
    wpAny (model P w) A (call (.builtin "sorted") [.ref a]) Q E s := by
  obtain ⟨es, ep, t, o, ⟨ho, hcl, hd⟩, rows, ft, ris, led⟩ := R.at_
  have few := R.len
  have sz : es.size = L.length := by
    have z := congrArg List.length rows
    rw [List.length_map, List.length_map, Array.length_toList] at z
    exact z
  refine Calls.call_function_entry kind_sorted plain_sorted entry_sorted (args_sorted1 _) ?_
  unfold Builtin.«sorted»
  refine wpAny_bind (m := checkCount "sorted" 1 1 _) (wpAny_pure (wpAny_bind ?_))
  refine collect_set (A := A.in1) hh ⟨o, ho, hcl, hd⟩ ft (by unfold scanBound; omega) ris led.symm fun s1 vs k1 hz g1 o1 pm => ?_
  rw [rows] at pm
  have lv : vs.length ≤ 64 := by
    rw [pm.length_eq, List.length_map]
    exact few
  refine wpAny_bind (wpAny_newList ?_ (by rw [sizeLine_eq]; omega))
  have hoL : (s1.heap.push (seqObj "list" vs.toArray 0)).get? s1.heap.objs.size = some (seqObj "list" vs.toArray 0) := Heap.get?_push_size _ rfl
  have tk : ∀ q ∈ L, L2.IsT P w (s1.heap.push (seqObj "list" vs.toArray 0)) q.2 q.1 := fun q hq => isT_keep (tp q hq) fun b u e => Heap.get?_push_of_some _ (k1 b u e)
  generalize eh : s1.heap.push (seqObj "list" vs.toArray 0) = h1 at hoL tk
  have fromL : ∀ v ∈ vs, ∃ q ∈ L, v = Value.ref q.1 := fun v hv => by
    obtain ⟨q, hq, e⟩ := List.mem_map.mp (pm.mem_iff.mp hv)
    exact ⟨q, hq, e.symm⟩
  have isP : ∀ v ∈ vs, Srt.IsPair h1 v (pr (TS.intsOf h1 v)).1 (pr (TS.intsOf h1 v)).2 := fun v hv => by
    obtain ⟨q, hq, e⟩ := fromL v hv
    rw [e, (tupInts_of (tk q hq)).ints]
    exact pair_of (tk q hq) (two q hq)
  refine wpAny_bind (wpAny_holding (wpAny_call_entry slot_list_sort ⟨_, hoL, rfl⟩ entry_list_sort (list_sort_ord (s := { s1 with heap := h1 }) (swo_lex fun v => pr (TS.intsOf h1 v)) hoL (by rw [sizeLine_eq]; omega)
    (fun h2 => pairs_sortableO (by omega) isP fun o e => ?_) fun out hs hb => ⟨_, rfl, ?_⟩) (args_list_sort _)))
  · have e' : some o = some (seqObj "list" vs.toArray 0) := e.symm.trans hoL
    cases e'
    intro c
    exact absurd (Value.type.inj c) (by decide)
  · -- the rows behind the values
    have pick : ∀ us : List Value, (∀ v ∈ us, ∃ q ∈ L, v = Value.ref q.1) → ∃ M : List (Addr × List Int), us = M.map (fun q => Value.ref q.1) ∧ ∀ q ∈ M, q ∈ L := by
      intro us
      induction us with
      | nil => exact fun _ => ⟨[], rfl, fun q hq => nomatch hq⟩
      | cons v us ih =>
        intro hv
        obtain ⟨q, hq, e⟩ := hv v List.mem_cons_self
        obtain ⟨M, e1, hM⟩ := ih fun u hu => hv u (List.mem_cons_of_mem _ hu)
        exact ⟨q :: M, by rw [e, e1, List.map_cons], fun r hr => (List.mem_cons.mp hr).elim (fun z => z ▸ hq) (hM r)⟩
    have same : ∀ q ∈ L, ∀ r ∈ L, q.1 = r.1 → q = r := fun q hq r hr e => by
      have a1 := tp q hq
      rw [e] at a1
      exact Prod.ext e (a1.inj (tp r hr))
    obtain ⟨M, eM, hM⟩ := pick out fun v hv => fromL v (hb.perm.mem_iff.mp hv)
    have pmM : (M.map fun q => Value.ref q.1).Perm (L.map fun q => Value.ref q.1) := by
      rw [← eM]
      exact hb.perm.trans pm
    have nL : L.Nodup := nodup_of_map R.nd
    have nR : (L.map fun q => Value.ref q.1).Nodup := List.pairwise_map.mpr (List.Pairwise.imp_of_mem (fun {q r} hq hr hne e => by
      injection e with e
      exact hne (same q hq r hr e)) nL)
    have nM : M.Nodup := nodup_of_map (pmM.nodup_iff.mpr nR)
    have pL : M.Perm L := (List.perm_ext_iff_of_nodup nM nL).mpr fun q => ⟨hM q, fun hq => by
      obtain ⟨r, hr, e⟩ := List.mem_map.mp (pmM.mem_iff.mpr (List.mem_map.mpr ⟨q, hq, rfl⟩))
      injection e with e
      rw [← same r (hM r hr) q hq e]
      exact hr⟩
    have pw : M.Pairwise (fun q r => lexB (pr r.2) (pr q.2) = false) := by
      have z : List.Pairwise (fun x y => lexB (pr (TS.intsOf h1 y)) (pr (TS.intsOf h1 x)) = false) out := hs
      rw [eM] at z
      refine List.Pairwise.imp_of_mem (fun {q r} hq hr c => ?_) (List.pairwise_map.mp z)
      rw [(tupInts_of (tk q (hM q hq))).ints, (tupInts_of (tk r (hM r hr))).ints] at c
      exact c
    obtain ⟨c, hc⟩ := sortedHeap_at (vs := vs) (out := out.toArray) hoL
    refine wpAny_pure ⟨_, rfl, go _ s1.heap.objs.size out.toArray c M (fun b u e => ?_) g1 o1 hz hc (by rw [List.toList_toArray]; exact eM) pL pw⟩
    have q := k1 b u e
    have lt := Heap.lt_size q
    show (sortedHeap h1 s1.heap.objs.size vs out.toArray).get? b = some u
    have sz1 : h1.objs.size = s1.heap.objs.size + 1 := by rw [← eh, size_push']
    rw [sortedHeap_old (Nat.ne_of_lt lt) (by rw [sz1]; exact Nat.lt_succ_of_lt lt), ← eh]
    exact Heap.get?_push_of_some _ q
end
/-- sorted(set) of pairs: a new list, ascending by the first int, then by the second -/
def rSortedSP (K : PySem.W.Frag) (P : Program) (w : World) : List V → Hp → VK → Prop := fun vs H Q => ∃ (a : Addr) (L : List (Addr × List Int)), vs = [V.ref a] ∧ (H a = some (SetTO P w a L) ∨ H a = some (FullO P w a L)) ∧ (∀ p ∈ L, SqT K H p.1 (p.2.map V.int) ∧ p.2.length = 2) ∧
  ∀ (M : List (Addr × List Int)) (p : Addr), M.Perm L → (M.map (·.2)).Nodup → M.Pairwise (fun q r => lexB (pr r.2) (pr q.2) = false) → H p = none → Q (.ref p) (upd H p (.lst (M.map fun q => V.ref q.1)))
theorem cr_sortedSP {X : Cx} (calm : X.calm = true) : CallR X (.builtin "sorted") (rSortedSP X.K X.prog X.w) := by
  intro pins s σ H vs us Q I r h
  obtain ⟨a, L, rfl, ha, hk, q⟩ := h
  have tp : ∀ p ∈ L, L2.IsT X.prog X.w s.heap p.2 p.1 := fun p hp => I.isT (hk p hp).1
  have R : Full X.prog X.w s.heap a L := ha.elim (fun z => full_of (I.hok a _ z).1 tp) fun z => (I.hok a _ z).1
  rw [Vals.ref1 r]
  refine sorted_setP R tp (I.ok.hd calm) (fun p hp => (hk p hp).2) fun s' p out c M kp g o hp hg hout pm pw => ?_
  have lM : (M.map fun q => V.ref q.1).length ≤ sizeLine := by
    have := R.len
    rw [List.length_map, sizeLine_eq, pm.length_eq]
    omega
  have hn : H p = none := I.hok.fresh hp
  have hv : Vals (M.map fun q => V.ref q.1) out.toList := by
    rw [hout]
    exact vals_of_refs M
  have J : L2.Inv X pins σ (upd H p (.lst (M.map fun q => V.ref q.1))) { s with heap := s'.heap, gens := s'.gens, drawn := s'.drawn, toks := s'.toks } :=
    I.call (ch := []) (Un.laid kp hp hn) (I.hok.laid kp hp ⟨lM, out.toList, c, hv, hg⟩) (by rw [g]; exact I.bare) (fun _ z => nomatch z)
  have e : s' = { s with heap := s'.heap, gens := s'.gens, drawn := s'.drawn, toks := s'.toks } := by
    cases s'
    cases s
    cases o
    rfl
  rw [e]
  exact ⟨.ref p, _, J, rfl, q M p pm ((pm.map (·.2)).nodup_iff.mpr R.nd) pw hn⟩
end Pm
namespace Pm
open PySem PySem.Spec PyProof.Rows L2 PpSet
/-! ### dict comprehensions whose keys are tuples -/
abbrev noDict : Obj := { cls := .type "dict", data := .dict #[] }
section
variable {X : Cx} {pins : List (Addr × Obj)} {σ : L2.St} {H : Hp} {s : Shared}
/-- D[t] = v by a comprehension, t a tuple -/
theorem put_dt {E : Value → Shared → Prop} {D t : Addr} {k : List L2.Key} {kvs : List (List L2.Key × V)} {v : V} {r : Value} {Q : Unit → Shared → Prop} (J : Inv X pins σ H s) (hD : H D = some (.dT kvs)) (ht : H t = some (.tup (k.map kV)))
    (few : kvs.length < sizeLine) (hu : X.A.units + 1 < cLine) (rv : RelV v r) (go : ∀ s', Inv X pins σ (upd H D (.dT (putK kvs k v))) s' → Q () s') :
    wpAny (model X.prog X.w) X.A (dictSet D (.ref t) r) Q E s := by
  obtain ⟨z, hd, xs, rel, dd⟩ := dt_of J.hok hD
  have lk : (putK kvs k v).length ≤ sizeLine := by
    have := length_putK kvs k v
    omega
  refine wpAny_dictSet_heap (hsz := by rw [← Paired.length rel]; exact z) (show X.A.units < cLine by omega) (key_of J.hok ht) dd fun h' dd' sb => go _ ?_
  obtain ⟨q, es, ep, hq, h2, h3, h4, _, h5⟩ := dd'
  refine d_write J (by rw [hD]; trivial) sb ⟨q, hq⟩ ⟨lk, hd, _, (rel.put k ht rv).keeps fun c ys ec => ?_, q, es, ep, hq, h2, h3, h4, h5⟩
  rw [upd_ne (ne_of ec hD (fun y => nomatch y))]
  exact ec
/-- {k: v for target in iter}, k a tuple: D the new dict -/
def tDct (walk : TI) (g : TG) (tt : TT) (tk te : TE) (vs : List Nat) : TE := fun σ H Q => walk σ H fun J H1 => ∀ D, H1 D = none →
  ∃ W : Nat → Nat → Hp → Prop, (∃ m, W 0 m (upd H1 D (.dT []))) ∧ ∀ i m G, W i m G →
    (J.stop i G ∧ Q (.ref D) G) ∨ (J.go i G ∧ ∃ Nx : Hp → Prop, (∀ G', Nx G' → ∃ m', m' < m ∧ W (i + 1) m' G') ∧
      ∀ x G1, J.yld i G x G1 → g x (wipe σ vs) G1 fun σ2 G2 => wipe σ2 vs = wipe σ vs ∧ tt σ2 G2 fun b G3 => if b = true then tk σ2 G3 fun y G4 => te σ2 G4 fun v G5 =>
        ∃ (t : Addr) (k : List L2.Key) (kvs : List (List L2.Key × V)), y = .ref t ∧ G5 t = some (.tup (k.map kV)) ∧ G5 D = some (.dT kvs) ∧ kvs.length < sizeLine ∧ Nx (upd G5 D (.dT (putK kvs k v))) else Nx G3)
theorem pe_dct {kx vx tg iter : Expr} {ifs : List Expr} {scope : Scope} {own : List (PySem.Str × Nat)} {pos : Pos} {walk : TI} {g : TG} {tt : TT} {tk te : TE} (calm : X.calm = true) (hu : X.A.units + 1 < cLine) (nd : X.N.Nodup) (hi : PI X tg iter walk)
    (ok : BlkOk X.N X.env.scope scope own)
    (hg : ∀ (s0 : Shared) (H0 : Hp) (C : Addr) (cl : List (PySem.Str × Addr)) (fp : List Addr), PG (X.blk s0 H0 scope (compEnvC scope cl C X.env) fp) tg g)
    (ht : ∀ (s0 : Shared) (H0 : Hp) (C : Addr) (cl : List (PySem.Str × Addr)) (fp : List Addr), PTs (X.blk s0 H0 scope (compEnvC scope cl C X.env) fp) ifs tt)
    (hk : ∀ (s0 : Shared) (H0 : Hp) (C : Addr) (cl : List (PySem.Str × Addr)) (fp : List Addr), PE (X.blk s0 H0 scope (compEnvC scope cl C X.env) fp) kx tk)
    (he : ∀ (s0 : Shared) (H0 : Hp) (C : Addr) (cl : List (PySem.Str × Addr)) (fp : List Addr), PE (X.blk s0 H0 scope (compEnvC scope cl C X.env) fp) vx te)
    (plain : ∀ x, foldedSetIterable iter X.env x = pure x := by intro _; rfl) :
    PE X (.DictComp kx vx [⟨tg, iter, ifs, 0⟩] scope pos) (tDct walk g tt tk te (own.map (·.2))) := by
  refine ⟨fun pins s σ H Q J0 h => ?_⟩
  rw [arm_eval_DictComp]
  have frees : ∀ y ∈ scope.names, y.2 = .free → ∃ c, X.env.cells.lookup y.1 = some c := fun y hy e => (ok.free y hy e).elim (fun z => J0.ok.has _ (.inl z)) fun z => J0.ok.has _ (.inr z)
  refine wpAny_comprehension_free rfl plain (closure_ok frees) ok.kind (fun y hy e => by rw [ok.uniq y hy, e]) (thn (hi.run pins s σ H _ J0 h) fun xv sa hx => thn hx fun itv sb h2 => ?_)
  obtain ⟨it, fp, tn, J, Ha, e, Ia, T, sta, fa, q⟩ := h2
  subst e
  refine wpAny_newObj_type (newEnv_comp ?_)
  generalize eD : sb.heap.objs.size = D
  obtain ⟨W, ⟨m0, w0⟩, turn⟩ := q D (Ia.hok.fresh (Nat.le_of_eq eD))
  generalize es1 : ({ sb with heap := sb.heap.push (noDict) } : Shared) = s1
  have hp1 : s1.heap = sb.heap.push (noDict) := by rw [← es1]
  have I1 : L2.Inv X pins σ (upd Ha D (.dT [])) s1 := by
    rw [← es1]
    refine Ia.laid (t' := sb.toks) (fun b o z => Heap.get?_push_of_some _ z) (Nat.le_of_eq eD) ?_
    rw [← eD]
    exact dt_empty sb.heap Ia.big
  have fpOk : ∀ b ∈ fp, FpOk X pins (upd Ha D (.dT [])) b ∧ b < s1.heap.objs.size := fun b hb => by
    obtain ⟨o, z, _⟩ := T.obj _ _ sta b hb
    have lt := Heap.lt_size z
    refine ⟨⟨?_, (fa b hb).2⟩, by rw [hp1, Heap.size_push]; exact Nat.lt_succ_of_lt lt⟩
    rw [upd_ne (by rw [← eD]; exact Nat.ne_of_lt lt)]
    exact (fa b hb).1
  have st1 : tn 0 s1.heap := T.keep _ _ _ sta fun b _ o z => by
    rw [hp1]
    exact Heap.get?_push_of_some _ z
  have I2 := block_start I1 ok nd fpOk
  have rg := hg s1 (upd Ha D (.dT [])) s1.heap.objs.size (cellsFrom (s1.heap.objs.size + 1) scope.names (cloFrom X.env.cells scope.names [])) fp
  have rt := ht s1 (upd Ha D (.dT [])) s1.heap.objs.size (cellsFrom (s1.heap.objs.size + 1) scope.names (cloFrom X.env.cells scope.names [])) fp
  have rk := hk s1 (upd Ha D (.dT [])) s1.heap.objs.size (cellsFrom (s1.heap.objs.size + 1) scope.names (cloFrom X.env.cells scope.names [])) fp
  have re := he s1 (upd Ha D (.dT [])) s1.heap.objs.size (cellsFrom (s1.heap.objs.size + 1) scope.names (cloFrom X.env.cells scope.names [])) fp
  show codeAny _ _ (.compStart (.DictComp kx vx [⟨tg, iter, ifs, 0⟩] scope pos) 0 (.ref it) (.ref D) (compEnvC scope (cellsFrom (s1.heap.objs.size + 1) scope.names (cloFrom X.env.cells scope.names [])) s1.heap.objs.size X.env))
    (compPost (model X.prog X.w) X.A X.xe none (EP X pins σ Q) (.ref D) s1.heap.objs.size) { s1 with heap := pushCells (s1.heap.push { cls := .type "dict", data := .dict #[] }) scope.names }
  have nofp : ∀ b ∈ fp, (upd Ha D (.dT [])) b = none := fun b hb => (fpOk b hb).1.1
  generalize ece : compEnvC scope (cellsFrom (s1.heap.objs.size + 1) scope.names (cloFrom X.env.cells scope.names [])) s1.heap.objs.size X.env = ce at I2 rg rt rk re ⊢
  have cL : ce.locals = s1.heap.objs.size := by subst ece; rfl
  generalize eHb : upd Ha D (.dT []) = Hb at I1 I2 rg rt rk re w0 nofp fpOk
  generalize es2 : ({ s1 with heap := pushCells (s1.heap.push { cls := .type "dict", data := .dict #[] }) scope.names } : Shared) = s2 at I2 ⊢
  have st2 : tn 0 s2.heap := T.keep _ _ _ st1 fun b _ o z => by
    rw [← es2]
    exact pushCells_keeps _ _ _ _ (Heap.get?_push_of_some _ z)
  have fpB : ∀ {σ' : L2.St} {H' : Hp} {s' : Shared}, L2.Inv (X.blk s1 Hb scope ce fp) [] σ' H' s' → (∀ b ∈ fp, H' b = none) → ∀ b ∈ fp, FpOk (X.blk s1 Hb scope ce fp) [] H' b := fun {σ' H' s'} I' hn b hb =>
    ⟨hn b hb, (I'.ok.exf b hb).1, I'.ok.exfs b hb, .inl hb, fun x c z => (I'.ok.exf b hb).2 x c z, fun p hp => absurd (show p ∈ ([] : List (Addr × Obj)) ++ [] from hp) (by simp)⟩
  have loop : codeAny (model X.prog X.w) X.A (.compLoop (.DictComp kx vx [⟨tg, iter, ifs, 0⟩] scope pos) 0 (.ref it) (.ref D) ce) (compPost (model X.prog X.w) X.A X.xe none (EP X pins σ Q) (.ref D) s1.heap.objs.size) s2 := by
    refine compLoop_anyD (fun n z => ∃ i G, L2.Inv (X.blk s1 Hb scope ce fp) [] (wipe σ (own.map (·.2))) G z ∧ tn i z.heap ∧ (∀ b ∈ fp, G b = none) ∧ W i n G) ?_ m0 ⟨0, Hb, I2, st2, nofp, w0⟩
    rintro n s3 ⟨i, G, I3, st3, n3, w3⟩
    rcases turn i n G w3 with ⟨stop, qq⟩ | ⟨go, Nx, hNx, step⟩
    · refine thnF (T.done (X.blk s1 Hb scope ce fp) rfl rfl rfl calm i [] s3 _ G (fun _ _ => False) I3 (fpB I3 n3) st3 stop) fun r s4 ⟨hr, I4⟩ => ?_
      subst hr
      have I5 : L2.Inv X pins σ G s4 := I1.call' (ch := fp) I4.os I4.base I4.hok I4.bare fun b hb => ⟨(fpOk b hb).1.2.2.2.1, (fpOk b hb).1.2.1, (fpOk b hb).1.2.2.2.2.1, (fpOk b hb).1.2.2.2.2.2⟩
      have nC : G s1.heap.objs.size = none := by
        have z : G ce.locals = none := I4.free
        rw [cL] at z
        exact z
      obtain ⟨mm, hn, _⟩ := I4.loc
      have hn' : s4.heap.Ns ce.locals mm := hn
      rw [cL] at hn'
      refine ⟨mm, hn', fun h'' sbt => ?_⟩
      obtain ⟨f0, f1, f2, f3, f4, f5⟩ := I1.fpOk (Nat.le_refl _) nC
      exact ⟨.ref D, G, I5.turned (t' := s4.toks) (fun b o hb z => (sbt.2 b hb).trans z) f0 f1 f3 f4 f5, rfl, qq⟩
    · refine thnF (T.item (X.blk s1 Hb scope ce fp) rfl rfl rfl calm i [] s3 _ G (fun _ _ => False) I3 (fpB I3 n3) st3 go) fun r s4 ⟨u, hr, h4⟩ => ?_
      subst hr
      refine thnF h4 fun _ s5 ⟨x, G1, I5, r5, y5, st5, n5⟩ => ?_
      refine thnF (rg.run _ s5 _ G1 x u _ (I5.pinned (fpB I5 n5) (T.obj _ _ st5)) r5 (step x G1 y5)) fun _ s6 ⟨σ6, G2, I6, hw, q6⟩ => ?_
      refine thnF (rt.run _ s6 σ6 G2 _ I6 q6) fun b s7 ⟨G3, I7, q7⟩ => ?_
      have fin : ∀ {s' : Shared} {G' : Hp}, L2.Inv (X.blk s1 Hb scope ce fp) ([] ++ pinsAt fp s5.heap) σ6 G' s' → Nx G' → ∃ m, m < n ∧ ∃ i G, L2.Inv (X.blk s1 Hb scope ce fp) [] (wipe σ (own.map (·.2))) G s' ∧ tn i s'.heap ∧ (∀ b ∈ fp, G b = none) ∧ W i m G := fun {s' G'} I' nx => by
        obtain ⟨m', hm, w'⟩ := hNx G' nx
        have pn : ∀ b ∈ fp, ∀ o, s5.heap.get? b = some o → s'.heap.get? b = some o ∧ G' b = none := fun b hb o z =>
          let y := I'.pin (b, o) (List.mem_append_right _ (List.mem_append_right _ (mem_pinsAt hb z)))
          ⟨y.1, y.2.1⟩
        refine ⟨m', hm, i + 1, G', (I'.unpinned (pins := [])).weak (by rw [← hw, wipe_length]) (fun j v z => ?_), T.keep _ _ _ st5 fun b hb o z => (pn b hb o z).1, fun b hb => ?_, w'⟩
        · rw [← hw] at z
          exact (wipe_some z).1
        · obtain ⟨o, z, _⟩ := T.obj _ _ st5 b hb
          exact (pn b hb o z).2
      cases b with
      | false =>
        simp only [if_false, Bool.false_eq_true] at q7 ⊢
        exact fin I7 q7
      | true =>
        simp only [if_true] at q7 ⊢
        refine thnF (rk.run _ s7 σ6 G3 _ I7 q7) fun z s8 ⟨yk, G4, I8, r8, q8⟩ => ?_
        refine thnF (re.run _ s8 σ6 G4 _ I8 q8) fun z2 s9 ⟨yv, G5, I9, r9, t, k, kvs, ey, htk, hD, few, nx⟩ => ?_
        subst ey
        cases (show z = Value.ref t from r8)
        exact put_dt (X := X.blk s1 Hb scope ce fp) I9 hD htk few hu r9 fun s10 J10 => fin J10 nx
  exact codeAny_compStart_dict loop (T.self X.A 0 _ _ _ st2 loop)
end
end Pm
namespace Pm
open PySem L2 SrtO
/-! ### reading order -/
abbrev Cell := Int × Int
/-- c stands before d in reading order -/
def bef (c d : Cell) : Prop := c.2 < d.2 ∨ (c.2 = d.2 ∧ c.1 < d.1)
theorem bef_irr (c : Cell) : ¬ bef c c := fun h => by
  unfold bef at h
  omega
theorem bef_tr {a b c : Cell} (h : bef a b) (k : bef b c) : bef a c := by
  unfold bef at *
  omega
theorem bef_tot {a b : Cell} (h : a ≠ b) : bef a b ∨ bef b a := by
  unfold bef
  obtain ⟨x, y⟩ := a
  obtain ⟨u, v⟩ := b
  by_cases e : y = v
  · by_cases e2 : x = u
    · exact absurd (by rw [e, e2]) h
    · show (y < v ∨ y = v ∧ x < u) ∨ (v < y ∨ v = y ∧ u < x)
      omega
  · show (y < v ∨ y = v ∧ x < u) ∨ (v < y ∨ v = y ∧ u < x)
    omega
/-- M: the cells of cs, each once, in reading order -/
structure Reading (cs M : List Cell) : Prop where
  asc : M.Pairwise bef
  mem : ∀ c, c ∈ M ↔ c ∈ cs
theorem asc_uniq : ∀ {M N : List Cell}, M.Pairwise bef → N.Pairwise bef → (∀ c, c ∈ M ↔ c ∈ N) → M = N
  | [], [], _, _, _ => rfl
  | [], c :: N, _, _, h => absurd ((h c).mpr List.mem_cons_self) (by simp)
  | c :: M, [], _, _, h => absurd ((h c).mp List.mem_cons_self) (by simp)
  | c :: M, d :: N, hM, hN, h => by
    obtain ⟨m1, m2⟩ := List.pairwise_cons.mp hM
    obtain ⟨n1, n2⟩ := List.pairwise_cons.mp hN
    have e : c = d := by
      rcases List.mem_cons.mp ((h c).mp List.mem_cons_self) with z | z
      · exact z
      · rcases List.mem_cons.mp ((h d).mpr List.mem_cons_self) with y | y
        · exact y.symm
        · exact absurd (bef_tr (n1 c z) (m1 d y)) (bef_irr d)
    subst e
    have r : M = N := asc_uniq m2 n2 fun x => by
      constructor
      · intro hx
        rcases List.mem_cons.mp ((h x).mp (List.mem_cons_of_mem _ hx)) with z | z
        · subst z
          exact absurd (m1 x hx) (bef_irr x)
        · exact z
      · intro hx
        rcases List.mem_cons.mp ((h x).mpr (List.mem_cons_of_mem _ hx)) with z | z
        · subst z
          exact absurd (n1 x hx) (bef_irr x)
        · exact z
    rw [r]
theorem Reading.uniq {cs ds M N : List Cell} (h : Reading cs M) (k : Reading ds N) (e : ∀ c, c ∈ cs ↔ c ∈ ds) : M = N := asc_uniq h.asc k.asc fun c => (h.mem c).trans ((e c).trans (k.mem c).symm)
theorem Reading.nodup {cs M : List Cell} (h : Reading cs M) : M.Nodup := List.Pairwise.imp (fun {a b} (hb : bef a b) => show a ≠ b from fun e => bef_irr b (by rw [e] at hb; exact hb)) h.asc
/-- flipped pairs, ascending and different, are cells in reading order -/
theorem flip_asc : ∀ {l : List (Int × Int)}, l.Nodup → l.Pairwise (fun p q => lexB q p = false) → (l.map fun p => ((p.2, p.1) : Cell)).Pairwise bef
  | [], _, _ => List.Pairwise.nil
  | p :: l, hn, hp => by
    obtain ⟨n1, n2⟩ := List.nodup_cons.mp hn
    obtain ⟨p1, p2⟩ := List.pairwise_cons.mp hp
    rw [List.map_cons]
    refine List.pairwise_cons.mpr ⟨fun c hc => ?_, flip_asc n2 p2⟩
    obtain ⟨q, hq, rfl⟩ := List.mem_map.mp hc
    have h1 := lexB_no.mp (p1 q hq)
    have ne : p ≠ q := fun e => n1 (by rw [e]; exact hq)
    obtain ⟨a, b⟩ := p
    obtain ⟨u, v⟩ := q
    show a < u ∨ (a = u ∧ b < v)
    simp only at h1
    by_cases e : a = u
    · by_cases e2 : b = v
      · exact absurd (by rw [e, e2]) ne
      · omega
    · omega
/-! ### dicts of cells -/
def keyC (c : Cell) : List L2.Key := [.inl c.1, .inl c.2]
def memO (M : List Cell) : HO := .dT (M.map fun c => (keyC c, V.bl true))
theorem keyC_inj {c d : Cell} (h : keyC c = keyC d) : c = d := by
  obtain ⟨x, y⟩ := c
  obtain ⟨u, v⟩ := d
  injection h with h1 h2
  injection h2 with h2 _
  injection h1 with h1
  injection h2 with h2
  exact Prod.ext h1 h2
theorem keyC_kV (c : Cell) : (keyC c).map kV = [.int c.1, .int c.2] := rfl
theorem put_new {M : List Cell} {c : Cell} (h : c ∉ M) : putK (M.map fun c => (keyC c, V.bl true)) (keyC c) (V.bl true) = (M ++ [c]).map fun c => (keyC c, V.bl true) := by
  unfold putK
  have e : ((M.map fun c => (keyC c, V.bl true)).any fun kv => decide (kv.1 = keyC c)) = false := by
    rw [List.any_eq_false]
    intro p hp
    obtain ⟨d, hd, rfl⟩ := List.mem_map.mp hp
    intro z
    exact h (by rw [← keyC_inj (of_decide_eq_true z)]; exact hd)
  rw [e]
  simp
theorem val_mem (M : List Cell) (c : Cell) : (valV (M.map fun c => (keyC c, V.bl true)) (keyC c)).isSome = decide (c ∈ M) := by
  unfold valV
  rw [Option.isSome_map]
  by_cases h : c ∈ M
  · rw [decide_eq_true h, List.find?_isSome]
    exact ⟨(keyC c, V.bl true), List.mem_map.mpr ⟨c, h, rfl⟩, decide_eq_true rfl⟩
  · rw [decide_eq_false h]
    have z : ((M.map fun c => (keyC c, V.bl true)).find? fun kv => decide (kv.1 = keyC c)) = none := by
      rw [List.find?_eq_none]
      intro p hp
      obtain ⟨d, hd, rfl⟩ := List.mem_map.mp hp
      intro y
      exact h (by rw [← keyC_inj (of_decide_eq_true y)]; exact hd)
    rw [z]
    rfl
end Pm
namespace Pm
open PySem PySem.Spec PyProof.Rows L2 PpSet
/-! ### comprehensions over a list -/
theorem sct_list {P : Program} {w : World} {K : PySem.W.Frag} {a : Addr} {xs : List V} {g : TG} {tt : TT} {te : TE} {vs : List Nat} {σ : L2.St} {H1 : Hp} {D : Addr} {Qd : Hp → Prop} (Pv : Nat → Hp → Prop)
    (h0 : Pv 0 (upd H1 D (SetTO P w D []))) (hl : ∀ i H, i ≤ xs.length → Pv i H → SqL K H a xs)
    (hs : ∀ i x H, xs[i]? = some x → Pv i H → g x (wipe σ vs) H fun σ2 G2 => wipe σ2 vs = wipe σ vs ∧ tt σ2 G2 fun b G3 => if b = true then te σ2 G3 fun y G4 =>
        ∃ (t : Addr) (k : List Int) (L : List (Addr × List Int)), y = .ref t ∧ SqT K G4 t (k.map V.int) ∧ G4 D = some (SetTO P w D L) ∧ (∀ p ∈ L, SqT K G4 p.1 (p.2.map V.int)) ∧ L.length < 64 ∧
          ∀ L', (k ∈ L.map (·.2) → L' = L) → (k ∉ L.map (·.2) → L'.Perm ((t, k) :: L)) → Pv (i + 1) (upd G4 D (SetQ P w D L')) else Pv (i + 1) G3)
    (hd : ∀ H, Pv xs.length H → Qd H) :
    ∃ W : Nat → Nat → Hp → Prop, (∃ m, W 0 m (upd H1 D (SetTO P w D []))) ∧ ∀ i m G, W i m G →
      ((Itl K a).stop i G ∧ Qd G) ∨ ((Itl K a).go i G ∧ ∃ Nx : Hp → Prop, (∀ G', Nx G' → ∃ m', m' < m ∧ W (i + 1) m' G') ∧
        ∀ x G1, (Itl K a).yld i G x G1 → g x (wipe σ vs) G1 fun σ2 G2 => wipe σ2 vs = wipe σ vs ∧ tt σ2 G2 fun b G3 => if b = true then te σ2 G3 fun y G4 =>
          ∃ (t : Addr) (k : List Int) (L : List (Addr × List Int)), y = .ref t ∧ SqT K G4 t (k.map V.int) ∧ G4 D = some (SetTO P w D L) ∧ (∀ p ∈ L, SqT K G4 p.1 (p.2.map V.int)) ∧ L.length < 64 ∧
            ∀ L', (k ∈ L.map (·.2) → L' = L) → (k ∉ L.map (·.2) → L'.Perm ((t, k) :: L)) → Nx (upd G4 D (SetQ P w D L')) else Nx G3) := by
  refine ⟨fun i m G => m = xs.length - i ∧ i ≤ xs.length ∧ Pv i G, ⟨xs.length, Nat.sub_zero _ |>.symm, Nat.zero_le _, h0⟩, ?_⟩
  rintro i m G ⟨rfl, hi, p⟩
  have q := hl i G hi p
  rcases Nat.lt_or_ge i xs.length with lt | ge
  · refine .inr ⟨⟨xs, xs[i], q, List.getElem?_eq_getElem lt⟩, Pv (i + 1), fun G' p' => ⟨xs.length - (i + 1), by omega, rfl, lt, p'⟩, fun x G1 y => ?_⟩
    obtain ⟨rfl, y⟩ := y
    exact hs i x _ (y xs q) p
  · obtain rfl : i = xs.length := by omega
    exact .inl ⟨⟨xs, q, Nat.le_refl _⟩, hd G p⟩
theorem dct_list {K : PySem.W.Frag} {a : Addr} {xs : List V} {g : TG} {tt : TT} {tk te : TE} {vs : List Nat} {σ : L2.St} {H1 : Hp} {D : Addr} {Qd : Hp → Prop} (Pv : Nat → Hp → Prop)
    (h0 : Pv 0 (upd H1 D (.dT []))) (hl : ∀ i H, i ≤ xs.length → Pv i H → SqL K H a xs)
    (hs : ∀ i x H, xs[i]? = some x → Pv i H → g x (wipe σ vs) H fun σ2 G2 => wipe σ2 vs = wipe σ vs ∧ tt σ2 G2 fun b G3 => if b = true then tk σ2 G3 fun y G4 => te σ2 G4 fun v G5 =>
        ∃ (t : Addr) (k : List L2.Key) (kvs : List (List L2.Key × V)), y = .ref t ∧ G5 t = some (.tup (k.map kV)) ∧ G5 D = some (.dT kvs) ∧ kvs.length < sizeLine ∧ Pv (i + 1) (upd G5 D (.dT (putK kvs k v))) else Pv (i + 1) G3)
    (hd : ∀ H, Pv xs.length H → Qd H) :
    ∃ W : Nat → Nat → Hp → Prop, (∃ m, W 0 m (upd H1 D (.dT []))) ∧ ∀ i m G, W i m G →
      ((Itl K a).stop i G ∧ Qd G) ∨ ((Itl K a).go i G ∧ ∃ Nx : Hp → Prop, (∀ G', Nx G' → ∃ m', m' < m ∧ W (i + 1) m' G') ∧
        ∀ x G1, (Itl K a).yld i G x G1 → g x (wipe σ vs) G1 fun σ2 G2 => wipe σ2 vs = wipe σ vs ∧ tt σ2 G2 fun b G3 => if b = true then tk σ2 G3 fun y G4 => te σ2 G4 fun v G5 =>
          ∃ (t : Addr) (k : List L2.Key) (kvs : List (List L2.Key × V)), y = .ref t ∧ G5 t = some (.tup (k.map kV)) ∧ G5 D = some (.dT kvs) ∧ kvs.length < sizeLine ∧ Nx (upd G5 D (.dT (putK kvs k v))) else Nx G3) := by
  refine ⟨fun i m G => m = xs.length - i ∧ i ≤ xs.length ∧ Pv i G, ⟨xs.length, Nat.sub_zero _ |>.symm, Nat.zero_le _, h0⟩, ?_⟩
  rintro i m G ⟨rfl, hi, p⟩
  have q := hl i G hi p
  rcases Nat.lt_or_ge i xs.length with lt | ge
  · refine .inr ⟨⟨xs, xs[i], q, List.getElem?_eq_getElem lt⟩, Pv (i + 1), fun G' p' => ⟨xs.length - (i + 1), by omega, rfl, lt, p'⟩, fun x G1 y => ?_⟩
    obtain ⟨rfl, y⟩ := y
    exact hs i x _ (y xs q) p
  · obtain rfl : i = xs.length := by omega
    exact .inl ⟨⟨xs, q, Nat.le_refl _⟩, hd G p⟩
/-! ### cells in a list, a region -/
/-- a list of cells at a: each with its address -/
abbrev CL := List (Addr × Cell)
def refs (ks : CL) : List V := ks.map fun p => V.ref p.1
def cellsOf (ks : CL) : List Cell := ks.map (·.2)
def CellO (c : Cell) : HO := .tup [.int c.1, .int c.2]
def Tups (H : Hp) (ks : CL) : Prop := ∀ p ∈ ks, H p.1 = some (CellO p.2)
theorem Tups.same {H H' : Hp} {ks : CL} (t : Tups H ks) (s : Same H H') : Tups H' ks := fun p hp => s _ _ (t p hp)
/-- the region at r has the cells M -/
def RegAt (C : Addr) (H : Hp) (r : Addr) (M : List Cell) : Prop := ∃ dx d, H r = some (.ins C dx [("_members", .ref d)]) ∧ H d = some (memO M) ∧ M.Pairwise bef ∧ M.length ≤ 64
def spRInit (K : PySem.W.Frag) (C : Addr) : Sp := fun vs H Q _ => ∃ (r dx a : Addr) (ks : CL), vs = [.ref r, .ref a] ∧ H r = some (.ins C dx []) ∧ SqL K H a (refs ks) ∧ Tups H ks ∧ ks.length ≤ 64 ∧
  ∀ H' M, Reading (cellsOf ks) M → RegAt C H' r M → SameBut r H H' → Q .non H'
abbrev nRInit : List Str := ["self", "cells", "flipped", "y", "x"]
theorem scRInit : FnScope nRInit ["self", "cells"] (defScope cRegionInit) := ⟨rfl, rfl, rfl, by decide +kernel, rfl, by decide +kernel, by decide +kernel⟩
theorem setQ_or {P : Program} {w : World} {H : Hp} {a : Addr} {L : List (Addr × List Int)} (h : H a = some (SetQ P w a L)) : H a = some (SetTO P w a L) ∨ H a = some (FullO P w a L) := by
  unfold SetQ at h
  split at h
  · exact .inl h
  · exact .inr h
theorem refs_at {ks : CL} {i : Nat} {x : V} (h : (refs ks)[i]? = some x) : ∃ t c, ks[i]? = some (t, c) ∧ x = .ref t := by
  unfold refs at h
  rw [List.getElem?_map] at h
  cases e : ks[i]? with
  | none =>
    rw [e] at h
    cases h
  | some p =>
    rw [e] at h
    cases h
    exact ⟨p.1, p.2, rfl, rfl⟩
theorem pr_two {l : List Int} (h : l.length = 2) : l = [(pr l).1, (pr l).2] := match l, h with | [_, _], _ => rfl
theorem pr_inj {l m : List Int} (hl : l.length = 2) (hm : m.length = 2) (e : pr l = pr m) : l = m := by
  rw [pr_two hl, pr_two hm, e]
structure RTxt (K : PySem.W.Frag) (mg : Str → Option Value) (C : Addr) : Prop where
  cl : Cls K C
  nM : NoAttr K C "_members"
  mgC : mg "Region" = some (.ref C)
  srt : mg "sorted" = none
  lst : mg "list" = none
section
variable {P : Program} {w : World} {K : PySem.W.Frag} {mg : Str → Option Value} {base : Heap}
theorem ok_rinit {f C : Addr} {fd : FuncData} (F : Fun K "__init__" "Region.__init__" cRegionInit f fd) (T : RTxt K mg C) : FnOk P w K mg base CX0 1 f fd ["self", "cells"] (spRInit K C) := by
  refine F.ok scRInit (fun vs H Q E h => ?_) (fun cdv A outer s H vs Q E hr h => ?_)
  · obtain ⟨r, dx, a, ks, rfl, _⟩ := h
    rfl
  · obtain ⟨r, dx, a, ks, rfl, hr0, ha, ht, few, k⟩ := h
    have hu : A.units + 1 + 3 < cLine := by
      have := hr.un
      have : A.units + 3 + 16 * 0 + 200 < cLine := this
      omega
    refine ⟨_, pss_cons (ps_set (i := 2) scRInit.nd rfl (.inl rfl) (pe_callB (cr_sortedSP rfl) (by rfl) T.srt (by decide +kernel) (pa_cons
        (pe_sct (own := [("x", 4), ("y", 3)]) (g := gTup K 2 (gCons (gName 4) (gCons (gName 3) gNil))) (tt := tYes) rfl (hu_of hr) scRInit.nd (pi_list (pv 1)) (blkOk_by (own := [("x", 4), ("y", 3)]) (N := nRInit) (sc := defScope cRegionInit) (by decide +kernel)) (fun _ _ _ _ _ => pg_tup rfl (pgs_cons (pg_name (i := 4) scRInit.nd rfl (.inl rfl)) (pgs_cons (pg_name (i := 3) scRInit.nd rfl (.inl rfl)) pgs_nil)))
          (fun _ _ _ _ _ => pts_nil) (fun _ _ _ _ _ => pe_tup (pa_cons (pv 3) (pa_cons (pv 4) pa_nil)))) pa_nil)))
      (pss_one (ps_fld (pv 0) (pe_dct (own := [("y", 3), ("x", 4)]) (g := gTup K 2 (gCons (gName 3) (gCons (gName 4) gNil))) (tt := tYes) rfl (hu_of hr) scRInit.nd (pi_list (pv 2)) (blkOk_by (own := [("y", 3), ("x", 4)]) (N := nRInit) (sc := defScope cRegionInit) (by decide +kernel)) (fun _ _ _ _ _ => pg_tup rfl (pgs_cons (pg_name (i := 3) scRInit.nd rfl (.inl rfl)) (pgs_cons (pg_name (i := 4) scRInit.nd rfl (.inl rfl)) pgs_nil)))
          (fun _ _ _ _ _ => pts_nil) (fun _ _ _ _ _ => pe_tup (pa_cons (pv 4) (pa_cons (pv 3) pa_nil))) (fun _ _ _ _ _ => pe_bl)) rfl)), ?_⟩
    -- the set
    refine ⟨.ref a, rfl, a, rfl, ⟨_, ha⟩, fun D nD => sct_list (K := K) (a := a) (xs := refs ks) (fun i G => ∃ L : List (Addr × List Int), Same H G ∧ G D = some (SetQ P w D L) ∧ (∀ p ∈ L, G p.1 = some (.tup (p.2.map V.int)) ∧ p.2.length = 2) ∧
      (∀ k : List Int, k ∈ L.map (fun p => p.2) ↔ ∃ c ∈ (cellsOf ks).take i, k = [c.2, c.1]) ∧ L.length ≤ i) ⟨[], same_upd nD, upd_same, (fun p hp => nomatch hp), (fun k => ⟨fun z => (nomatch z), fun ⟨c, hc, _⟩ => (nomatch hc)⟩), Nat.zero_le _⟩ (fun i G _ ⟨L, sm, _⟩ => sm.seq ha) ?_ ?_⟩
    · rintro i x G hx ⟨L, sm, hD, hL, hk, hl⟩
      obtain ⟨t, c, hi, rfl⟩ := refs_at hx
      have htc : G t = some (CellO c) := sm _ _ (ht _ (List.mem_of_getElem? hi))
      have hi2 : i < ks.length := (List.getElem?_eq_some_iff.mp hi).1
      have few' : L.length < 64 := by omega
      refine ⟨t, [.int c.1, .int c.2], rfl, SqT.of htc, rfl, _, _, rfl, _, _, rfl, rfl, rfl, ?_⟩
      refine tyes (iteT ⟨_, rfl, _, rfl, (by show 2 ≤ sizeLine; decide), fun T' nT => ?_⟩)
      have sT : Same G (upd G T' (.tup [.int c.2, .int c.1])) := same_upd nT
      refine ⟨T', [c.2, c.1], L, rfl, SqT.of upd_same, by rw [← setQ_few few']; exact sT _ _ hD, fun p hp => SqT.of (sT _ _ (hL p hp).1), by omega, fun L' c1 c2 => ?_⟩
      have nDT : D ≠ T' := ne_of_none hD nT
      have sD : ∀ b o, b ≠ D → G b = some o → (upd (upd G T' (.tup [.int c.2, .int c.1])) D (SetQ P w D L')) b = some o := fun b o hb e => by
        rw [upd_ne hb]
        exact sT _ _ e
      have nd : ∀ p ∈ L, p.1 ≠ D := fun p hp e => by
        have z := (hL p hp).1
        rw [e, hD, setQ_few few'] at z
        cases z
      have takes : ∀ k : List Int, (∃ d ∈ (cellsOf ks).take (i + 1), k = [d.2, d.1]) ↔ (k = [c.2, c.1] ∨ ∃ d ∈ (cellsOf ks).take i, k = [d.2, d.1]) := fun k => by
        have e : (cellsOf ks)[i]? = some c := by
          unfold cellsOf
          rw [List.getElem?_map, hi]
          rfl
        rw [List.take_add_one, e]
        constructor
        · rintro ⟨d, hd, ek⟩
          rcases List.mem_append.mp hd with z | z
          · exact .inr ⟨d, z, ek⟩
          · have : d = c := by simpa using z
            rw [this] at ek
            exact .inl ek
        · rintro (ek | ⟨d, hd, ek⟩)
          · exact ⟨c, List.mem_append_right _ (by simp), ek⟩
          · exact ⟨d, List.mem_append_left _ hd, ek⟩
      by_cases hm : [c.2, c.1] ∈ L.map (·.2)
      · have eL := c1 hm
        subst eL
        refine ⟨L', fun b o e => ?_, upd_same, fun p hp => ⟨?_, (hL p hp).2⟩, fun k => ?_, by omega⟩
        · exact sD b o (fun z => by rw [z, nD] at e; cases e) (sm _ _ e)
        · rw [upd_ne (nd p hp)]
          exact sT _ _ (hL p hp).1
        · rw [takes, hk k]
          exact ⟨.inr, fun z => z.elim (fun z => by rw [z]; exact (hk _).mp hm) id⟩
      · have pm := c2 hm
        refine ⟨L', fun b o e => ?_, upd_same, fun p hp => ?_, fun k => ?_, by rw [pm.length_eq, List.length_cons]; omega⟩
        · exact sD b o (fun z => by rw [z, nD] at e; cases e) (sm _ _ e)
        · rcases List.mem_cons.mp (pm.mem_iff.mp hp) with z | z
          · subst z
            refine ⟨?_, rfl⟩
            rw [upd_ne nDT.symm]
            exact upd_same
          · refine ⟨?_, (hL p z).2⟩
            rw [upd_ne (nd p z)]
            exact sT _ _ (hL p z).1
        · rw [takes, ← hk k, (pm.map (·.2)).mem_iff, List.map_cons, List.mem_cons]
    · -- sorted
      rintro G ⟨L, sm, hD, hL, hk, hl⟩
      refine ⟨D, L, rfl, setQ_or hD, fun p hp => ⟨SqT.of (hL p hp).1, (hL p hp).2⟩, fun M0 q pm nd asc nq => ?_⟩
      have sq : Same G (upd G q (.lst (M0.map fun p => V.ref p.1))) := same_upd nq
      have hM0 : ∀ p ∈ M0, G p.1 = some (.tup (p.2.map V.int)) ∧ p.2.length = 2 := fun p hp => hL p (pm.mem_iff.mp hp)
      have ndP : (M0.map fun p => pr p.2).Nodup := by
        refine List.pairwise_map.mpr (List.Pairwise.imp_of_mem (fun {p r} hp hr hne => ?_) (List.pairwise_map.mp nd))
        obtain ⟨_, l1⟩ := hM0 p hp
        obtain ⟨_, l2⟩ := hM0 r hr
        exact fun e => hne (pr_inj l1 l2 e)
      generalize eM : (M0.map fun p => pr p.2).map (fun z => ((z.2, z.1) : Cell)) = M
      have ascM : M.Pairwise bef := by
        rw [← eM]
        exact flip_asc ndP (List.pairwise_map.mpr asc)
      have lenM : M.length = M0.length := by rw [← eM, List.length_map, List.length_map]
      have lenL : M0.length ≤ 64 := by
        have l2 : (refs ks).length = ks.length := List.length_map _
        rw [pm.length_eq]
        omega
      have ndM : M.Nodup := List.Pairwise.imp (fun {x y} (hb : bef x y) => show x ≠ y from fun e => bef_irr y (by rw [e] at hb; exact hb)) ascM
      have memM : ∀ c, c ∈ M ↔ c ∈ cellsOf ks := fun c => by
        have lks : (cellsOf ks).take (refs ks).length = cellsOf ks := List.take_of_length_le (by
          unfold cellsOf refs
          rw [List.length_map, List.length_map]
          exact Nat.le_refl _)
        have h1 := hk [c.2, c.1]
        rw [lks] at h1
        rw [← eM]
        constructor
        · intro hc
          obtain ⟨z, hz, rfl⟩ := List.mem_map.mp hc
          obtain ⟨p, hp, rfl⟩ := List.mem_map.mp hz
          obtain ⟨_, l1⟩ := hM0 p hp
          have e1 : p.2 = [(pr p.2).1, (pr p.2).2] := pr_two l1
          obtain ⟨d, hd, e2⟩ := h1.mp (List.mem_map.mpr ⟨p, pm.mem_iff.mp hp, e1⟩)
          injection e2 with e3 e4
          injection e4 with e4 _
          have : ((pr p.2).2, (pr p.2).1) = d := Prod.ext e4 e3
          rw [this]
          exact hd
        · intro hc
          obtain ⟨p, hp, e1⟩ := List.mem_map.mp (h1.mpr ⟨c, hc, rfl⟩)
          refine List.mem_map.mpr ⟨(c.2, c.1), List.mem_map.mpr ⟨p, pm.mem_iff.mpr hp, ?_⟩, rfl⟩
          rw [e1]
          rfl
      -- the dict
      refine ⟨.ref q, rfl, q, rfl, ⟨_, SqL.of upd_same⟩, fun d nd2 => dct_list (K := K) (a := q) (xs := M0.map fun p => V.ref p.1) (fun i G2 => Same (upd G q (.lst (M0.map fun p => V.ref p.1))) G2 ∧ G2 d = some (memO (M.take i)))
        ⟨same_upd nd2, upd_same⟩ (fun i G2 _ ⟨s2, _⟩ => SqL.of (s2 _ _ upd_same)) ?_ ?_⟩
      · rintro i x G2 hx ⟨s2, hd⟩
        have hp := hx
        rw [List.getElem?_map] at hp
        cases ep : M0[i]? with
        | none =>
          rw [ep] at hp
          cases hp
        | some p =>
          rw [ep] at hp
          cases hp
          obtain ⟨h1, l1⟩ := hM0 p (List.mem_of_getElem? ep)
          have e1 : p.2 = [(pr p.2).1, (pr p.2).2] := pr_two l1
          have g1 : G2 p.1 = some (.tup [.int (pr p.2).1, .int (pr p.2).2]) := by
            have z := s2 _ _ (sq _ _ h1)
            rw [e1] at z
            exact z
          have eMi : M[i]? = some ((pr p.2).2, (pr p.2).1) := by
            rw [← eM, List.getElem?_map, List.getElem?_map, ep]
            rfl
          refine ⟨p.1, [.int (pr p.2).1, .int (pr p.2).2], rfl, SqT.of g1, rfl, _, _, rfl, _, _, rfl, rfl, rfl, ?_⟩
          refine tyes (iteT ⟨_, rfl, _, rfl, (by show 2 ≤ sizeLine; decide), fun T' nT => ?_⟩)
          have nin : ((pr p.2).2, (pr p.2).1) ∉ M.take i := fun z => by
            have e2 : M = M.take i ++ M.drop i := (List.take_append_drop i M).symm
            have e3 : M.drop i = ((pr p.2).2, (pr p.2).1) :: M.drop (i + 1) := by
              have lt : i < M.length := (List.getElem?_eq_some_iff.mp eMi).1
              rw [List.drop_eq_getElem_cons lt]
              rw [List.getElem?_eq_getElem lt] at eMi
              rw [Option.some.inj eMi]
            rw [e2, e3] at ndM
            exact (List.nodup_append.mp ndM).2.2 _ z _ List.mem_cons_self rfl
          refine ⟨T', keyC ((pr p.2).2, (pr p.2).1), _, rfl, upd_same, (same_upd nT) _ _ hd, ?_, fun b o e => ?_, ?_⟩
          · rw [List.length_map, sizeLine_eq, List.length_take]
            omega
          · have nbd : b ≠ d := ne_of_none e nd2
            rw [upd_ne nbd]
            exact (same_upd nT) _ _ (s2 _ _ e)
          · rw [put_new nin, List.take_add_one, eMi, upd_same]
            rfl
      · rintro G2 ⟨s2, hd⟩
        have hdM : G2 d = some (memO M) := by
          rw [hd, List.take_of_length_le]
          rw [List.length_map, lenM]
          exact Nat.le_refl _
        have hr2 : G2 r = some (.ins C dx []) := s2 _ _ (sq _ _ (sm _ _ hr0))
        have ndr : d ≠ r := ne_of hdM hr2 (by intro z; cases z)
        refine ⟨_, rfl, r, C, dx, [], rfl, hr2, T.cl, T.nM, (by show 0 < 1000; decide), ?_⟩
        refine k _ M ⟨ascM, memM⟩ ⟨dx, d, upd_same, ?_, ascM, by omega⟩ fun b o hb e => ?_
        · rw [upd_ne ndr]
          exact hdM
        · rw [upd_ne hb]
          exact s2 _ _ (sq _ _ (sm _ _ e))
end
end Pm
namespace Pm
open PySem PySem.Spec PyProof.Rows L2 ClX
/-- what the text says further of the class -/
structure RCTxt (K : PySem.W.Frag) (mg : Str → Option Value) (C : Addr) : Prop where
  t : RTxt K mg C
  isi : mg "isinstance" = none
  ca : PySem.W.findIn K (.ref C) "__class__" = some (some (.builtin "object.__class__"))
  cn : PySem.W.specialIn K (.builtin "object.__class__") "__get__" = some (some (.builtin "getset_descriptor.__get__"))
  ct : PySem.W.takesIn K (.builtin "object.__class__") = some true
  cm : PySem.W.mroIn K C (.type "object") = some true
  kk : PySem.W.kitOne K (.ref C) (.ref C) = some true
theorem RCTxt.ty {K : PySem.W.Frag} {mg : Str → Option Value} {C : Addr} (T : RCTxt K mg C) {H : Hp} {r : Addr} {M : List Cell} (h : RegAt C H r M) : TyX K H (.ref r) (.ref C) := by
  obtain ⟨dx, d, hr, _⟩ := h
  exact .base (.ins hr T.t.cl T.ca T.cn T.ct T.cm)
theorem RegAt.same {C : Addr} {H H' : Hp} {r : Addr} {M : List Cell} (h : RegAt C H r M) (s : Same H H') : RegAt C H' r M := by
  obtain ⟨dx, d, hr, hd, x⟩ := h
  exact ⟨dx, d, s _ _ hr, s _ _ hd, x⟩
theorem keys_cl {H : Hp} : ∀ {M : List Cell} {bs : List Addr}, IsKeys H (M.map fun c => (keyC c, V.bl true)) bs → ∃ ks : CL, refs ks = bs.map V.ref ∧ cellsOf ks = M ∧ Tups H ks
  | [], [], _ => ⟨[], rfl, rfl, fun p hp => nomatch hp⟩
  | c :: M, b :: bs, h => by
    cases h with
    | cons h1 h2 =>
      obtain ⟨ks, e1, e2, t⟩ := keys_cl (M := M) (bs := bs) h2
      refine ⟨(b, c) :: ks, ?_, ?_, fun p hp => ?_⟩
      · show V.ref b :: refs ks = V.ref b :: bs.map V.ref
        rw [e1]
      · show c :: cellsOf ks = c :: M
        rw [e2]
      · rcases List.mem_cons.mp hp with z | z
        · rw [z]
          exact h1
        · exact t p z
section
variable {P : Program} {w : World} {K : PySem.W.Frag} {mg : Str → Option Value} {base : Heap}
/-! ### cells() -/
def spRCs (C : Addr) : Sp := fun vs H Q _ => ∃ r M, vs = [.ref r] ∧ RegAt C H r M ∧ ∀ p ks H', Same H H' → H p = none → H' p = some (.lst (refs ks)) → Tups H' ks → cellsOf ks = M → Q (.ref p) H'
theorem scRCs : FnScope ["self"] ["self"] (defScope cRegionCells) := ⟨rfl, rfl, rfl, by decide +kernel, rfl, by decide +kernel, by decide +kernel⟩
theorem ok_rcells {f C : Addr} {fd : FuncData} (F : Fun K "cells" "Region.cells" cRegionCells f fd) (T : RCTxt K mg C) : FnOk P w K mg base CX0 1 f fd ["self"] (spRCs C) := by
  refine F.ok scRCs (fun vs H Q E h => ?_) (fun cdv A outer s H vs Q E hr h => ?_)
  · obtain ⟨r, M, rfl, _⟩ := h
    rfl
  · obtain ⟨r, M, rfl, ⟨dx, d, hr0, hd, asc, few⟩, k⟩ := h
    refine ⟨_, pss_one (ps_ret (pe_callTy (call_list_dT rfl) (by rfl) T.t.lst (by decide +kernel) (pa_cons (pe_fld (pv 0) rfl) pa_nil))), ?_⟩
    refine ⟨_, rfl, r, C, dx, _, _, rfl, hr0, T.t.cl, T.t.nM, rfl, d, _, rfl, .inl hd, fun p bs np hk => ?_⟩
    obtain ⟨ks, e1, e2, t⟩ := keys_cl hk
    have sp := same_upd (o := .lst (bs.map V.ref)) np
    exact k p ks _ sp np (by rw [upd_same, e1]) (t.same sp) e2
end
def dC (c : Cell) : PyData := .tuple [.int c.1, .int c.2]
theorem dC_eqv (c d : Cell) : PyData.eqv (dC c) (dC d) = decide (c = d) := by
  obtain ⟨x, y⟩ := c
  obtain ⟨u, v⟩ := d
  simp [dC, PyData.eqv, PyData.eqvAll]
  rfl
theorem dC_shaped (c : Cell) : SeqAt.shaped (dC c) = true := by
  simp [dC, SeqAt.shaped, PyData.canLay0, PyData.canLayAll0, PyData.depth, PyData.depthAll]
theorem dCs_lay : ∀ M : List Cell, PyData.canLayAll0 (M.map dC) = true
  | [] => rfl
  | c :: M => by simp [PyData.canLayAll0, dC, PyData.canLay0, dCs_lay M]
theorem dCs_depth : ∀ M : List Cell, PyData.depthAll (M.map dC) ≤ 1
  | [] => by simp [PyData.depthAll]
  | c :: M => by
    have := dCs_depth M
    simp [PyData.depthAll, dC, PyData.depth]
    omega
theorem dCs_shaped (M : List Cell) : SeqAt.shaped (.list (M.map dC)) = true := by
  have := dCs_depth M
  simp [SeqAt.shaped, PyData.canLay0, dCs_lay M, PyData.depth]
  omega
theorem dCs_eqv : ∀ M N : List Cell, PyData.eqv (.list (M.map dC)) (.list (N.map dC)) = decide (M = N) := by
  have all : ∀ M N : List Cell, PyData.eqvAll (M.map dC) (N.map dC) = decide (M = N) := by
    intro M
    induction M with
    | nil =>
      intro N
      cases N <;> simp [PyData.eqvAll]
    | cons c M ih =>
      intro N
      cases N with
      | nil => simp [PyData.eqvAll]
      | cons d N =>
        rw [List.map_cons, List.map_cons]
        show (PyData.eqv (dC c) (dC d) && PyData.eqvAll (M.map dC) (N.map dC)) = _
        rw [dC_eqv, ih]
        simp
  intro M N
  simp [PyData.eqv, all]
theorem dp_cell {K : PySem.W.Frag} {H : Hp} {t : Addr} {c : Cell} (h : H t = some (CellO c)) : Dp K H (.ref t) (dC c) := .tup (SqT.of h) (.cons (.int _) (.cons (.int _) .nil))
theorem dp_cells {K : PySem.W.Frag} {H : Hp} : ∀ {ks : CL}, Tups H ks → DpAll K H (refs ks) ((cellsOf ks).map dC)
  | [], _ => .nil
  | p :: ks, t => .cons (dp_cell (t p List.mem_cons_self)) (dp_cells fun q hq => t q (List.mem_cons_of_mem _ hq))
theorem dp_cl {K : PySem.W.Frag} {H : Hp} {a : Addr} {ks : CL} (h : SqL K H a (refs ks)) (t : Tups H ks) : Dp K H (.ref a) (.list ((cellsOf ks).map dC)) := .lst h (dp_cells t)
structure BTxt (K : PySem.W.Frag) (mg : Str → Option Value) : Prop where
  isi : mg "isinstance" = none
  bool : mg "bool" = none
  tup : mg "tuple" = none
  int : mg "int" = none
  lst : mg "list" = none
  len : mg "len" = none
section
variable {P : Program} {w : World} {K : PySem.W.Frag} {mg : Str → Option Value} {base : Heap}
def spIsInt : Sp := fun vs H Q _ => ∃ n, vs = [.int n] ∧ Q (.bl true) H
theorem scIsInt : FnScope ["_law_value"] ["_law_value"] (defScope lIsInt) := ⟨rfl, rfl, rfl, by decide +kernel, rfl, by decide +kernel, by decide +kernel⟩
theorem ok_isint {f : Addr} {fd : FuncData} (F : Fun K "_law_is_int" "_law_is_int" lIsInt f fd) (T : BTxt K mg) : FnOk P w K mg base CX0 1 f fd ["_law_value"] spIsInt := by
  refine F.ok scIsInt (fun vs H Q E h => ?_) (fun cdv A outer s H vs Q E hr h => ?_)
  · obtain ⟨n, rfl, _⟩ := h
    rfl
  · obtain ⟨n, rfl, q⟩ := h
    refine ⟨_, pss_one (ps_ret (pe_and (pe_callB call_isi (by rfl) T.isi (by decide +kernel) (pa_cons (pv 0) (pa_cons (pe_bltn (v := .ty "int") (by rfl) T.int (by decide +kernel) rfl) pa_nil)))
      (pe_one (pe_not (pe_callB call_isi (by rfl) T.isi (by decide +kernel) (pa_cons (pv 0) (pa_cons (pe_bltn (v := .ty "bool") (by rfl) T.bool (by decide +kernel) rfl) pa_nil))))))), ?_⟩
    refine ⟨_, rfl, .int n, .ty "int", .type "int", .type "int", true, rfl, .ty _, .base (.int n), kit_ty (by decide +kernel), true, rfl, ?_⟩
    exact ⟨_, rfl, .int n, .ty "bool", .type "int", .type "bool", false, rfl, .ty _, .base (.int n), kit_ty (by decide +kernel), false, rfl, q⟩
def spIsCell : Sp := fun vs H Q _ => ∃ t c, vs = [.ref t] ∧ H t = some (CellO c) ∧ Q (.bl true) H
theorem scIsCell : FnScope ["_law_value"] ["_law_value"] (defScope lIsCell) := ⟨rfl, rfl, rfl, by decide +kernel, rfl, by decide +kernel, by decide +kernel⟩
theorem ok_iscell {f g : Addr} {fd gd : FuncData} (F : Fun K "_law_is_cell" "_law_is_cell" lIsCell f fd) (G : Fun K "_law_is_int" "_law_is_int" lIsInt g gd) (bG : Binds K gd ["_law_value"] []) (gG : mg "_law_is_int" = some (.ref g)) (T : BTxt K mg) :
    FnOk P w K mg base CX0 2 f fd ["_law_value"] spIsCell := by
  have OG : FnOk P w K mg base CX0 1 g gd ["_law_value"] spIsInt := ok_isint G T
  refine F.ok scIsCell (fun vs H Q E h => ?_) (fun cdv A outer s H vs Q E hr h => ?_)
  · obtain ⟨t, c, rfl, _⟩ := h
    rfl
  · obtain ⟨t, c, rfl, ht, q⟩ := h
    refine ⟨_, pss_one (ps_ret (pe_and (pe_callB call_isi (by rfl) T.isi (by decide +kernel) (pa_cons (pv 0) (pa_cons (pe_bltn (v := .ty "tuple") (by rfl) T.tup (by decide +kernel) rfl) pa_nil)))
      (pe_and (pe_cmpR op_eq (pe_callB call_len_seq (by rfl) T.len PySem.boot_len (pa_cons (pv 0) pa_nil)) pe_int (nomark _))
      (pe_and (pe_call OG hr (by rfl) gG G.kp bG .nil pass0 (pa_cons (pe_ix ix_tup (pv 0) pe_int (fun _ _ => rfl)) pa_nil))
      (pe_one (pe_call OG hr (by rfl) gG G.kp bG .nil pass0 (pa_cons (pe_ix ix_tup (pv 0) pe_int (fun _ _ => rfl)) pa_nil))))))), ?_⟩
    refine ⟨_, rfl, .ref t, .ty "tuple", .type "tuple", .type "tuple", true, rfl, .ty _, .base (.tup ht), kit_ty (by decide +kernel), true, rfl, ?_⟩
    refine ⟨_, rfl, t, _, rfl, .inr (SqT.of ht), rfl, true, rfl, ?_⟩
    refine ⟨_, rfl, t, _, 0, _, rfl, rfl, SqT.of ht, rfl, _, rfl, true, rfl, ?_⟩
    exact ⟨_, rfl, t, _, 1, _, rfl, rfl, SqT.of ht, rfl, _, rfl, q⟩
def spIsCells : Sp := fun vs H Q _ => ∃ a ks, vs = [.ref a] ∧ H a = some (.lst (refs ks)) ∧ Tups H ks ∧ Q (.bl true) H
theorem scIsCells : FnScope ["_law_value", "_law_cell"] ["_law_value"] (defScope lIsCells) := ⟨rfl, rfl, rfl, by decide +kernel, rfl, by decide +kernel, by decide +kernel⟩
theorem ok_iscells {f g : Addr} {fd gd : FuncData} (F : Fun K "_law_is_cells" "_law_is_cells" lIsCells f fd) (G : Fun K "_law_is_cell" "_law_is_cell" lIsCell g gd) (OG : FnOk P w K mg base CX0 2 g gd ["_law_value"] spIsCell) (bG : Binds K gd ["_law_value"] [])
    (gG : mg "_law_is_cell" = some (.ref g)) (T : BTxt K mg) : FnOk P w K mg base CX0 3 f fd ["_law_value"] spIsCells := by
  refine F.ok scIsCells (fun vs H Q E h => ?_) (fun cdv A outer s H vs Q E hr h => ?_)
  · obtain ⟨a, ks, rfl, _⟩ := h
    rfl
  · obtain ⟨a, ks, rfl, ha, ht, q⟩ := h
    refine ⟨_, pss_cons (ps_if (pt_not (pt_val (pe_callB call_isi (by rfl) T.isi (by decide +kernel) (pa_cons (pv 0) (pa_cons (pe_bltn (v := .ty "list") (by rfl) T.lst (by decide +kernel) rfl) pa_nil))))) (pss_one (ps_ret pe_bl)) pss_nil)
      (pss_cons (ps_for PassesOwn.never rfl (pi_list (pv 0)) (pg_name (i := 1) scIsCells.nd rfl (.inl rfl))
        (pss_one (ps_if (pt_not (pt_val (pe_call OG hr (by rfl) gG G.kp bG .nil pass0 (pa_cons (pv 1) pa_nil)))) (pss_one (ps_ret pe_bl)) pss_nil)))
      (pss_one (ps_ret pe_bl))), ?_⟩
    refine ⟨_, rfl, .ref a, .ty "list", .type "list", .type "list", true, rfl, .ty _, .base (.lst ha), kit_ty (by decide +kernel), true, rfl, iteF ?_⟩
    refine ⟨_, rfl, a, rfl, ⟨_, SqL.of ha⟩, for_list (K := K) (a := a) (xs := refs ks) (fun i σ G => ∃ y, σ = [some (.ref a), y] ∧ G = H) ⟨_, rfl, rfl⟩ (fun i σ G _ ⟨_, _, e⟩ => by rw [e]; exact SqL.of ha) ?_ ?_⟩
    · rintro i x σ G hx ⟨y, rfl, rfl⟩
      obtain ⟨t, c, hi, rfl⟩ := refs_at hx
      exact ⟨_, rfl, t, c, rfl, ht _ (List.mem_of_getElem? hi), true, rfl, iteF ⟨_, rfl, rfl⟩⟩
    · rintro σ G ⟨y, rfl, rfl⟩
      exact q
/-! ### a region is as due -/
def spRegIs (K : PySem.W.Frag) (C : Addr) : Sp := fun vs H Q _ => ∃ r a M ks, vs = [.ref r, .ref a] ∧ RegAt C H r M ∧ SqL K H a (refs ks) ∧ Tups H ks ∧ cellsOf ks = M ∧ ∀ H', Same H H' → Q (.bl true) H'
theorem scRegIs : FnScope ["_law_region", "_law_due", "_law_told"] ["_law_region", "_law_due"] (defScope lRegionIs) := ⟨rfl, rfl, rfl, by decide +kernel, rfl, by decide +kernel, by decide +kernel⟩
theorem ok_regis {f g c C : Addr} {fd gd cd : FuncData} (F : Fun K "_law_region_is" "_law_region_is" lRegionIs f fd) (OG : FnOk P w K mg base CX0 3 g gd ["_law_value"] spIsCells) (kG : PySem.W.keepIn K (.ref g) = true) (bG : Binds K gd ["_law_value"] [])
    (gG : mg "_law_is_cells" = some (.ref g)) (OC : FnOk P w K mg base CX0 1 c cd ["self"] (spRCs C)) (mC : Meth K C "cells" c) (bC : Binds K cd ["self"] []) (T : RCTxt K mg C) : FnOk P w K mg base CX0 4 f fd ["_law_region", "_law_due"] (spRegIs K C) := by
  refine F.ok scRegIs (fun vs H Q E h => ?_) (fun cdv A outer s H vs Q E hr h => ?_)
  · obtain ⟨r, a, M, ks, rfl, _⟩ := h
    rfl
  · obtain ⟨r, a, M, ks, rfl, hM, ha, ht, eM, k⟩ := h
    have hr1 : Room 1 _ := hr.mono (by decide)
    refine ⟨_, pss_cons (ps_if (pt_not (pt_val (pe_callB call_isi (by rfl) T.isi (by decide +kernel) (pa_cons (pv 0) (pa_cons (pe_glob (v := .ref C) (by rfl) T.t.mgC rfl) pa_nil))))) (pss_one (ps_ret pe_bl)) pss_nil)
      (pss_cons (ps_set (i := 2) scRegIs.nd rfl (.inl rfl) (pe_meth0 (pv 0) T.t.cl mC OC hr1 bC .nil pass0))
      (pss_one (ps_ret (pe_and (pe_call OG hr (by rfl) gG kG bG .nil pass0 (pa_cons (pv 2) pa_nil)) (pe_one (pe_cmpR (op_eqD hr.units) (pv 2) (pv 1) (nomark _))))))), ?_⟩
    refine ⟨_, rfl, .ref r, .ref C, .ref C, .ref C, true, rfl, .own C, T.ty hM, T.kk, true, rfl, iteF ?_⟩
    obtain ⟨dx, d, hr0, _⟩ := id hM
    refine ⟨_, rfl, r, dx, _, rfl, hr0, rfl, r, M, rfl, hM, fun p ms H1 s1 np hp hms em => ?_⟩
    refine ⟨_, rfl, p, ms, rfl, hp, hms, true, rfl, ?_⟩
    refine ⟨_, rfl, _, rfl, _, _, dp_cl (SqL.of hp) hms, dp_cl (s1.seq ha) (ht.same s1), dCs_shaped _, dCs_shaped _, ?_⟩
    rw [em, eM, dCs_eqv, decide_eq_true rfl]
    exact k H1 s1
end
end Pm
namespace Pm
open PySem PySem.Spec PyProof.Rows L2 SX
/-! ### o[i], o of a class with an own __getitem__ -/
section
variable {X : Cx} {C f : Addr} {fd : FuncData} {k : Nat} {ps : List Str} {sp : Sp} {a b : Expr} {ta tb : TE} {pos : Pos}
def rItem (C : Addr) (sp : Sp) : R2 := fun x y H Q => ∃ r dx fs, x = .ref r ∧ H r = some (.ins C dx fs) ∧ sp [x, y] H Q E0
theorem pe_item (F : FnOk X.prog X.w X.K X.mg X.base CX0 k f fd ps sp) (hr : Room (k + 1) X.A) (hb : Binds X.K fd ps []) (m : OwnM X.K C "__getitem__" f) (fi : PySem.W.fnIn X.K f = true) (pa : PE X a ta) (pb : PE X b tb)
    (hs : ∀ o i, subscripted b true o i = runValue (.builtin "lifetime.subscript" ⟨[o, i], []⟩) := by intro _ _; rfl) : PE X (.Subscript a b pos) (tOp (rItem C sp) ta tb) := by
  refine ⟨fun pins s σ H Q I h => ?_⟩
  refine Subscript_ (binT pa pb I h fun v u s2 x y H2 I2 rx ry q => ?_)
  obtain ⟨r, dx, fs, rfl, hr0, q⟩ := q
  obtain rfl : v = Value.ref r := rx
  obtain ⟨mA, J, _⟩ := ins_get I2.hok hr0
  obtain ⟨od, J, _⟩ := J.look
  obtain ⟨mm, hF⟩ := I2.fr
  exact PySem.W.sub_K hF I2.ok.mod.kin J m.at_ fi m.fn (run_at (vs := [.ref r, y]) F hr.in1 rfl hb pass0 I2 (.cons rfl (.cons ry .nil)) q) (hs _ _)
end
/-! ### all cells of a grid -/
def rowC (n j : Nat) : List Cell := (List.range n).map fun (i : Nat) => (((i : Nat) : Int), (j : Int))
def allC (n : Nat) : Nat → List Cell
  | 0 => []
  | j + 1 => allC n j ++ rowC n j
theorem rowC_succ (n j : Nat) : rowC (n + 1) j = rowC n j ++ [((n : Int), (j : Int))] := by
  unfold rowC
  rw [List.range_succ, List.map_append]
  rfl
theorem rowC_len (n j : Nat) : (rowC n j).length = n := by
  unfold rowC
  rw [List.length_map, List.length_range]
theorem allC_len (n : Nat) : ∀ m, (allC n m).length = m * n
  | 0 => by simp [allC]
  | m + 1 => by
    show (allC n m ++ rowC n m).length = _
    rw [List.length_append, allC_len n m, rowC_len, Nat.add_mul]
    omega
theorem rowC_mem {n j : Nat} {c : Cell} : c ∈ rowC n j ↔ ∃ i : Nat, i < n ∧ c = ((i : Int), (j : Int)) := by
  unfold rowC
  rw [List.mem_map]
  constructor
  · rintro ⟨i, hi, rfl⟩
    exact ⟨i, List.mem_range.mp hi, rfl⟩
  · rintro ⟨i, hi, rfl⟩
    exact ⟨i, List.mem_range.mpr hi, rfl⟩
theorem allC_mem {n : Nat} {c : Cell} : ∀ {m : Nat}, c ∈ allC n m ↔ ∃ i j : Nat, i < n ∧ j < m ∧ c = ((i : Int), (j : Int))
  | 0 => ⟨fun h => (nomatch h), fun ⟨_, _, _, h, _⟩ => absurd h (Nat.not_lt_zero _)⟩
  | m + 1 => by
    show c ∈ allC n m ++ rowC n m ↔ _
    rw [List.mem_append, allC_mem, rowC_mem]
    constructor
    · rintro (⟨i, j, a, b, e⟩ | ⟨i, a, e⟩)
      · exact ⟨i, j, a, Nat.lt_succ_of_lt b, e⟩
      · exact ⟨i, m, a, Nat.lt_succ_self _, e⟩
    · rintro ⟨i, j, a, b, e⟩
      rcases Nat.lt_or_ge j m with c | c
      · exact .inl ⟨i, j, a, c, e⟩
      · exact .inr ⟨i, a, by rw [e, show j = m by omega]⟩
theorem rowC_asc (j : Nat) : ∀ n, (rowC n j).Pairwise bef
  | 0 => (.nil : ([] : List Cell).Pairwise bef)
  | n + 1 => by
    rw [rowC_succ]
    refine List.pairwise_append.mpr ⟨rowC_asc j n, List.pairwise_singleton _ _, fun a ha b hb => ?_⟩
    obtain ⟨i, hi, rfl⟩ := rowC_mem.mp ha
    rw [List.mem_singleton.mp hb]
    exact .inr ⟨rfl, by show (i : Int) < n; omega⟩
theorem allC_asc (n : Nat) : ∀ m, (allC n m).Pairwise bef
  | 0 => (.nil : ([] : List Cell).Pairwise bef)
  | m + 1 => by
    show (allC n m ++ rowC n m).Pairwise bef
    refine List.pairwise_append.mpr ⟨allC_asc n m, rowC_asc m n, fun a ha b hb => ?_⟩
    obtain ⟨i, j, _, hj, rfl⟩ := allC_mem.mp ha
    obtain ⟨i2, _, rfl⟩ := rowC_mem.mp hb
    exact .inl (by show (j : Int) < m; omega)
section
variable {P : Program} {w : World} {K : PySem.W.Frag} {mg : Str → Option Value} {base : Heap} {C CI CO CG : Addr}
def spEvery (C : Addr) : Sp := fun vs H Q _ => ∃ r R n, vs = [.ref r] ∧ PicAt C H r R ∧ Grid R n ∧ ∀ p ks H', Same H H' → H p = none → H' p = some (.lst (refs ks)) → Tups H' ks → cellsOf ks = allC n R.length → Q (.ref p) H'
abbrev nEvery : List Str := ["self", "y", "x"]
theorem scEvery : FnScope nEvery ["self"] (defScope cPictureEveryCell) := ⟨rfl, rfl, rfl, by decide +kernel, rfl, by decide +kernel, by decide +kernel⟩
theorem ok_every {f : Addr} {fd : FuncData} (F : Fun K "every_cell" "Picture.every_cell" cPictureEveryCell f fd) (L : LTxt K mg) (T : PCls K C) : FnOk P w K mg base CX0 1 f fd ["self"] (spEvery C) := by
  refine F.ok scEvery (fun vs H Q E h => ?_) (fun cdv A outer s H vs Q E hr h => ?_)
  · obtain ⟨r, R, n, rfl, _⟩ := h
    rfl
  · obtain ⟨r, R, n, rfl, ⟨dx, l, h1, h2⟩, g, k⟩ := h
    refine ⟨_, pss_one (ps_ret (pe_lc2 (own := [("y", 1), ("x", 2)]) (vs1 := [2]) (g := gName 1) (g1 := gName 2) (tt := tYes) (tt1 := tYes) (wi1 := iRng1 (tCons (tFld K (tVar 0) "width") tNil)) rfl scEvery.nd (pi_range1 (by rfl) L.rng (pa_cons (pe_fld (pv 0) rfl) pa_nil)) (blkOk_by (own := [("y", 1), ("x", 2)]) (N := nEvery) (sc := defScope cPictureEveryCell) (by decide +kernel)) (by decide)
      (fun _ _ _ _ _ => pg_name (i := 1) scEvery.nd rfl (.inl rfl)) (fun _ _ _ _ _ => pts_nil) (fun _ _ _ _ _ => pi_range1 (by rfl) L.rng (pa_cons (pe_fld (pv 0) rfl) pa_nil)) (fun _ _ _ _ _ => pg_name (i := 2) scEvery.nd rfl (.inl rfl)) (fun _ _ _ _ _ => pts_nil) (fun _ _ _ _ _ => pe_tup (pa_cons (pv 2) (pa_cons (pv 1) pa_nil))))), ?_⟩
    have w8 := g.w8
    have h8 := g.h8
    have ew := g.wide
    refine ⟨_, rfl, r, C, dx, _, _, rfl, h1, T.cl, T.nH, rfl, (R.length : Int), rfl, by omega, by omega, fun D nD => ?_⟩
    let Pv : Nat → Nat → Hp → Prop := fun j i G => Same H G ∧ ∃ ks, G D = some (.lst (refs ks)) ∧ Tups G ks ∧ cellsOf ks = allC n j ++ rowC i j
    refine ⟨fun j m G => m = R.length - j ∧ j ≤ R.length ∧ Pv j 0 G, ⟨R.length, by simp, Nat.zero_le _, same_upd nD, [], upd_same, (fun p hp => nomatch hp), rfl⟩, ?_⟩
    rintro j m G ⟨rfl, hj, p⟩
    by_cases lt : j < R.length
    · refine .inr ⟨by show j < ((R.length : Int)).toNat; omega, Pv (j + 1) 0, fun G' p' => ⟨R.length - (j + 1), by omega, rfl, lt, p'⟩, fun x G' y => ?_⟩
      obtain ⟨rfl, rfl⟩ := y
      refine ⟨rfl, tyes (iteT ?_)⟩
      have pj := p
      obtain ⟨sG, _⟩ := pj
      refine ⟨_, rfl, r, C, dx, _, _, rfl, sG _ _ h1, T.cl, T.nW, rfl, wideOf R, rfl, by omega, by omega, ?_⟩
      refine ⟨fun i m G => m = n - i ∧ i ≤ n ∧ Pv j i G, ⟨n, by simp, Nat.zero_le _, p⟩, ?_⟩
      rintro i m G ⟨rfl, hi, p⟩
      by_cases lti : i < n
      · refine .inr ⟨by show i < (wideOf R).toNat; omega, Pv j (i + 1), fun G' p' => ⟨n - (i + 1), by omega, rfl, lti, p'⟩, fun x G' y => ?_⟩
        obtain ⟨rfl, rfl⟩ := y
        obtain ⟨sG, ks, hD, hk, ek⟩ := p
        refine ⟨rfl, tyes (iteT ⟨_, rfl, _, rfl, small_line (by show 2 ≤ 1000; decide), fun t nt => ?_⟩)⟩
        have st := same_upd (o := CellO ((i : Int), (j : Int))) nt
        have lk : ks.length = j * n + i := by
          have z := congrArg List.length ek
          rw [List.length_append, allC_len, rowC_len] at z
          unfold cellsOf at z
          rw [List.length_map] at z
          exact z
        have few : ks.length < 1000 := by
          have : j * n ≤ 8 * 8 := Nat.mul_le_mul (by omega) w8
          omega
        have nDt : t ≠ D := fun e => by
          rw [e, hD] at nt
          cases nt
        refine ⟨refs ks, ?_, ?_, ?_, ks ++ [(t, ((i : Int), (j : Int)))], ?_, ?_, ?_⟩
        · have z := st _ _ hD
          rw [show (0 : Int) + (i : Int) = (i : Int) by omega, show (0 : Int) + (j : Int) = (j : Int) by omega]
          exact z
        · unfold refs
          rw [List.length_map]
          exact Nat.lt_of_le_of_lt (Nat.le_of_lt few) (small1000 (Nat.le_refl _))
        · exact fun b o e => by
            have nbD : b ≠ D := fun z => by rw [z, nD] at e; cases e
            rw [upd_ne nbD, show (0 : Int) + (i : Int) = (i : Int) by omega, show (0 : Int) + (j : Int) = (j : Int) by omega]
            exact st _ _ (sG _ _ e)
        · rw [upd_same]
          unfold refs
          rw [List.map_append]
          rfl
        · intro q hq
          have nq : q.1 ≠ D := fun z => by
            rcases List.mem_append.mp hq with y | y
            · have := hk q y
              rw [z, hD] at this
              cases this
            · rw [List.mem_singleton.mp y] at z
              exact nDt z
          rw [upd_ne nq, show (0 : Int) + (i : Int) = (i : Int) by omega, show (0 : Int) + (j : Int) = (j : Int) by omega]
          rcases List.mem_append.mp hq with y | y
          · exact st _ _ (hk q y)
          · rw [List.mem_singleton.mp y]
            exact upd_same
        · unfold cellsOf at ek ⊢
          rw [List.map_append, ek, rowC_succ, List.append_assoc]
          rfl
      · have e : i = n := by omega
        subst e
        refine .inl ⟨by show (wideOf R).toNat ≤ i; omega, ?_⟩
        obtain ⟨sG, ks, hD, hk, ek⟩ := p
        exact ⟨sG, ks, hD, hk, by rw [ek]; exact (List.append_nil _).symm⟩
    · have e : j = R.length := by omega
      subst e
      refine .inl ⟨by show ((R.length : Int)).toNat ≤ R.length; omega, ?_⟩
      obtain ⟨sG, ks, hD, hk, ek⟩ := p
      exact k D ks G sG nD hD hk (by rw [ek]; exact List.append_nil _)
/-! ### picture[x, y] -/
def spItem (C : Addr) : Sp := fun vs H Q _ => ∃ r R n t x y, vs = [.ref r, .ref t] ∧ PicAt C H r R ∧ Grid R n ∧ H t = some (CellO (x, y)) ∧ Q (.str (S (signAt R x y))) H
abbrev nItem : List Str := ["self", "at", "x", "y"]
theorem scItem : FnScope nItem ["self", "at"] (defScope cPictureGetitem) := ⟨rfl, rfl, rfl, by decide +kernel, rfl, by decide +kernel, by decide +kernel⟩
theorem ok_item {f fC : Addr} {fd dC' : FuncData} {ue : Value} (F : Fun K "__getitem__" "Picture.__getitem__" cPictureGetitem f fd) (T : PCls K C) (OC : FnOk P w K mg base CX0 1 fC dC' ["self", "x", "y"] (spContains C)) (mC : Meth K C "contains" fC) (bC : Binds K dC' ["self", "x", "y"] [])
    (cE : Con K C "EDGE" (.str "#") ue) : FnOk P w K mg base CX0 2 f fd ["self", "at"] (spItem C) := by
  refine F.ok scItem (fun vs H Q E h => ?_) (fun cdv A outer s H vs Q E hr h => ?_)
  · obtain ⟨r, R, n, t, x, y, rfl, _⟩ := h
    rfl
  · obtain ⟨r, R, n, t, x, y, rfl, hp, g, ht, k⟩ := h
    refine ⟨_, pss_cons (ps_asg (pv 1) (pg_tup rfl (pgs_cons (pg_name (i := 2) scItem.nd rfl (.inl rfl)) (pgs_cons (pg_name (i := 3) scItem.nd rfl (.inl rfl)) pgs_nil))))
      (pss_cons (ps_if (pt_not (pt_val (pe_meth (pv 0) T.cl mC OC hr bC .nil pass0 (pa_cons (pv 2) (pa_cons (pv 3) pa_nil))))) (pss_one (ps_ret (pe_con (pv 0) rfl))) pss_nil)
      (pss_one (ps_ret (pe_ix ix_str (pe_ix ix_list (pe_fld (pv 0) rfl) (pv 3) (fun _ _ => rfl)) (pv 2) (fun _ _ => rfl))))), ?_⟩
    have hp0 := hp
    obtain ⟨dx, l, h1, h2⟩ := hp
    refine ⟨_, rfl, t, [.int x, .int y], rfl, SqT.of ht, rfl, _, _, rfl, _, _, rfl, rfl, ?_⟩
    refine ⟨_, rfl, r, dx, _, rfl, h1, rfl, _, rfl, _, rfl, r, R, x, y, rfl, hp0, _, rfl, ?_⟩
    by_cases io : inB R x y = true
    · refine iteFe (by rw [io]; rfl) ?_
      obtain ⟨i, j, rfl, rfl, hi, hj⟩ := g.inside io
      obtain ⟨e1, m1, l1⟩ := g.at hj
      have w8 := g.w8
      have ge : (rowAt R j)[i]? = some ((rowAt R j).getD i 0) := by
        rw [List.getD_eq_getElem?_getD, List.getElem?_eq_getElem (by omega)]
        rfl
      unfold signAt at k
      rw [if_pos io] at k
      exact ⟨_, rfl, r, C, dx, _, _, rfl, h1, T.cl, T.nR, rfl, _, rfl, l, _, (j : Int), _, rfl, rfl, SqL.of h2, atI_nat (rowsV_get g hj), _, rfl, _, _, _, rfl, rfl, by rw [len_S, l1]; exact small_line (by omega), atI_nat ge, k⟩
    · unfold signAt at k
      rw [if_neg io] at k
      have io : inB R x y = false := by simpa using io
      refine iteTe (by rw [io]; rfl) ⟨_, rfl, r, C, dx, _, _, _, rfl, h1, T.cl, cE, rfl, ?_⟩
      rw [show ("#" : Str) = S [35] by decide +kernel]
      exact k
/-! ### first - second -/
def differ (R R2 : Rows) : List Cell := (allC (wideOf R).toNat R.length).filter fun c => decide (signAt R c.1 c.2 ≠ signAt R2 c.1 c.2)
end
end Pm
/-! ### a sketch's cells; what the law asks of a sketch -/
namespace Tr
open PySem PySem.Spec PyProof.Rows L2 SX
section
variable {X : Cx} {B : Hp × Hp} {Γ Γ' Γ1 : Env} {e a b c : Expr} {i j k : Int} {s : Stmt} {ss r : List Stmt} {pos : Pos} {d : D}
/-- i <= j < k -/
theorem o_leLt (ha : Ok X B a Γ (.int i)) (hb : Ok X B b Γ (.int j)) (hc : Ok X B c Γ (.int k)) (hm : lastMarks [.LtE, .Lt] [b, c] = false := by with_unfolding_all rfl) : OkT X B (.Compare a [.LtE, .Lt] [b, c] pos) Γ (decide (i ≤ j) && decide (j < k)) :=
  PT.weak (pt_chain op_le op_lt ha hb (PE.when (p := i ≤ j) fun _ => hc) hm) fun σ H Q ⟨F, w, q⟩ => ⟨F, w, fun v1 F1 H1 w1 g1 r1 => ⟨F1, w1, fun v2 F2 H2 w2 g2 r2 => by
    cases r1
    cases r2
    refine ⟨_, _, rfl, rfl, _, rfl, ?_⟩
    by_cases h : i ≤ j
    · rw [if_pos (decide_eq_true h)]
      refine ⟨h, F2, w2, fun v3 F3 H3 w3 g3 r3 => ?_⟩
      cases r3
      refine ⟨_, _, rfl, rfl, _, rfl, ?_⟩
      have := q F3 H3 w3 ((g1.trans g2).trans g3)
      rw [decide_eq_true h, Bool.true_and] at this
      exact this
    · rw [if_neg (by rw [decide_eq_false h]; decide)]
      have := q F2 H2 w2 (g1.trans g2)
      rw [decide_eq_false h, Bool.false_and] at this
      exact ⟨_, rfl, this⟩⟩⟩
/-- an if whose test is false, before what raises -/
theorem s_skip (hc : OkT X B c Γ false) : OkS X B (.If c ss [] pos) Γ (.nx Γ) :=
  PS.weak (ps_if hc (PSs.when (p := False) (t := fun _ _ _ => True) fun z => z.elim) pss_nil) fun D σ H ⟨F, w, k⟩ => ⟨F, w, fun F1 H1 w1 g1 => iteF (k σ F1 H1 w1)⟩
theorem s_then (hc : OkT X B c Γ true) (ha : OkSs X B ss Γ (.nx Γ1)) : OkS X B (.If c ss [] pos) Γ (.nx Γ1) :=
  PS.weak (ps_if hc ha pss_nil) fun D σ H ⟨F, w, k⟩ => ⟨F, w, fun F1 H1 w1 g1 => iteT ⟨F1, w1, k⟩⟩
/-- a, b = e -/
theorem s_asgG {g : TG} {vs : List Nat} (ho : ∀ {te : TE}, PE X e te → PS X s (tAsg te g)) (h : Ok X B e Γ d) (hg : BindG X.K B vs g Γ d Γ') : OkS X B s Γ (.nx Γ') :=
  PS.weak (ho h) fun D σ H ⟨F, w, k⟩ => ⟨F, w, fun v F1 H1 w1 g1 r1 => hg σ F1 H1 v w1 r1 _ fun σ' w' _ => k σ' F1 H1 w'⟩
/-- a def that ends without a return gives None -/
theorem tree_wishN {K : PySem.W.Frag} {N : List Str} {ds : List D} {vs : List V} {H : Hp} {Q : VK} {E : XK} {Γ' : Env} (h : spT K ds .non vs H Q E) (l : ds.length ≤ N.length) : ∃ B : Hp × Hp, tSt K B (ds.map Sl.d ++ List.replicate (N.length - ds.length) .no) (.nx Γ') { nx := fun _ H' => Q .non H', rt := Q } (L2.start N vs) H := by
  obtain ⟨F, fh, r, k⟩ := h
  exact ⟨(F, H), F, wd_start fh r (by rw [r.length]; exact l), fun σ' F' H' w => k .non F' H' ⟨w.ff, w.hh, w.ex⟩ w.fh .non⟩
end
end Tr
namespace Pm
open PySem PySem.Spec PyProof.Rows L2 SX Tr
theorem rc_isiStr {K : PySem.W.Frag} {u : List Nat} : RCT K (rIsi K) [.tx u, .val (.ty "str")] (.bl true) := fun F H fh vs r Q q => by
  cases r with
  | cons h1 r =>
    cases r with
    | cons h2 r =>
      cases r; cases h1; cases h2
      exact ⟨_, _, .type "str", .type "str", true, rfl, .ty _, .base (.str _), kit_ty (by decide +kernel), q _ F H (Gr.refl _ _) fh (.bl _)⟩
section
variable {X : Cx} {CXf : CXT} {k : Nat} {f C : Addr} {fd : FuncData} {ps : List Str} {sp : Sp} {E : XK} {pins : List (Addr × Obj)} {σ : L2.St} {H : Hp} {s : Shared}
end
section
variable {X : Cx} {C f : Addr} {fd : FuncData} {k : Nat} {ps : List Str} {sp : Sp} {a b : Expr} {ta tb : TE} {pos : Pos}
theorem t_item {B : Hp × Hp} {Γ : Tr.Env} {G : List D → D → Prop} {fs : List (Str × D)} {y z : D} (F : FnOk X.prog X.w X.K X.mg X.base CX0 k f fd ps (spG X.K G)) (hr : Room (k + 1) X.A) (hb : Binds X.K fd ps []) (m : OwnM X.K C "__getitem__" f) (fi : PySem.W.fnIn X.K f = true) (ha : Ok X B a Γ (.obj C fs)) (hy : Ok X B b Γ y)
    (h : G [.obj C fs, y] z) (hs : ∀ o i, subscripted b true o i = runValue (.builtin "lifetime.subscript" ⟨[o, i], []⟩) := by intro _ _; rfl) : Ok X B (.Subscript a b pos) Γ z :=
  PE.weak (pe_item F hr hb m fi ha hy hs) fun σ H Q ⟨F0, w, q⟩ => ⟨F0, w, fun v1 F1 H1 w1 g1 r1 => ⟨F1, w1, fun v2 F2 H2 w2 g2 r2 => by
    have r1' := r1.mono g2.f
    cases r1' with
    | obj h1 rr =>
      exact ⟨_, _, _, rfl, w2.fh _ _ h1, _, _, h, F2, w2.fh, .cons (.obj h1 rr) (.cons r2 .nil), fun v F3 H3 g3 fh r3 => q v F3 H3 (w2.gr g3 fh) ((g1.trans g2).trans g3) r3⟩⟩⟩
end
/-! ### all cells of a grid -/
abbrev cellD (c : Cell) : D := .tup [.int c.1, .int c.2]
abbrev cellsD (M : List Cell) : D := .lst (M.map cellD)
/-- the word at a place -/
def AtT (T : Tab) (i j : Nat) (w : List Nat) : Prop := ∃ r, T[j]? = some r ∧ r[i]? = some w
theorem AtT.lt {T : Tab} {m n i j : Nat} {w : List Nat} (g : TabOk T m n) (h : AtT T i j w) : i < m ∧ j < n := by
  obtain ⟨r, h1, h2⟩ := h
  have a := (List.getElem?_eq_some_iff.mp h1).1
  have b := (List.getElem?_eq_some_iff.mp h2).1
  rw [g.w r (List.mem_of_getElem? h1)] at b
  rw [g.h] at a
  exact ⟨b, a⟩
theorem atT_of {T : Tab} {m n i j : Nat} (g : TabOk T m n) (hi : i < m) (hj : j < n) : ∃ w, AtT T i j w := by
  have a : j < T.length := by rw [g.h]; exact hj
  have b : i < T[j].length := by rw [g.w _ (List.getElem_mem a)]; exact hi
  exact ⟨T[j][i], T[j], List.getElem?_eq_getElem a, List.getElem?_eq_getElem b⟩
theorem AtT.row {T : Tab} {i j : Nat} {w : List Nat} (h : AtT T i j w) : ∃ r : List (List Nat), atI (T.map fun r => D.lst (r.map D.tx)) (j : Int) = some (.lst (r.map D.tx)) ∧ atI (r.map D.tx) (i : Int) = some (.tx w) := by
  obtain ⟨r, h1, h2⟩ := h
  exact ⟨r, atI_nat (by rw [List.getElem?_map, h1]; rfl), atI_nat (by rw [List.getElem?_map, h2]; rfl)⟩
section
variable {P : Program} {w : World} {K : PySem.W.Frag} {mg : Str → Option Value} {base : Heap} {CS : Addr}
/-! _check_cell, a cell of the sketch -/
def gSkChk (CS : Addr) (ds : List D) (d : D) : Prop := ∃ T m n, ∃ i j : Nat, TabOk T m n ∧ i < m ∧ j < n ∧ ds = [skD CS T m n, .int i, .int j] ∧ d = .non
abbrev nSkChk : List Str := ["self", "x", "y"]
theorem scSkChk : FnScope nSkChk nSkChk (defScope cSketchCheckCell) := ⟨rfl, rfl, rfl, by decide +kernel, rfl, by decide +kernel, by decide +kernel⟩
theorem ok_skChk {f : Addr} {fd : FuncData} (F : Fun K "_check_cell" "Sketch._check_cell" cSketchCheckCell f fd) (T : Kls K mg CS) : FnOk P w K mg base CX0 1 f fd nSkChk (spG K (gSkChk CS)) := by
  refine F.ok scSkChk (spG_len fun ds d ⟨_, _, _, _, _, _, _, _, e, _⟩ => by rw [e]; rfl) (fun cdv A outer s H vs Q E hr h => ?_)
  obtain ⟨ds, d, ⟨R, m, n, i, j, g, hi, hj, rfl, rfl⟩, h⟩ := h
  obtain ⟨B, tw⟩ := tree_wishN (N := nSkChk) (Γ' := [.d (skD CS R m n), .d (.int i), .d (.int j)]) h (by show 3 ≤ 3; decide)
  refine ⟨_, (show OkSs _ B _ [.d (skD CS R m n), .d (.int i), .d (.int j)] (.nx [.d (skD CS R m n), .d (.int i), .d (.int j)]) from ?_), tw⟩
  exact s_ifNo (o_as (o_w (w_or (o_not (o_leLt ok_int (ok_var (pv 1) rfl) (t_fld (ok_var (pv 0) rfl) T.cl T.nW rfl rfl))) (fun _ => w_or1 (o_not (o_leLt ok_int (ok_var (pv 2) rfl) (t_fld (ok_var (pv 0) rfl) T.cl T.nH rfl rfl)))))) (by rw [decide_eq_true (show (0 : Int) ≤ (i : Int) by omega), decide_eq_true (show (i : Int) < (m : Int) by omega), decide_eq_true (show (0 : Int) ≤ (j : Int) by omega), decide_eq_true (show (j : Int) < (n : Int) by omega)]; rfl)) s_nil
/-! sketch[x, y] -/
def gSkItem (CS : Addr) (ds : List D) (d : D) : Prop := ∃ T m n, ∃ i j : Nat, ∃ z, TabOk T m n ∧ AtT T i j z ∧ ds = [skD CS T m n, cellD (i, j)] ∧ d = .tx z
abbrev nSkItem : List Str := ["self", "at", "x", "y"]
theorem scSkItem : FnScope nSkItem ["self", "at"] (defScope cSketchGetitem) := ⟨rfl, rfl, rfl, by decide +kernel, rfl, by decide +kernel, by decide +kernel⟩
theorem ok_skItem {f g : Addr} {fd gd : FuncData} (F : Fun K "__getitem__" "Sketch.__getitem__" cSketchGetitem f fd) (T : Kls K mg CS) (O : FnOk P w K mg base CX0 1 g gd nSkChk (spG K (gSkChk CS))) (mO : Meth K CS "_check_cell" g) (bO : Binds K gd nSkChk []) : FnOk P w K mg base CX0 2 f fd ["self", "at"] (spG K (gSkItem CS)) := by
  refine F.ok scSkItem (spG_len fun ds d ⟨_, _, _, _, _, _, _, _, e, _⟩ => by rw [e]; rfl) (fun cdv A outer s H vs Q E hr h => ?_)
  obtain ⟨ds, d, ⟨R, m, n, i, j, z, g, hz, rfl, rfl⟩, h⟩ := h
  obtain ⟨B, tw⟩ := tree_wish (N := nSkItem) h (by show 2 ≤ 4; decide)
  obtain ⟨hi, hj⟩ := hz.lt g
  obtain ⟨r, e1, e2⟩ := hz.row
  refine ⟨_, (show OkSs _ B _ [.d (skD CS R m n), .d (cellD (i, j)), .no, .no] (.rt (.tx z)) from ?_), tw⟩
  exact s_cons (Γ1 := [.d (skD CS R m n), .d (cellD (i, j)), .d (.int i), .d (.int j)]) (s_asgG (vs := [2, 3]) (fun h => ps_asg h (pg_tup rfl (pgs_cons (pg_name (i := 2) scSkItem.nd rfl (.inl rfl)) (pgs_cons (pg_name (i := 3) scSkItem.nd rfl (.inl rfl)) pgs_nil)))) (ok_var (pv 1) rfl) (b_tup (b_cons (b_name (i := 2) (by decide)) (b_cons (b_name (i := 3) (by decide)) b_nil))))
    (s_cons (s_expr (fun h => ps_expr h) (t_meth (z := .non) (fun h g => pe_meth h T.cl mO O hr bO .nil pass0 g) (ok_var (pv 0) rfl) (a_cons (ok_var (pv 2) rfl) (a_cons (ok_var (pv 3) rfl) a_nil)) rfl (fun _ _ _ q => ⟨_, _, ⟨R, m, n, i, j, g, hi, hj, rfl, rfl⟩, q⟩)))
    (s_one (s_ret (t_ixL (t_ixL (t_fld (ok_var (pv 0) rfl) T.cl T.nR rfl rfl) (ok_var (pv 3) rfl) e1 (fun _ _ => rfl)) (ok_var (pv 2) rfl) e2 (fun _ _ => rfl)))))
end
end Pm
/-! ### what the law asks of a sketch and its table -/
namespace Pm
open PySem PySem.Spec PyProof.Rows L2 SX Tr
theorem fold_row (n cy : Nat) (s : List Cell) : (List.range n).foldl (fun s (cx : Nat) => s ++ [((cx : Int), (cy : Int))]) s = s ++ rowC n cy := foldl_app (fun cx : Nat => (((cx : Int), (cy : Int)) : Cell)) (List.range n) s
theorem fold_all (n : Nat) : ∀ (m : Nat), (List.range m).foldl (fun s (cy : Nat) => s ++ rowC n cy) [] = allC n m
  | 0 => rfl
  | m + 1 => by
    rw [List.range_succ, List.foldl_append, fold_all n m]
    rfl
theorem fold_row' (n cy j : Nat) (s : List Cell) (h : j < n) : ((List.range n).take j).foldl (fun s (cx : Nat) => s ++ [((cx : Int), (cy : Int))]) s = s ++ rowC j cy := by
  rw [show (List.range n).take j = List.range j from by rw [List.take_range, Nat.min_eq_left (by omega)], fold_row]
theorem allC_in {n : Nat} : ∀ {m : Nat} {c : Cell}, c ∈ allC n m → ∃ i j : Nat, i < n ∧ j < m ∧ c = ((i : Int), (j : Int))
  | 0, c, h => nomatch h
  | m + 1, c, h => by
    rcases List.mem_append.mp (show c ∈ allC n m ++ rowC n m from h) with h | h
    · obtain ⟨i, j, hi, hj, e⟩ := allC_in h
      exact ⟨i, j, hi, by omega, e⟩
    · unfold rowC at h
      obtain ⟨i, mi, rfl⟩ := List.mem_map.mp h
      exact ⟨i, m, List.mem_range.mp mi, by omega, rfl⟩
theorem TabOk.row0 {T : Tab} {m n : Nat} (g : TabOk T m n) : ∃ r, T[0]? = some r ∧ r.length = m ∧ atI (T.map fun r => D.lst (r.map D.tx)) 0 = some (.lst (r.map D.tx)) := by
  have a : 0 < T.length := by rw [g.h]; exact g.n1
  exact ⟨T[0], List.getElem?_eq_getElem a, g.w _ (List.getElem_mem a), atI_nat (j := 0) (by rw [List.getElem?_map, List.getElem?_eq_getElem a]; rfl)⟩
section
variable {P : Program} {w : World} {K : PySem.W.Frag} {mg : Str → Option Value} {base : Heap} {CS : Addr}
/-! the cells of a table -/
def gTCells (ds : List D) (d : D) : Prop := ∃ T m n, TabOk T m n ∧ ds = [tabD T] ∧ d = cellsD (allC m n)
abbrev nTCells : List Str := ["_law_rows", "_law_cells_here", "_law_cy", "_law_cx"]
theorem scTCells : FnScope nTCells ["_law_rows"] (defScope lCells) := ⟨rfl, rfl, rfl, by decide +kernel, rfl, by decide +kernel, by decide +kernel⟩
theorem ok_tcells {f : Addr} {fd : FuncData} (F : Fun K "_law_cells" "_law_cells" lCells f fd) (L : LTxt K mg) : FnOk P w K mg base CX0 1 f fd ["_law_rows"] (spG K gTCells) := by
  refine F.ok scTCells (spG_len fun ds d ⟨_, _, _, _, e, _⟩ => by rw [e]; rfl) (fun cdv A outer s H vs Q E hr h => ?_)
  obtain ⟨ds, d, ⟨R, m, n, g, rfl, rfl⟩, h⟩ := h
  obtain ⟨B, tw⟩ := tree_wish (N := nTCells) h (by show 1 ≤ 4; decide)
  have h8 := g.n8
  have w8 := g.m8
  have h1 := g.n1
  have lr : (R.map fun r => D.lst (r.map D.tx)).length = n := by rw [List.length_map, g.h]
  obtain ⟨r, _, l0, r0⟩ := g.row0
  have l0 : (r.map D.tx).length = m := by rw [List.length_map, l0]
  have e1 : (List.range n).foldl (fun s (cy : Nat) => s ++ rowC m cy) [] = allC m n := fold_all m _
  refine ⟨_, (show OkSs _ B _ [.d (tabD R), .no, .no, .no] (.rt (cellsD (allC m n))) from ?_), tw⟩
  refine s_cons (s_setOwn (i := 1) (fun h => ps_set (i := 1) scTCells.nd rfl (.inl rfl) (pe_lst h)) a_nil (by show 0 ≤ 100000; decide)) (s_cons (s_for (S := List Cell) (vs := [2]) (fun s => [.d (tabD R), .own (.l (s.map cellD)), .no, .no]) (fun s (cy : Nat) => s ++ rowC m cy) (List.range n) (fun k : Nat => .int (k : Int)) [] (fun s k => _) (fun h g => ps_for PassesOwn.never rfl h (pg_name (i := 2) scTCells.nd rfl (.inl rfl)) g)
      (i_range1 (fun h => pi_range1 (by rfl) L.rng h) (a_cons (t_cb (fun h => pe_callB call_len_seq (by rfl) L.len PySem.boot_len h) (a_cons (ok_var (pv 0) rfl) a_nil) rc_len) a_nil) (by rw [lr]; rfl) (by rw [lr]; constructor <;> omega)) (fun _ _ _ _ => (b_name (i := 2) (by decide))) (fun B i cy s h1 h2 => ?_))
    (s_freeze 1 rfl (s_one (s_ret (ok_as (ok_var (pv 1) rfl) (by rw [e1]; rfl))))))
  have li : i < n := by
    have := (List.getElem?_eq_some_iff.mp h1).1
    rwa [List.length_range] at this
  have ls : s.length ≤ 8 * 8 := by
    rw [h2, show (List.range n).take i = List.range i from by rw [List.take_range, Nat.min_eq_left (by omega)], fold_all, allC_len]
    exact Nat.mul_le_mul (by omega) w8
  refine s_leO (Γ2 := [.d (tabD R), .own (.l ((s ++ rowC m cy).map cellD)), .d (.int (cy : Int)), .no]) (s_one ?_) (.cons (.cons (.cons (.cons .refl (.inl rfl)) (.inl rfl)) (.inr rfl)) (.inr rfl))
  rw [← fold_row]
  refine s_for (S := List Cell) (vs := [3]) (fun s => [.d (tabD R), .own (.l (s.map cellD)), .d (.int (cy : Int)), .no]) (fun s (cx : Nat) => s ++ [((cx : Int), (cy : Int))]) (List.range m) (fun k : Nat => .int (k : Int)) s (fun s k => _) (fun h g => ps_for PassesOwn.never rfl h (pg_name (i := 3) scTCells.nd rfl (.inl rfl)) g)
      (i_range1 (fun h => pi_range1 (by rfl) L.rng h) (a_cons (t_cb (fun h => pe_callB call_len_seq (by rfl) L.len PySem.boot_len h) (a_cons (t_ixL (ok_var (pv 0) rfl) ok_int r0 (fun _ _ => rfl)) a_nil) rc_len) a_nil) (by rw [l0]; rfl) (by rw [l0]; constructor <;> omega)) (fun _ _ _ _ => (b_name (i := 3) (by decide))) (fun B j cx s' h3 h4 => ?_)
  have lj : j < m := by
    have := (List.getElem?_eq_some_iff.mp h3).1
    rwa [List.length_range] at this
  have ls' : s'.length ≤ 8 * 8 + 8 := by
    rw [h4, fold_row' m cy j s lj, List.length_append, rowC_len]
    omega
  refine s_leO (Γ2 := [.d (tabD R), .own (.l ((s' ++ [((cx : Int), (cy : Int))]).map cellD)), .d (.int (cy : Int)), .d (.int (cx : Int))]) (s_one ?_) (.cons (.cons (.cons (.cons .refl (.inl rfl)) (.inr rfl)) (.inr rfl)) (.inr rfl))
  exact s_appendM (i := 1) cellD s' ((cx : Int), (cy : Int)) (fun h => ps_expr (pe_bm PySem.F.plainAttrs_list PySem.F.slot_list_append PySem.F.type_list_append mt_append (pv 1) h)) rfl (a_cons (t_tup (a_cons (ok_var (pv 3) rfl) (a_cons (ok_var (pv 2) rfl) a_nil)) (by show 2 ≤ 100000; decide)) a_nil) (by omega)
/-! the word at a cell -/
def gLAt (ds : List D) (d : D) : Prop := ∃ T, ∃ i j : Nat, ∃ z, AtT T i j z ∧ ds = [tabD T, cellD (i, j)] ∧ d = .tx z
abbrev nLAt : List Str := ["_law_table_here", "_law_cell", "_law_line"]
theorem scLAt : FnScope nLAt ["_law_table_here", "_law_cell"] (defScope lAt) := ⟨rfl, rfl, rfl, by decide +kernel, rfl, by decide +kernel, by decide +kernel⟩
theorem ok_lat {f : Addr} {fd : FuncData} (F : Fun K "_law_at" "_law_at" lAt f fd) : FnOk P w K mg base CX0 1 f fd ["_law_table_here", "_law_cell"] (spG K gLAt) := by
  refine F.ok scLAt (spG_len fun ds d ⟨_, _, _, _, _, e, _⟩ => by rw [e]; rfl) (fun cdv A outer s H vs Q E hr h => ?_)
  obtain ⟨ds, d, ⟨R, i, j, z, hz, rfl, rfl⟩, h⟩ := h
  obtain ⟨B, tw⟩ := tree_wish (N := nLAt) h (by show 2 ≤ 3; decide)
  obtain ⟨r, e1, e2⟩ := hz.row
  refine ⟨_, (show OkSs _ B _ [.d (tabD R), .d (cellD (i, j)), .no] (.rt (.tx z)) from ?_), tw⟩
  exact s_cons (s_set (i := 2) (fun h => ps_set (i := 2) scLAt.nd rfl (.inl rfl) h) (t_ixL (ok_var (pv 0) rfl) (t_ixT (ok_var (pv 1) rfl) ok_int rfl (fun _ _ => rfl)) e1 (fun _ _ => rfl)))
    (s_one (s_ret (t_ixL (ok_var (pv 2) rfl) (t_ixT (ok_var (pv 1) rfl) ok_int rfl (fun _ _ => rfl)) e2 (fun _ _ => rfl))))
/-! the sketch is the table's -/
structure SkT (P : Program) (w : World) (K : PySem.W.Frag) (mg : Str → Option Value) (base : Heap) (CS fT fI : Addr) (dT dI : FuncData) : Prop where
  T : Kls K mg CS
  mT : Meth K CS "text" fT
  OT : FnOk P w K mg base CX0 1 fT dT ["self"] (spG K (gSkText CS))
  bT : Binds K dT ["self"] []
  mI : OwnM K CS "__getitem__" fI
  fi : PySem.W.fnIn K fI = true
  OI : FnOk P w K mg base CX0 2 fI dI ["self", "at"] (spG K (gSkItem CS))
  bI : Binds K dI ["self", "at"] []
def gSkIs (CS : Addr) (ds : List D) (d : D) : Prop := ∃ T m n, TabOk T m n ∧ ds = [skD CS T m n, tabD T] ∧ d = .bl true
abbrev nSkIs : List Str := ["_law_sketch", "_law_table_here", "_law_text", "_law_cell", "_law_signs"]
theorem scSkIs : FnScope nSkIs ["_law_sketch", "_law_table_here"] (defScope lSketchIs) := ⟨rfl, rfl, rfl, by decide +kernel, rfl, by decide +kernel, by decide +kernel⟩
theorem ok_skIs {f fT fI a1 a2 a3 : Addr} {fd dT dI b1 b2 b3 : FuncData} (F : Fun K "_law_sketch_is" "_law_sketch_is" lSketchIs f fd) (L : LTxt K mg) (hs : mg "str" = none) (O : SkT P w K mg base CS fT fI dT dI) (cTx : Cl P w K mg base CX0 1 "_law_sketch_text" ["_law_table_here"] (spG K gLText) a1 b1)
    (cCe : Cl P w K mg base CX0 1 "_law_cells" ["_law_rows"] (spG K gTCells) a2 b2) (cAt : Cl P w K mg base CX0 1 "_law_at" ["_law_table_here", "_law_cell"] (spG K gLAt) a3 b3) : FnOk P w K mg base CX0 5 f fd ["_law_sketch", "_law_table_here"] (spG K (gSkIs CS)) := by
  refine F.ok scSkIs (spG_len fun ds d ⟨_, _, _, _, e, _⟩ => by rw [e]; rfl) (fun cdv A outer s H vs Q E hr h => ?_)
  obtain ⟨ds, d, ⟨R, m, n, g, rfl, rfl⟩, h⟩ := h
  obtain ⟨B, tw⟩ := tree_wish (N := nSkIs) h (by show 2 ≤ 5; decide)
  have hr1 : Room 1 _ := hr.mono (by decide)
  have hr3 : Room 3 _ := hr.mono (by decide)
  have T := O.T
  obtain ⟨r, _, l0, r0⟩ := g.row0
  have l0 : (r.map D.tx).length = m := by rw [List.length_map, l0]
  have lr : (R.map fun r => D.lst (r.map D.tx)).length = n := by rw [List.length_map, g.h]
  refine ⟨_, (show OkSs _ B _ [.d (skD CS R m n), .d (tabD R), .no, .no, .no] (.rt (.bl true)) from ?_), tw⟩
  refine s_ifNo (o_as (o_w (w_or (o_op (fun p q => pt_cmpR op_ne p q (nomark _)) (t_fld (ok_var (pv 0) rfl) T.cl T.nW rfl rfl) (t_cb (fun h => pe_callB call_len_seq (by rfl) L.len PySem.boot_len h) (a_cons (t_ixL (ok_var (pv 1) rfl) ok_int r0 (fun _ _ => rfl)) a_nil) rc_len) r2_neI) (fun _ => w_or1 (o_op (fun p q => pt_cmpR op_ne p q (nomark _)) (t_fld (ok_var (pv 0) rfl) T.cl T.nH rfl rfl) (t_cb (fun h => pe_callB call_len_seq (by rfl) L.len PySem.boot_len h) (a_cons (ok_var (pv 1) rfl) a_nil) rc_len) r2_neI)))) (by rw [l0, lr]; simp))
    (s_cons (s_set (i := 2) (fun h => ps_set (i := 2) scSkIs.nd rfl (.inl rfl) h) (t_meth0 (z := .tx (tabT (starT R))) (fun h => pe_meth0 h T.cl O.mT O.OT hr1 O.bT .nil pass0) (ok_var (pv 0) rfl) rfl (fun _ _ _ q => ⟨_, _, ⟨R, m, n, g, rfl, rfl⟩, q⟩)))
    (s_ifNo (o_as (o_w (w_or (o_not (o_val (t_cb (fun h => pe_callB call_isi (by rfl) L.isi (by decide +kernel) h) (a_cons (ok_var (pv 2) rfl) (a_cons (ok_c (pe_bltn (v := .ty "str") (by rfl) hs (by decide +kernel) rfl) (fun _ _ => .val _)) a_nil)) rc_isiStr))) (fun _ => w_or1 (o_op (fun p q => pt_cmpR op_ne p q (nomark _)) (ok_var (pv 2) rfl) (t_callG (fun h => pe_call cTx.ok hr1 (by rfl) cTx.gl cTx.kp cTx.bd .nil pass0 h) (a_cons (ok_var (pv 1) rfl) a_nil) ⟨R, m, n, g, rfl, rfl⟩) r2_neS)))) (by simp))
    (s_forNo (vs := [3]) (allC m n) cellD (fun k => _) (fun h g => ps_for PassesOwn.never rfl h (pg_name (i := 3) scSkIs.nd rfl (.inl rfl)) g) (i_list (t_callG (fun h => pe_call cCe.ok hr1 (by rfl) cCe.gl cCe.kp cCe.bd .nil pass0 h) (a_cons (ok_var (pv 1) rfl) a_nil) ⟨R, m, n, g, rfl, rfl⟩)) (fun _ _ _ => (b_name (i := 3) (by decide))) (fun B c mc => ?_)
    (s_one (s_ret ok_bl)))))
  obtain ⟨i, j, hi, hj, rfl⟩ := allC_in mc
  obtain ⟨z, hz⟩ := atT_of g hi hj
  refine s_leO (Γ2 := [.d (skD CS R m n), .d (tabD R), .d (.tx (tabT (starT R))), .d (cellD (i, j)), .d (.tx z)]) ?_ (.cons (.cons (.cons (.cons (.cons .refl (.inl rfl)) (.inl rfl)) (.inr rfl)) (.inr rfl)) (.inr rfl))
  exact s_cons (s_set (i := 4) (fun h => ps_set (i := 4) scSkIs.nd rfl (.inl rfl) h) (t_item O.OI hr3 O.bI O.mI O.fi (ok_var (pv 0) rfl) (t_tup (a_cons (t_ixT (ok_var (pv 3) rfl) ok_int rfl (fun _ _ => rfl)) (a_cons (t_ixT (ok_var (pv 3) rfl) ok_int rfl (fun _ _ => rfl)) a_nil)) (by show 2 ≤ 100000; decide)) ⟨R, m, n, i, j, z, g, hz, rfl, rfl⟩))
    (s_ifNo (o_as (o_w (w_or (o_not (o_val (t_cb (fun h => pe_callB call_isi (by rfl) L.isi (by decide +kernel) h) (a_cons (ok_var (pv 4) rfl) (a_cons (ok_c (pe_bltn (v := .ty "str") (by rfl) hs (by decide +kernel) rfl) (fun _ _ => .val _)) a_nil)) rc_isiStr))) (fun _ => w_or1 (o_op (fun p q => pt_cmpR op_ne p q (nomark _)) (ok_var (pv 4) rfl) (t_callG (fun h => pe_call cAt.ok hr1 (by rfl) cAt.gl cAt.kp cAt.bd .nil pass0 h) (a_cons (ok_var (pv 1) rfl) (a_cons (ok_var (pv 3) rfl) a_nil)) ⟨R, i, j, z, hz, rfl, rfl⟩) r2_neS)))) (by simp)) s_nil)
end
end Pm
/-! ### tables and sketches in the heap; allow -/
namespace Pm
open PySem PySem.Spec PyProof.Rows L2 SX Tr
def TabAt (H : Hp) (a : Addr) (R : List Addr) (T : Tab) : Prop := H a = some (.lst (R.map V.ref)) ∧ R.length = T.length ∧ ∀ (j : Nat) (r : Addr) (z : List (List Nat)), R[j]? = some r → T[j]? = some z → H r = some (.lst (rowsV z))
theorem TabAt.keep {H H' : Hp} {a : Addr} {R : List Addr} {T : Tab} (h : TabAt H a R T) (s : ∀ b o, b ∈ a :: R → H b = some o → H' b = some o) : TabAt H' a R T :=
  ⟨s _ _ List.mem_cons_self h.1, h.2.1, fun j r z e1 e2 => s _ _ (List.mem_cons_of_mem _ (List.mem_of_getElem? e1)) (h.2.2 j r z e1 e2)⟩
theorem TabAt.up {H H' : Hp} {a : Addr} {R : List Addr} {T : Tab} (h : TabAt H a R T) (s : Same H H') : TabAt H' a R T := h.keep fun b o _ e => s b o e
theorem reps_row {K : PySem.W.Frag} {F : Hp} : ∀ (z : List (List Nat)), Reps K F (rowsV z) (z.map D.tx)
  | [] => .nil
  | _ :: z => .cons (.str _) (reps_row z)
theorem reps_tab {K : PySem.W.Frag} {H : Hp} : ∀ {R : List Addr} {T : Tab}, R.length = T.length → (∀ (j : Nat) (r : Addr) (z : List (List Nat)), R[j]? = some r → T[j]? = some z → H r = some (.lst (rowsV z))) → Reps K H (R.map V.ref) (T.map fun r => D.lst (r.map D.tx))
  | [], [], _, _ => .nil
  | r :: R, z :: T, l, h => .cons (.lst (h 0 r z rfl rfl) (reps_row z)) (reps_tab (by simpa using l) fun j r' z' e1 e2 => h (j + 1) r' z' (by simpa using e1) (by simpa using e2))
theorem TabAt.rep {K : PySem.W.Frag} {H : Hp} {a : Addr} {R : List Addr} {T : Tab} (h : TabAt H a R T) : Rep K H (.ref a) (tabD T) := .lst h.1 (reps_tab h.2.1 h.2.2)
theorem TabAt.put {H H' : Hp} {a r : Addr} {R : List Addr} {T : Tab} {j : Nat} {z : List (List Nat)} (h : TabAt H a R T) (nd : (a :: R).Nodup) (hr : R[j]? = some r) (s : SameBut r H H') (e : H' r = some (.lst (rowsV z))) : TabAt H' a R (T.set j z) := by
  have ra : a ≠ r := fun y => (List.nodup_cons.mp nd).1 (y ▸ List.mem_of_getElem? hr)
  refine ⟨s _ _ ra h.1, by rw [List.length_set]; exact h.2.1, fun k q y e1 e2 => ?_⟩
  by_cases ek : k = j
  · subst ek
    rw [hr] at e1
    cases e1
    rw [List.getElem?_set_self' ] at e2
    cases eT : T[k]? with
    | none => rw [eT] at e2; cases e2
    | some _ => rw [eT] at e2; cases e2; exact e
  · rw [List.getElem?_set_ne (fun y => ek y.symm)] at e2
    refine s _ _ (fun y => ?_) (h.2.2 k q y e1 e2)
    subst y
    exact ek ((List.getElem?_inj (List.getElem?_eq_some_iff.mp e1).1 (List.nodup_cons.mp nd).2).mp (e1.trans hr.symm))
abbrev skO (CS dx : Addr) (m n : Nat) (a : Addr) : HO := .ins CS dx [("width", .int m), ("height", .int n), ("_rows", .ref a)]
structure SkAt (CS : Addr) (H : Hp) (x : Addr) (a : Addr) (R : List Addr) (T : Tab) (m n : Nat) : Prop where
  o : ∃ dx, H x = some (skO CS dx m n a)
  t : TabAt H a R T
theorem SkAt.rep {K : PySem.W.Frag} {CS : Addr} {H : Hp} {x a : Addr} {R : List Addr} {T : Tab} {m n : Nat} (h : SkAt CS H x a R T m n) : Rep K H (.ref x) (skD CS T m n) := by
  obtain ⟨dx, e⟩ := h.o
  exact .obj e (.cons (.int _) (.cons (.int _) (.cons h.t.rep .nil)))
theorem SkAt.keep {CS : Addr} {H H' : Hp} {x a : Addr} {R : List Addr} {T : Tab} {m n : Nat} (h : SkAt CS H x a R T m n) (s : ∀ b o, b ∈ x :: a :: R → H b = some o → H' b = some o) : SkAt CS H' x a R T m n := by
  obtain ⟨dx, e⟩ := h.o
  exact ⟨⟨dx, s _ _ List.mem_cons_self e⟩, h.t.keep fun b o m => s b o (List.mem_cons_of_mem _ m)⟩
theorem SkAt.up {CS : Addr} {H H' : Hp} {x a : Addr} {R : List Addr} {T : Tab} {m n : Nat} (h : SkAt CS H x a R T m n) (s : Same H H') : SkAt CS H' x a R T m n := h.keep fun b o _ e => s b o e
/-- a sketch's own things -/
abbrev skOwn (x a : Addr) (R : List Addr) : List Addr := x :: a :: R
/-- a word's signs asked for -/
def okZ (z : List Nat) : Prop := z ≠ [] ∧ z.length ≤ 27 ∧ (∀ c ∈ z, c = 46 ∨ (97 ≤ c ∧ c ≤ 122)) ∧ z.Nodup
theorem okW.z {w : List Nat} (h : okW w) : okZ w := ⟨h.1, h.2.1, h.2.2.1, h.2.2.2.1⟩
theorem okZ.asc {z : List Nat} (h : okZ z) : okW (asc z) := by
  have p := asc_perm z
  refine ⟨fun e => ?_, by rw [p.length_eq]; exact h.2.1, fun c m => h.2.2.1 c (p.mem_iff.mp m), p.nodup_iff.mpr h.2.2.2, ?_⟩
  · rw [e] at p
    exact h.1 p.nil_eq.symm
  · exact List.mergeSort_of_pairwise ((asc_le z).imp fun h => decide_eq_true h)
theorem okZ.rev {z : List Nat} (h : okZ z) : okZ z.reverse := ⟨fun e => h.1 (List.reverse_eq_nil_iff.mp e), by rw [List.length_reverse]; exact h.2.1, fun c m => h.2.2.1 c (List.mem_reverse.mp m), (List.reverse_perm z).nodup_iff.mpr h.2.2.2⟩
theorem ascz_uniq {y z : List Nat} (p : y.Perm z) (s : z.Pairwise (· ≤ ·)) : asc y = z := by
  refine List.Perm.eq_of_pairwise (le := (· ≤ ·)) (fun a b _ _ h1 h2 => Nat.le_antisymm h1 h2) (asc_le y) s ((asc_perm y).trans p)
theorem okW.back {w : List Nat} (h : okW w) : Pm.asc w.reverse = w := ascz_uniq (List.reverse_perm w) (by have := asc_le w; rwa [h.2.2.2.2] at this)
theorem diff_ok {z : List Nat} (h : okZ z) : diffB 46 z = true := by
  unfold diffB
  rw [decide_eq_true h.1, decide_eq_true h.2.2.2, Bool.true_and, Bool.true_and, List.all_eq_true]
  intro c m
  rcases h.2.2.1 c m with e | e
  · rw [decide_eq_true e]; rfl
  · rw [show decide (Let c) = true from decide_eq_true e, Bool.or_true]
theorem TabOk.put {T : Tab} {m n i j : Nat} {row : List (List Nat)} {z : List Nat} (g : TabOk T m n) (hj : T[j]? = some row) (hz : okW z) : TabOk (T.set j (row.set i z)) m n := by
  have mr : row ∈ T := List.mem_of_getElem? hj
  refine ⟨by rw [List.length_set]; exact g.h, fun r mm => ?_, g.m1, g.m8, g.n1, g.n8, fun r mm w mw => ?_⟩
  · rcases List.mem_or_eq_of_mem_set mm with mm | rfl
    · exact g.w r mm
    · rw [List.length_set]; exact g.w row mr
  · rcases List.mem_or_eq_of_mem_set mm with mm | rfl
    · exact g.ok r mm w mw
    · rcases List.mem_or_eq_of_mem_set mw with mw | rfl
      · exact g.ok row mr w mw
      · exact hz
theorem rowsV_set (r : List (List Nat)) (i : Nat) (z : List Nat) : (rowsV r).set i (.str (S z)) = rowsV (r.set i z) := by
  unfold rowsV
  rw [List.map_set]
section
variable {P : Program} {w : World} {K : PySem.W.Frag} {mg : Str → Option Value} {base : Heap} {CS CP : Addr}
/-! _are_allowed_signs -/
def spAlw : Sp := fun vs H Q _ => ∃ z, vs = [.str (S z)] ∧ z.length ≤ 1000 ∧ ∀ H', Same H H' → Q (.bl (diffB 46 z)) H'
theorem scAlw : FnScope ["signs"] ["signs"] (defScope gAreAllowedSigns) := ⟨rfl, rfl, rfl, by decide +kernel, rfl, by decide +kernel, by decide +kernel⟩
theorem ok_alw {f g : Addr} {fd gd : FuncData} (F : Fun K "_are_allowed_signs" "_are_allowed_signs" gAreAllowedSigns f fd) (G : Cl P w K mg base CX0 2 "are_different_signs" ["signs", "besides"] spDiff g gd) (T : PTxt K mg CP) : FnOk P w K mg base CX0 3 f fd ["signs"] spAlw := by
  refine F.ok scAlw (fun vs H Q E h => ?_) (fun cdv A outer s H vs Q E hr h => ?_)
  · obtain ⟨z, rfl, _⟩ := h
    rfl
  · obtain ⟨z, rfl, few, k⟩ := h
    obtain ⟨mc, crd, ⟨uh, hH⟩, _⟩ := T.cr
    refine ⟨_, pss_one (ps_ret (pe_call G.ok hr (by rfl) G.gl G.kp G.bd .nil pass0 (pa_cons (pv 0) (pa_cons (ClX.pe_cval (pe_glob (v := .ref CP) (by rfl) T.gC rfl)) pa_nil)))), ?_⟩
    refine ⟨_, rfl, CP, mc, _, uh, rfl, crd, hH, ?_⟩
    exact ⟨z, 46, by rw [show (S [46] : Str) = "." from by decide +kernel]; rfl, few, fun H' sH => k H' sH⟩
/-! allow -/
def spAllow (CS : Addr) : Sp := fun vs H Q _ => ∃ x a R T m n, ∃ i j : Nat, ∃ z row r, vs = [.ref x, .int i, .int j, .str (S z)] ∧ SkAt CS H x a R T m n ∧ TabOk T m n ∧ i < m ∧ okZ z ∧ R[j]? = some r ∧ T[j]? = some row ∧
  ∀ H', SameBut r H H' → H' r = some (.lst (rowsV (row.set i (asc z)))) → Q .non H'
abbrev nAllow : List Str := ["self", "x", "y", "signs"]
theorem scAllow : FnScope nAllow nAllow (defScope cSketchAllow) := ⟨rfl, rfl, rfl, by decide +kernel, rfl, by decide +kernel, by decide +kernel⟩
theorem ok_allow {f fC a1 a2 : Addr} {fd dC b1 b2 : FuncData} (F : Fun K "allow" "Sketch.allow" cSketchAllow f fd) (T : Kls K mg CS) (OC : FnOk P w K mg base CX0 1 fC dC nSkChk (spG K (gSkChk CS))) (mC : Meth K CS "_check_cell" fC) (bC : Binds K dC nSkChk [])
    (cAl : Cl P w K mg base CX0 3 "_are_allowed_signs" ["signs"] spAlw a1 b1) (cAs : Cl P w K mg base CX0 1 "in_ascii_order" ["signs"] spAsc a2 b2) : FnOk P w K mg base CX0 4 f fd nAllow (spAllow CS) := by
  refine F.ok scAllow (fun vs H Q E h => ?_) (fun cdv A outer s H vs Q E hr h => ?_)
  · obtain ⟨x, a, R, T0, m, n, i, j, z, row, r, rfl, _⟩ := h
    rfl
  · obtain ⟨x, a, R, T0, m, n, i, j, z, row, r, rfl, hs, g, hi, hz, hr0, hrow, k⟩ := h
    have hr1 : Room 1 _ := hr.mono (by decide)
    have hj : j < n := by
      have := (List.getElem?_eq_some_iff.mp hrow).1
      rwa [g.h] at this
    refine ⟨_, pss_cons (ps_expr (pe_meth (pv 0) T.cl mC OC hr1 bC .nil pass0 (pa_cons (pv 1) (pa_cons (pv 2) pa_nil))))
      (pss_cons (ps_if (pt_not (pt_val (pe_call cAl.ok hr (by rfl) cAl.gl cAl.kp cAl.bd .nil pass0 (pa_cons (pv 3) pa_nil)))) (PSs.when (p := False) (t := fun _ _ _ => True) fun z => z.elim) pss_nil)
      (pss_one (ps_asg (pe_call cAs.ok hr1 (by rfl) cAs.gl cAs.kp cAs.bd .nil pass0 (pa_cons (pv 3) pa_nil)) (pg_sub (pe_ix ix_list (pe_fld (pv 0) rfl) (pv 2) (fun _ _ => rfl)) (pv 1) set_list)))), ?_⟩
    obtain ⟨dx, ho⟩ := hs.o
    refine ⟨_, rfl, x, dx, _, rfl, ho, rfl, _, rfl, _, rfl, _, _, ⟨T0, m, n, i, j, g, hi, hj, rfl, rfl⟩, H, Same.refl H, .cons hs.rep (.cons (.int _) (.cons (.int _) .nil)), fun v H1 H1' g1 s1 r1 => ?_⟩
    have sH : Same H H1' := g1.h
    refine ⟨_, rfl, z, rfl, by have := hz.2.1; omega, fun H2 s2 => ⟨_, rfl, iteFe (by rw [diff_ok hz]; rfl) ?_⟩⟩
    refine ⟨_, rfl, z, rfl, by have := hz.2.1; omega, fun H3 s3 => ?_⟩
    have s3' : Same H H3 := (sH.trans s2).trans s3
    have t3 := hs.t.up s3'
    have hR := t3.2.2 j r row hr0 hrow
    refine ⟨_, rfl, x, CS, dx, _, _, rfl, s3' _ _ ho, T.cl, T.nR, rfl, _, rfl, a, _, (j : Int), _, rfl, rfl, SqL.of t3.1, atI_nat (by rw [List.getElem?_map, hr0]; rfl), _, rfl, r, rowsV row, (i : Int), i, rfl, rfl, hR, ?_, ?_⟩
    · have li : i < (rowsV row).length := by rw [rowsV_len, g.w row (List.mem_of_getElem? hrow)]; exact hi
      exact ixN_nat li
    · rw [rowsV_set]
      exact k _ (fun b o ne e => by rw [upd_ne ne]; exact s3' _ _ e) upd_same
end
end Pm
/-! ### Sketch.__init__ -/
namespace Pm
open PySem PySem.Spec PyProof.Rows L2 SX Tr
theorem flat_rep (k : Nat) (v : V) : (List.replicate k [v]).flatten = List.replicate k v := by
  induction k with
  | zero => rfl
  | succ k ih => rw [List.replicate_succ, List.replicate_succ, List.flatten_cons, ih]; rfl
/-- a size between 1 and 8 -/
theorem pt_size {X : Cx} {i : Nat} {e : Expr} {j : Nat} {uM : Value} {p1 p2 pos : Pos} (he : PE X e (tVar i)) (hg : Gl X "MOST") (hM : X.mg "MOST" = some uM) (rM : RelV (.int 8) uM)
    (hm : lastMarks [.LtE, .LtE] [e, .Name "MOST" p2] = false := by with_unfolding_all rfl) : PT X (.Compare (.Constant (.int 1) j p1) [.LtE, .LtE] [e, .Name "MOST" p2] pos) (fun σ H Q => ∃ m : Int, σ[i]? = some (some (.int m)) ∧ Q (decide (1 ≤ m) && decide (m ≤ 8)) H) :=
  PT.weak (pt_chain op_le op_le pe_int he (pe_glob hg hM rM) hm) fun σ H Q ⟨m, e, q⟩ => ⟨_, e, _, _, rfl, rfl, _, rfl, by
    by_cases h : 1 ≤ m
    · rw [if_pos (decide_eq_true h)]
      refine ⟨_, _, rfl, rfl, _, rfl, ?_⟩
      rw [decide_eq_true h, Bool.true_and] at q
      exact q
    · rw [if_neg (by rw [decide_eq_false h]; decide)]
      rw [decide_eq_false h, Bool.false_and] at q
      exact ⟨_, rfl, q⟩⟩
abbrev fullT (m n : Nat) : Tab := List.replicate n (List.replicate m anyL)
/-- a new table: none of it was there -/
def NewT (H : Hp) (a : Addr) (R : List Addr) : Prop := (a :: R).Nodup ∧ ∀ b ∈ a :: R, H b = none
/-! #### a table that grows row by row -/
def PvT (H1 : Hp) (D : Addr) (T : Tab) (i : Nat) (G : Hp) : Prop := ∃ R : List Addr, R.length = i ∧ Same H1 G ∧ G D = some (.lst (R.map V.ref)) ∧ (D :: R).Nodup ∧ (∀ b ∈ D :: R, H1 b = none) ∧ ∀ (j : Nat) (r : Addr) (z : List (List Nat)), R[j]? = some r → T[j]? = some z → G r = some (.lst (rowsV z))
theorem pvT0 {H1 : Hp} {D : Addr} {T : Tab} (n : H1 D = none) : PvT H1 D T 0 (upd H1 D (.lst [])) :=
  ⟨[], rfl, sup n, upd_same, List.nodup_cons.mpr ⟨by simp, List.nodup_nil⟩, fun b m => by rw [List.mem_singleton.mp m]; exact n, fun j r z e => nomatch e⟩
theorem pvTS {H1 G G' : Hp} {D p : Addr} {T : Tab} {i : Nat} {z : List (List Nat)} (h : PvT H1 D T i G) (li : i < 1000) (hz : T[i]? = some z) (s : Same G G') (np : G p = none) (hp : G' p = some (.lst (rowsV z))) :
    ∃ acc, G' D = some (.lst acc) ∧ acc.length < sizeLine ∧ PvT H1 D T (i + 1) (upd G' D (.lst (acc ++ [.ref p]))) := by
  obtain ⟨R, lR, s0, hD, nd, fr, each⟩ := h
  have pD : p ≠ D := fun y => by rw [y, hD] at np; cases np
  have pR : p ∉ R := fun m => by
    obtain ⟨j, lj, e⟩ := List.getElem_of_mem m
    cases ej : T[j]? with
    | none =>
      have h1 := List.getElem?_eq_none_iff.mp ej
      have h2 := (List.getElem?_eq_some_iff.mp hz).1
      omega
    | some y =>
      have := each j p y (List.getElem?_eq_some_iff.mpr ⟨lj, e⟩) ej
      rw [np] at this
      cases this
  refine ⟨_, s _ _ hD, by rw [List.length_map, lR]; exact Nat.lt_of_lt_of_le li (by decide), R ++ [p], by rw [List.length_append, lR]; rfl, fun b o e => ?_, ?_, ?_, fun b m => ?_, fun j r y e1 e2 => ?_⟩
  · rw [upd_ne (fun y => by rw [y, fr D List.mem_cons_self] at e; cases e)]
    exact s _ _ (s0 _ _ e)
  · rw [upd_same, List.map_append]
    rfl
  · have n1 := List.nodup_cons.mp nd
    refine List.nodup_cons.mpr ⟨fun m => ?_, ?_⟩
    · rcases List.mem_append.mp m with m | m
      · exact n1.1 m
      · exact pD (List.mem_singleton.mp m).symm
    · rw [List.nodup_append]
      exact ⟨n1.2, by simp, fun a ma b mb y => by rw [List.mem_singleton.mp mb] at y; exact pR (y ▸ ma)⟩
  · rcases List.mem_cons.mp m with y | m
    · rw [y]; exact fr D List.mem_cons_self
    · rcases List.mem_append.mp m with m | m
      · exact fr b (List.mem_cons_of_mem _ m)
      · rw [List.mem_singleton.mp m]
        cases q : H1 p with
        | none => rfl
        | some o =>
          have := s0 _ _ q
          rw [np] at this
          cases this
  · by_cases lj : j < R.length
    · rw [List.getElem?_append_left lj] at e1
      have hr := each j r y e1 e2
      rw [upd_ne (fun q => by
        have := (List.nodup_cons.mp nd).1
        exact this (q ▸ List.mem_of_getElem? e1))]
      exact s _ _ hr
    · rw [List.getElem?_append_right (by omega)] at e1
      have ej : j - R.length = 0 := by
        have := (List.getElem?_eq_some_iff.mp e1).1
        simp at this
        omega
      rw [ej] at e1
      cases e1
      have : j = i := by omega
      subst this
      rw [hz] at e2
      cases e2
      rw [upd_ne pD]
      exact hp
theorem pvTD {H1 G : Hp} {D : Addr} {T : Tab} (h : PvT H1 D T T.length G) : ∃ R, TabAt G D R T ∧ NewT H1 D R ∧ Same H1 G := by
  obtain ⟨R, lR, s0, hD, nd, fr, each⟩ := h
  exact ⟨R, ⟨hD, lR, each⟩, ⟨nd, fr⟩, s0⟩
/-- what a row's comprehension asks -/
def tFullRow (K : PySem.W.Frag) (CS : Addr) : TE := fun σ H Q => ∃ x dx fs, ∃ m : Nat, ∃ uA, σ[0]? = some (some (.ref x)) ∧ σ[1]? = some (some (.int m)) ∧ H x = some (.ins CS dx fs) ∧ L2.Cls K CS ∧ Con K CS "ANY" (.str ".abcdefghijklmnopqrstuvwxyz") uA ∧ fs.lookup ("ANY" : Str) = none ∧ m ≤ 8 ∧
  ∀ H' p, Same H H' → H p = none → H' p = some (.lst (rowsV (List.replicate m anyL))) → Q (.ref p) H'
theorem rowsV_full (m : Nat) : rowsV (List.replicate m anyL) = List.replicate m (.str ".abcdefghijklmnopqrstuvwxyz") := by
  unfold rowsV
  rw [List.map_replicate, S_any]
theorem pe_fullRow {X : Cx} {eS eW : Expr} {p1 p2 p3 : Pos} {CS : Addr} (hS : PE X eS (tVar 0)) (hW : PE X eW (tVar 1)) (hb : attributeBase eS "ANY" X.env (eval eS X.env) = eval eS X.env) (hs : starEach [.Attribute eS "ANY" p1] X.env = [(false, eval (.Attribute eS "ANY" p1) X.env)] := by rfl) :
    PE X (.BinOp (.List [.Attribute eS "ANY" p1] p2) .Mult eW p3) (tFullRow X.K CS) :=
  PE.weak (pe_op op_rep (pe_lst (pa_cons (pe_con hS hb) pa_nil hs)) hW) fun σ H Q ⟨x, dx, fs, m, uA, e0, e1, hx, cl, cA, nf, m8, k⟩ => by
    refine ⟨_, e0, x, CS, dx, fs, _, uA, rfl, hx, cl, cA, nf, ?_⟩
    refine ⟨by show 1 ≤ _; decide, fun l nl => ⟨_, e1, l, (m : Int), _, rfl, rfl, upd_same, by omega, by omega, ?_, fun p np => ?_⟩⟩
    · show 1 * (m : Int).toNat ≤ sizeLine
      have : (m : Int).toNat = m := rfl
      rw [this, Nat.one_mul]
      exact Nat.le_trans m8 (by decide)
    · refine k _ p (fun b o e => ?_) ?_ ?_
      · have nb : b ≠ l := ne_of_none e nl
        have np' : b ≠ p := fun y => by rw [← y, upd_ne nb] at np; rw [np] at e; cases e
        rw [upd_ne np', upd_ne nb]
        exact e
      · by_cases y : p = l
        · rw [y]; exact nl
        · rwa [upd_ne y] at np
      · rw [upd_same, rowsV_full]
        rw [show (List.replicate (m : Int).toNat [V.str ".abcdefghijklmnopqrstuvwxyz"]).flatten = List.replicate m (.str ".abcdefghijklmnopqrstuvwxyz") from flat_rep m _]
section
variable {P : Program} {w : World} {K : PySem.W.Frag} {mg : Str → Option Value} {base : Heap} {CS CP : Addr}
def spSkInit (CS : Addr) : Sp := fun vs H Q _ => ∃ x dx, ∃ m n : Nat, ∃ rows, vs = [.ref x, .int m, .int n, rows] ∧ H x = some (.ins CS dx []) ∧ 1 ≤ m ∧ m ≤ 8 ∧ 1 ≤ n ∧ n ≤ 8 ∧
  ((rows = .non ∧ ∀ H' a R, SameBut x H H' → H' x = some (skO CS dx m n a) → TabAt H' a R (fullT m n) → NewT H a R → Q .non H') ∨ ∃ a, rows = .ref a ∧ ∀ H', SameBut x H H' → H' x = some (skO CS dx m n a) → Q .non H')
abbrev nSkInit : List Str := ["self", "width", "height", "_rows", "_"]
theorem scSkInit : FnScope nSkInit ["self", "width", "height", "_rows"] (defScope cSketchInit) := ⟨rfl, rfl, rfl, by decide +kernel, rfl, by decide +kernel, by decide +kernel⟩
theorem ok_skInit {f : Addr} {fd : FuncData} (F : FunD K "__init__" "Sketch.__init__" (defArgs cSketchInit) (defBody cSketchInit) (defScope cSketchInit) [] [("_rows", .non)] f fd) (L : LTxt K mg) (TP : PTxt K mg CP) (T : Kls K mg CS) : FnOk P w K mg base CX0 1 f fd ["self", "width", "height", "_rows"] (spSkInit CS) := by
  refine F.ok (CX := CX0) scSkInit (fun vs H Q E h => ?_) (fun cdv A outer s H vs Q E hr h => ?_)
  · obtain ⟨x, dx, m, n, rows, rfl, _⟩ := h
    rfl
  · obtain ⟨x, dx, m, n, rows, rfl, hx, m1, m8, n1, n8, k⟩ := h
    obtain ⟨uM, hM, rM⟩ := TP.most
    obtain ⟨uA, cA⟩ := T.any
    refine ⟨_, pss_cons (ps_if (PW.pt (pw_or (pt_not (pt_size (pv 1) (by rfl) hM rM)) (pw_or1 (pt_not (pt_size (pv 2) (by rfl) hM rM))))) (PSs.when (p := False) (t := fun _ _ _ => True) fun z => z.elim) pss_nil)
      (pss_cons (ps_fld (pv 0) (pv 1) rfl)
      (pss_cons (ps_fld (pv 0) (pv 2) rfl)
      (pss_one (ps_fld (pv 0) (pe_ifExp (pt_cmpR op_isN (pv 3) pe_non (nomark _)) (pe_lc (te := tFullRow K CS) (own := [("_", 4)]) (g := gName 4) (tt := tYes) rfl scSkInit.nd (pi_range1 (by rfl) L.rng (pa_cons (pv 2) pa_nil)) (blkOk_by (own := [("_", 4)]) (N := nSkInit) (sc := defScope cSketchInit) (by decide +kernel)) (fun _ _ _ _ _ => pg_name (i := 4) scSkInit.nd rfl (.inl rfl)) (fun _ _ _ _ _ => pts_nil) (fun _ _ _ _ _ => pe_fullRow (pv 0) (pv 1) rfl)) (pv 3)) rfl)))), ?_⟩
    refine ⟨(m : Int), rfl, ?_⟩
    have t1 : (decide (1 ≤ (m : Int)) && decide ((m : Int) ≤ 8)) = true := by rw [decide_eq_true (by omega), decide_eq_true (by omega)]; rfl
    have t2 : (decide (1 ≤ (n : Int)) && decide ((n : Int) ≤ 8)) = true := by rw [decide_eq_true (by omega), decide_eq_true (by omega)]; rfl
    rw [t1]
    refine ⟨(n : Int), rfl, ?_⟩
    rw [t2]
    refine ⟨_, rfl, _, rfl, x, CS, dx, [], rfl, hx, T.cl, T.nW, by show 0 < 1000; decide, ?_⟩
    refine ⟨_, rfl, _, rfl, x, CS, dx, _, rfl, upd_same, T.cl, T.nH, by show 1 < 1000; decide, ?_⟩
    have hx2 : (upd (upd H x (HO.ins CS dx (putF "width" (V.int m) []))) x (HO.ins CS dx (putF "height" (V.int n) (putF "width" (V.int m) [])))) x = some (.ins CS dx [("width", .int m), ("height", .int n)]) := upd_same
    have hb2 : ∀ b o, b ≠ x → H b = some o → (upd (upd H x (HO.ins CS dx (putF "width" (V.int m) []))) x (HO.ins CS dx (putF "height" (V.int n) (putF "width" (V.int m) [])))) b = some o := fun b o nb e => by rw [upd_ne nb, upd_ne nb]; exact e
    have hn2 : ∀ b, (upd (upd H x (HO.ins CS dx (putF "width" (V.int m) []))) x (HO.ins CS dx (putF "height" (V.int n) (putF "width" (V.int m) [])))) b = none → b ≠ x ∧ H b = none := fun b e => by
      have nb : b ≠ x := fun y => by rw [y, upd_same] at e; cases e
      rw [upd_ne nb, upd_ne nb] at e
      exact ⟨nb, e⟩
    revert hx2 hb2 hn2
    generalize (upd (upd H x (HO.ins CS dx (putF "width" (V.int m) []))) x (HO.ins CS dx (putF "height" (V.int n) (putF "width" (V.int m) [])))) = H2
    intro hx2 hb2 hn2
    rcases k with ⟨rfl, k⟩ | ⟨a, rfl, k⟩
    · refine ⟨_, rfl, rfl, _, rfl, iteTe (decide_eq_true rfl) ?_⟩
      refine ⟨_, rfl, (n : Int), rfl, by omega, by omega, fun D nD => ?_⟩
      refine lc_range (lo := 0) (n := (n : Int).toNat) (PvT H2 D (fullT m n)) (pvT0 nD) (fun i G hi pv => ?_) (fun G pv => ?_)
      · have hi : i < n := hi
        refine ⟨rfl, tyes (iteT ?_)⟩
        have s0 : Same H2 G := pv.choose_spec.2.1
        refine ⟨x, dx, _, m, uA, rfl, rfl, s0 _ _ hx2, T.cl, cA, rfl, m8, fun G' p sG np hp => ?_⟩
        exact pvTS pv (by omega) (List.getElem?_replicate_of_lt hi) sG np hp
      · have pv : PvT H2 D (fullT m n) (fullT m n).length G := by rw [List.length_replicate]; exact pv
        obtain ⟨R, tT, nw, s0⟩ := pvTD pv
        refine ⟨_, rfl, x, CS, dx, _, rfl, s0 _ _ hx2, T.cl, T.nR, by show 2 < 1000; decide, ?_⟩
        have nx : ∀ b ∈ D :: R, b ≠ x := fun b mb => (hn2 b (nw.2 b mb)).1
        exact k _ D R (fun b o nb e => by rw [upd_ne nb]; exact s0 _ _ (hb2 b o nb e)) upd_same (tT.keep fun b o mb e => by rw [upd_ne (nx b mb)]; exact e) ⟨nw.1, fun b mb => (hn2 b (nw.2 b mb)).2⟩
    · refine ⟨_, rfl, rfl, _, rfl, iteFe (decide_eq_false (by simp)) ?_⟩
      refine ⟨_, rfl, _, rfl, x, CS, dx, _, rfl, hx2, T.cl, T.nR, by show 2 < 1000; decide, ?_⟩
      exact k _ (fun b o nb e => by rw [upd_ne nb]; exact hb2 b o nb e) upd_same
end
end Pm
/-! ### copies -/
namespace Pm
open PySem PySem.Spec PyProof.Rows L2 SX Tr
abbrev nIn4 : List Str := ["self", "width", "height", "_rows"]
structure MkS (P : Program) (w : World) (K : PySem.W.Frag) (mg : Str → Option Value) (base : Heap) (CS fI : Addr) (dI : FuncData) (ds : List Value) : Prop where
  mkk : Mk K CS fI
  OI : FnOk P w K mg base CX0 1 fI dI nIn4 (spSkInit CS)
  kb : KBn K dI nIn4 3 ["_rows"] (fun us ws => us ++ ws) (fun vs zs => vs ++ zs)
  bd : Binds K dI nIn4 ds
  dv : Vals [V.non] ds
/-- a list's copy, the list in slot i -/
def tListOf (i : Nat) : TE := fun σ H Q => ∃ r z, σ[i]? = some (some (.ref r)) ∧ H r = some (.lst (rowsV z)) ∧ ∀ H' p, Same H H' → H p = none → H' p = some (.lst (rowsV z)) → Q (.ref p) H'
theorem pe_listOf {X : Cx} {i : Nat} {e : Expr} {p pos : Pos} (he : PE X e (tVar i)) (hg : Gl X "list") (hm : X.mg "list" = none) (hs : starEach [e] X.env = [(false, eval e X.env)] := by rfl) : PE X (.Call (.Name "list" p) [e] [] pos) (tListOf i) :=
  PE.weak (pe_callTy call_list_of hg hm (by decide +kernel) (pa_cons he pa_nil hs) (by decide) (by decide) hs (by rfl)) fun σ H Q ⟨r, z, e, h, k⟩ =>
    ⟨_, e, r, _, rfl, .inl (SqL.of h), fun p np => k _ p (fun b o e => by rw [upd_ne (ne_of_none e np)]; exact e) np upd_same⟩
section
variable {P : Program} {w : World} {K : PySem.W.Frag} {mg : Str → Option Value} {base : Heap} {CS CP : Addr}
def NewSk (H : Hp) (x a : Addr) (R : List Addr) : Prop := (x :: a :: R).Nodup ∧ ∀ b ∈ x :: a :: R, H b = none
def spCopy (CS : Addr) : Sp := fun vs H Q _ => ∃ x a R T m n, vs = [.ref x] ∧ SkAt CS H x a R T m n ∧ TabOk T m n ∧ ∀ H' y a' R', Same H H' → SkAt CS H' y a' R' T m n → NewSk H y a' R' → Q (.ref y) H'
/-- a sketch made of new rows -/
theorem made_new {H H1 : Hp} {D x dx : Addr} {R : List Addr} {T : Tab} {m n : Nat} (s0 : Same H H1) (tT : TabAt H1 D R T) (nw : NewT H D R) (nx : H1 x = none) (nd : H1 dx = none) (ne : dx ≠ x) {H' : Hp} (s : SameBut x (upd (upd H1 dx (.own x)) x (.ins CS dx [])) H') (hx : H' x = some (skO CS dx m n D)) : Same H H' ∧ SkAt CS H' x D R T m n ∧ NewSk H x D R := by
  have up1 : Same H1 H' := fun b o e => s b o (ne_of_none e nx) (by rw [upd_ne (ne_of_none e nx), upd_ne (ne_of_none e nd)]; exact e)
  refine ⟨s0.trans up1, ⟨⟨dx, hx⟩, tT.up up1⟩, List.nodup_cons.mpr ⟨fun mm => ?_, nw.1⟩, fun b mb => ?_⟩
  · have : ∃ o, H1 x = some o := by
      rcases List.mem_cons.mp mm with e | mR
      · rw [e]; exact ⟨_, tT.1⟩
      · obtain ⟨j, lj, e⟩ := List.getElem_of_mem mR
        have l2 : j < T.length := by rw [← tT.2.1]; exact lj
        exact ⟨_, tT.2.2 j x _ (List.getElem?_eq_some_iff.mpr ⟨lj, e⟩) (List.getElem?_eq_getElem l2)⟩
    obtain ⟨o, e⟩ := this
    rw [nx] at e
    cases e
  · rcases List.mem_cons.mp mb with e | mR
    · rw [e]
      cases q : H x with
      | none => rfl
      | some o => rw [s0 _ _ q] at nx; cases nx
    · exact nw.2 b mR
end
end Pm
/-! ### tables and sketches compared -/
namespace Pm
open PySem PySem.Spec PyProof.Rows L2 SX Tr
def LowT (T : Tab) : Prop := ∀ r ∈ T, Low r
theorem TabOk.low {T : Tab} {m n : Nat} (g : TabOk T m n) : LowT T := fun r mr z mz c mc => by
  rcases (g.ok r mr z mz).2.2.1 c mc with e | e <;> omega
def dT (T : Tab) : List PyData := T.map fun r => .list (r.map dR)
theorem dT_depth : ∀ T : Tab, PyData.depthAll (dT T) ≤ 8
  | [] => by simp [dT, PyData.depthAll]
  | r :: T => by
    have z := dRs_depth r
    have y := dT_depth T
    unfold dT at y ⊢
    simp [PyData.depthAll, PyData.depth]
    omega
theorem dT_lay : ∀ {T : Tab}, LowT T → PyData.canLayAll0 (dT T) = true
  | [], _ => by simp [dT, PyData.canLayAll0]
  | r :: T, h => by
    have z := dRs_lay (h r List.mem_cons_self)
    have y := dT_lay fun q m => h q (List.mem_cons_of_mem _ m)
    unfold dT at y ⊢
    simp [PyData.canLayAll0, PyData.canLay0, z, y]
theorem dT_shaped {T : Tab} (h : LowT T) : SeqAt.shaped (.list (dT T)) = true := by
  have z := dT_depth T
  have y := dT_lay h
  simp [SeqAt.shaped, PyData.canLay0, PyData.depth, y]
  omega
theorem dT_eqvAll : ∀ M N : Tab, PyData.eqvAll (dT M) (dT N) = decide (M = N)
  | [], N => by cases N <;> simp [dT, PyData.eqvAll]
  | r :: M, [] => by simp [dT, PyData.eqvAll]
  | r :: M, q :: N => by
    show (PyData.eqv (.list (r.map dR)) (.list (q.map dR)) && PyData.eqvAll (dT M) (dT N)) = _
    rw [dRs_eqv, dT_eqvAll M N]
    simp
theorem dT_eqv (M N : Tab) : PyData.eqv (.list (dT M)) (.list (dT N)) = decide (M = N) := by
  simp [PyData.eqv, dT_eqvAll]
theorem dp_tabs {K : PySem.W.Frag} {H : Hp} : ∀ {R : List Addr} {T : Tab}, R.length = T.length → (∀ (j : Nat) (r : Addr) (z : List (List Nat)), R[j]? = some r → T[j]? = some z → H r = some (.lst (rowsV z))) → DpAll K H (R.map V.ref) (dT T)
  | [], [], _, _ => .nil
  | r :: R, z :: T, l, h => .cons (dp_list (h 0 r z rfl rfl)) (dp_tabs (by simpa using l) fun j r' z' e1 e2 => h (j + 1) r' z' (by simpa using e1) (by simpa using e2))
theorem TabAt.dp {K : PySem.W.Frag} {H : Hp} {a : Addr} {R : List Addr} {T : Tab} (h : TabAt H a R T) : Dp K H (.ref a) (.list (dT T)) := .lst (SqL.of h.1) (dp_tabs h.2.1 h.2.2)
structure NotT (K : PySem.W.Frag) (C : Addr) (T : String) : Prop where
  ic : PySem.W.isClsIn K C = true
  ty : PySem.W.typeIn K (.ref C) = some (.type "type")
  sub : PySem.W.subIn K (.type T) (.ref C) = some false
theorem NotT.kit {K : PySem.W.Frag} {C : Addr} {T : String} (n : NotT K C T) : PySem.W.kitOne K (.type T) (.ref C) = some false := by
  unfold PySem.W.kitOne
  rw [if_neg (by simp)]
  show (if ((PySem.W.clsIn K C).isSome && PySem.W.typeIn K (.ref C) == some (.type "type")) = true then PySem.W.subIn K (.type T) (.ref C) else none) = some false
  rw [if_pos (by rw [show (PySem.W.clsIn K C).isSome = true from n.ic, n.ty]; rfl)]
  exact n.sub
/-- what the text says further of the class of sketches -/
structure SKit (K : PySem.W.Frag) (CS : Addr) : Prop where
  ca : PySem.W.findIn K (.ref CS) "__class__" = some (some (.builtin "object.__class__"))
  cn : PySem.W.specialIn K (.builtin "object.__class__") "__get__" = some (some (.builtin "getset_descriptor.__get__"))
  ct : PySem.W.takesIn K (.builtin "object.__class__") = some true
  cm : PySem.W.mroIn K CS (.type "object") = some true
  kk : PySem.W.kitOne K (.ref CS) (.ref CS) = some true
  nl : NotT K CS "list"
  ns : NotT K CS "str"
section
variable {P : Program} {w : World} {K : PySem.W.Frag} {mg : Str → Option Value} {base : Heap} {CS : Addr}
theorem SkAt.ty {H : Hp} {x a : Addr} {R : List Addr} {T : Tab} {m n : Nat} (Y : SKit K CS) (T0 : Kls K mg CS) (h : SkAt CS H x a R T m n) : TyX K H (.ref x) (.ref CS) := by
  obtain ⟨dx, e⟩ := h.o
  exact .base (.ins e T0.cl Y.ca Y.cn Y.ct Y.cm)
/-- the other thing: a sketch, a list, a text -/
def Oth (CS : Addr) (H : Hp) (T : Tab) (y : V) (b : Bool) : Prop := (∃ q a R T2 m n, y = .ref q ∧ SkAt CS H q a R T2 m n ∧ LowT T2 ∧ b = decide (T = T2)) ∨ (∃ q xs, y = .ref q ∧ H q = some (.lst xs) ∧ b = false) ∨ ∃ z, y = .str z ∧ b = false
def spSkEq (CS : Addr) : Sp := fun vs H Q _ => ∃ x a R T m n y b, vs = [.ref x, y] ∧ SkAt CS H x a R T m n ∧ LowT T ∧ Oth CS H T y b ∧ Q (.bl b) H
theorem scSkEq : FnScope ["self", "other"] ["self", "other"] (defScope cSketchEq) := ⟨rfl, rfl, rfl, by decide +kernel, rfl, by decide +kernel, by decide +kernel⟩
theorem ok_skEq {f : Addr} {fd : FuncData} (F : Fun K "__eq__" "Sketch.__eq__" cSketchEq f fd) (L : LTxt K mg) (T : Kls K mg CS) (Y : SKit K CS) : FnOk P w K mg base CX0 1 f fd ["self", "other"] (spSkEq CS) := by
  refine F.ok scSkEq (fun vs H Q E h => ?_) (fun cdv A outer s H vs Q E hr h => ?_)
  · obtain ⟨x, a, R, T0, m, n, y, b, rfl, _⟩ := h
    rfl
  · obtain ⟨x, a, R, T0, m, n, y, b, rfl, hs, lo, ho, k⟩ := h
    refine ⟨_, pss_one (ps_ret (pe_and (pe_callB call_isi (by rfl) L.isi (by decide +kernel) (pa_cons (pv 1) (pa_cons (pe_glob (v := .ref CS) (by rfl) T.gS rfl) pa_nil)))
      (pe_one (pe_cmpR (op_eqD hr.units) (pe_fld (pv 0) rfl) (pe_fld (pv 1) rfl) (nomark _))))), ?_⟩
    rcases ho with ⟨q, a2, R2, T2, m2, n2, rfl, hs2, lo2, rfl⟩ | ⟨q, xs, rfl, hq, rfl⟩ | ⟨z, rfl, rfl⟩
    · refine ⟨_, rfl, .ref q, .ref CS, .ref CS, .ref CS, true, rfl, .own CS, hs2.ty Y T, Y.kk, true, rfl, ?_⟩
      obtain ⟨dx, h1⟩ := hs.o
      obtain ⟨dy, h3⟩ := hs2.o
      refine ⟨_, rfl, x, CS, dx, _, _, rfl, h1, T.cl, T.nR, rfl, _, rfl, q, CS, dy, _, _, rfl, h3, T.cl, T.nR, rfl, _, _, hs.t.dp, hs2.t.dp, dT_shaped lo, dT_shaped lo2, ?_⟩
      rw [dT_eqv]
      exact k
    · exact ⟨_, rfl, .ref q, .ref CS, .type "list", .ref CS, false, rfl, .own CS, .base (.lst hq), Y.nl.kit, false, rfl, k⟩
    · exact ⟨_, rfl, .str z, .ref CS, .type "str", .ref CS, false, rfl, .own CS, .base (.str _), Y.ns.kit, false, rfl, k⟩
end
/-! sketch == e -/
section
variable {X : Cx} {CS f : Addr} {fd : FuncData} {k : Nat}
def rSkEq (CS : Addr) : R2 := fun x y H Q => ∃ q a R T m n b, x = .ref q ∧ SkAt CS H q a R T m n ∧ LowT T ∧ Oth CS H T y b ∧ Q (.bl b) H
theorem op_skEq (O : FnOk X.prog X.w X.K X.mg X.base CX0 k f fd ["self", "other"] (spSkEq CS)) (hr : Room k X.A) (b : Binds X.K fd ["self", "other"] []) (m : OwnM X.K CS "__eq__" f) (Y : SKit X.K CS) : OpR X (compareOp .Eq) (rSkEq CS) := by
  intro pins s σ H x y v u Q I rx ry h
  obtain ⟨q, a, R, T, mm0, n, bb, rfl, hs, lo, ho, go⟩ := h
  obtain rfl : v = Value.ref q := rx
  obtain ⟨dx, h1⟩ := hs.o
  obtain ⟨mA, J, _⟩ := ins_get I.hok h1
  obtain ⟨od, J, _⟩ := J.look
  obtain ⟨mm, hF⟩ := I.fr
  have hu := hr.un
  have fin : ∀ {tb : Value}, PySem.W.Looks (model X.prog X.w) s.heap (typeOf u) tb → PySem.W.notFirst X.K CS tb = true → wpAny (model X.prog X.w) X.A (compareOp .Eq (.ref q) u) (EP X pins σ Q) X.xe s := fun hb hn => by
    show wpAny _ _ (richCompare .Eq _ _) _ _ _
    refine PySem.W.cmp_K (op := .Eq) (by omega) hF I.ok.mod.kin J hb hn m.at_ m.fn ?_
    refine wpAny_mono (run_at (Q := fun v H' => v = .bl bb ∧ H' = H) (E := E0) (vs := [.ref q, y]) O hr rfl b pass0 I (.cons rfl (.cons ry .nil)) ⟨q, a, R, T, mm0, n, y, bb, rfl, hs, lo, ho, rfl, rfl⟩) (fun v s' z => ?_) fun _ _ z => z
    obtain ⟨v', H', I', rv, rfl, rfl⟩ := z
    cases rv
    exact ⟨.bl bb, H', I', rfl, go⟩
  rcases ho with ⟨q2, a2, R2, T2, m2, n2, rfl, hs2, lo2, rfl⟩ | ⟨q2, xs, rfl, hq, rfl⟩ | ⟨z, rfl, rfl⟩
  · obtain rfl : u = Value.ref q2 := ry
    obtain ⟨dy, h3⟩ := hs2.o
    obtain ⟨mA2, J2, _⟩ := ins_get I.hok h3
    obtain ⟨od2, J2, _⟩ := J2.look
    exact fin J2.type (by simp [PySem.W.notFirst])
  · obtain rfl : u = Value.ref q2 := ry
    obtain ⟨_, its, c, _, e⟩ := (show ObjOk X.prog X.w H s.heap q2 (.lst xs) from I.hok q2 _ hq)
    refine fin ((PySem.W.Looks.ld e).andThen .now) ?_
    show ((Value.type "list" == .ref CS) || (PySem.W.subIn X.K (.type "list") (.ref CS) == some false)) = true
    rw [Y.nl.sub]
    simp
  · obtain ⟨tk, rfl⟩ := ry
    refine fin (tb := .type "str") (PySem.W.Looks.of_pure rfl) ?_
    show ((Value.type "str" == .ref CS) || (PySem.W.subIn X.K (.type "str") (.ref CS) == some false)) = true
    rw [Y.ns.sub]
    simp
end
end Pm
/-! ### Sketch.read of good words -/
namespace Tr
open PySem PySem.Spec PyProof.Rows L2 SX
def enumD (ds : List D) : List D := ds.zipIdx.map fun p => .tup [.int ((p.2 : Int) + 1), p.1]
section
variable {X : Cx} {B : Hp × Hp} {Γ : Env} {e : Expr} {es : List Expr} {E : L2.St → XK}
theorem i_enum1 {tg : Expr} {tk : TA} {ds : List D} (ho : ∀ {t : TA}, PA X es t → PI X tg e (Pm.iEnS X.K t tk)) (hk : ∀ σ H Q, Q [.int 1] H → tk σ H Q) (h : OkA X B es Γ [.lst ds]) : OkI X B tg e Γ (enumD ds) := PI.weak (ho h) fun σ H R ⟨F, w, k⟩ => ⟨F, w, fun vs F1 H1 w1 g1 r1 => hk _ _ _ (by
  cases r1 with
  | cons r1 r2 =>
    cases r2
    cases r1 with
    | @lst a us _ h1 r1 =>
      refine ⟨a, us, rfl, rfl, tofl (w1.fh _ _ h1), k _ F1 H1 w1 g1 ⟨_, _, by rw [show (enumD ds).length = us.length from by unfold enumD; rw [List.length_map, List.length_zipIdx, r1.length]]; exact Pm.walkS (K := X.K) (a := a) (xs := us), fun F H s fh => tofl (fh _ _ (s _ _ h1)), fun i F H v H' d s fh hd y => ?_⟩⟩
      obtain ⟨T, x, rfl, nT, rfl, hx⟩ := y
      obtain ⟨d', hd', rx⟩ := r1.atV hx
      unfold enumD at hd
      rw [List.getElem?_map, List.getElem?_zipIdx, hd'] at hd
      cases hd
      have g := Gr.new (o := .tup [.int ((i : Int) + 1), x]) fh nT
      refine ⟨_, g, same_both fh, ?_⟩
      show Rep X.K _ (.ref T) (.tup [.int (((0 + i : Nat) : Int) + 1), d'])
      rw [Nat.zero_add]
      exact .tup upd_same (.cons (.int _) (.cons ((rx.mono s).mono g.f) .nil)))⟩
theorem rm_split {K : PySem.W.Frag} {u v : List Nat} {ws : List (List Nat)} (e : Txt.split (S u) (S v) = ws.map S) (n : v ≠ []) (l : u.length ≤ 100000) :
    RMT K (fun x xs H Q => ∃ a b, x = .str a ∧ xs = [.str b] ∧ (b.length == 0) = false ∧ a.length + 2 ≤ sizeLine ∧ rNewStrs (Txt.split a b) H Q) (.tx u) [.tx v] (.lst (ws.map D.tx)) := fun F H fh x vs rx r Q q => by
  cases rx
  cases r with
  | cons r1 r =>
    cases r
    cases r1
    refine ⟨S u, S v, rfl, rfl, ?_, ?_, fun p np => ?_⟩
    · rw [lenS]
      cases v with
      | nil => exact absurd rfl n
      | cons => rfl
    · rw [lenS]
      exact Nat.le_trans (Nat.add_le_add_right l 2) (by decide)
    · rw [e]
      have g := Gr.new (o := .lst ((ws.map S).map V.str)) fh np
      refine q _ _ _ g (same_both fh) (.lst upd_same ?_)
      have go : ∀ {G : Hp} (zs : List (List Nat)), Reps K G ((zs.map S).map V.str) (zs.map D.tx) := fun {G} zs => by
        induction zs with
        | nil => exact .nil
        | cons z zs ih => exact .cons (.str _) ih
      exact go ws
theorem rc_all {K : PySem.W.Frag} {bs : List Bool} : RCT K (rAll K) [.lst (bs.map D.bl)] (.bl (bs.all id)) := fun F H fh vs r Q q => by
  cases r with
  | cons r1 r =>
    cases r
    cases r1 with
    | @lst p us _ hp ru =>
      have e : us = bs.map V.bl := by
        clear hp q
        induction bs generalizing us with
        | nil => cases ru; rfl
        | cons b bs ih =>
          cases ru with
          | cons r1 r2 =>
            cases r1
            rw [ih r2]
            rfl
      subst e
      exact ⟨p, bs, rfl, SqL.of (fh _ _ hp), q _ F H (Gr.refl _ _) fh (.bl _)⟩
end
end Tr
namespace Pm
open PySem PySem.Spec PyProof.Rows L2 SX Tr
theorem cut_take (xs : List D) (t : Nat) : cutTr xs none (some (t : Int)) = xs.take t := by
  unfold cutTr
  rw [HT.sIx_none, HT.sIx_nat, List.drop_zero, Nat.sub_zero]
  rcases Nat.le_total t xs.length with h | h
  · rw [Nat.min_eq_left h]
  · rw [Nat.min_eq_right h, List.take_of_length_le (Nat.le_refl _), List.take_of_length_le h]
theorem as_alw {K : PySem.W.Frag} {z : List Nat} {vs : List V} {H : Hp} {Q : VK} {E : XK} (l : z.length ≤ 1000) (h : spT K [.tx z] (.bl (diffB 46 z)) vs H Q E) : spAlw vs H Q E := by
  obtain ⟨F, fh, r, k⟩ := h
  cases r with
  | cons r1 r =>
    cases r; cases r1
    exact ⟨z, rfl, l, fun H' s => k _ F H' ⟨Same.refl _, s, fun _ _ _ n => n⟩ (fh.trans s) (.bl _)⟩
/-- a word that names a cell's signs -/
def wordOk (w : List Nat) : Prop := w = [42] ∨ okZ w
def readW (w : List Nat) : List Nat := if w = [42] then anyL else asc w
theorem wordOk.len {w : List Nat} (h : wordOk w) : w.length ≤ 27 := by
  rcases h with rfl | h
  · show 1 ≤ 27
    decide
  · exact h.2.1
theorem any_ok : okW anyL := by
  refine ⟨by decide, by decide, by decide, by decide, ascz_uniq (List.Perm.refl _) (by decide)⟩
theorem readW_ok {w : List Nat} (h : wordOk w) : okW (readW w) := by
  unfold readW
  split
  · exact any_ok
  · rcases h with e | h
    · exact absurd e (by assumption)
    · exact h.asc
/-- the words of a text that is a sketch -/
structure WdsOk (T : Tab) (m n : Nat) : Prop where
  h : T.length = n
  w : ∀ r ∈ T, r.length = m
  m1 : 1 ≤ m
  m8 : m ≤ 8
  n1 : 1 ≤ n
  n8 : n ≤ 8
  ok : ∀ r ∈ T, ∀ w ∈ r, wordOk w
def readT (T : Tab) : Tab := T.map fun r => r.map readW
theorem WdsOk.tab {T : Tab} {m n : Nat} (g : WdsOk T m n) : TabOk (readT T) m n := by
  refine ⟨by unfold readT; rw [List.length_map]; exact g.h, fun r mr => ?_, g.m1, g.m8, g.n1, g.n8, fun r mr w mw => ?_⟩
  · obtain ⟨q, mq, rfl⟩ := List.mem_map.mp mr
    rw [List.length_map]
    exact g.w q mq
  · obtain ⟨q, mq, rfl⟩ := List.mem_map.mp mr
    obtain ⟨v, mv, rfl⟩ := List.mem_map.mp mw
    exact readW_ok (g.ok q mq v mv)
theorem WdsOk.row0 {T : Tab} {m n : Nat} (g : WdsOk T m n) : ∃ r, T[0]? = some r ∧ r.length = m ∧ atI (T.map fun r => D.lst (r.map D.tx)) 0 = some (.lst (r.map D.tx)) := by
  have a : 0 < T.length := by rw [g.h]; exact g.n1
  exact ⟨T[0], List.getElem?_eq_getElem a, g.w _ (List.getElem_mem a), atI_nat (j := 0) (by rw [List.getElem?_map, List.getElem?_eq_getElem a]; rfl)⟩
section
variable {P : Program} {w : World} {K : PySem.W.Frag} {mg : Str → Option Value} {base : Heap} {CS CP : Addr}
theorem star_S : ("*" : Str) = S [42] := by decide +kernel
/-! _is_bad_row, _bad_line: nothing is bad -/
def gSkBad (ds : List D) (d : D) : Prop := ∃ r : List (List Nat), ∃ m : Nat, r.length = m ∧ m ≤ 8 ∧ (∀ w ∈ r, wordOk w) ∧ ds = [.lst (r.map D.tx), .int m] ∧ d = .bl false
abbrev nSkBad : List Str := ["words", "width", "word"]
theorem scSkBad : FnScope nSkBad ["words", "width"] (defScope gIsBadRowSketches) := ⟨rfl, rfl, rfl, by decide +kernel, rfl, by decide +kernel, by decide +kernel⟩
theorem ok_skBad {f a1 : Addr} {fd b1 : FuncData} (F : Fun K "_is_bad_row" "_is_bad_row" gIsBadRowSketches f fd) (L : LTxt K mg) (T : Kls K mg CS) (TP : PTxt K mg CP) (cAl : Cl P w K mg base CX0 3 "_are_allowed_signs" ["signs"] spAlw a1 b1) : FnOk P w K mg base CX0 4 f fd ["words", "width"] (spG K gSkBad) := by
  refine F.ok scSkBad (spG_len fun ds d ⟨_, _, _, _, _, e, _⟩ => by rw [e]; rfl) (fun cdv A outer s H vs Q E hr h => ?_)
  obtain ⟨ds, d, ⟨r, m, lr, m8, ok, rfl, rfl⟩, h⟩ := h
  obtain ⟨B, tw⟩ := tree_wish (N := nSkBad) h (by show 2 ≤ 3; decide)
  obtain ⟨uM, hM, rM⟩ := TP.most
  obtain ⟨uW, hW, rW⟩ := T.aw
  have lr' : (r.map D.tx).length = m := by rw [List.length_map, lr]
  refine ⟨_, (show OkSs _ B _ [.d (.lst (r.map D.tx)), .d (.int m), .no] (.rt (.bl false)) from ?_), tw⟩
  have LEN : ∀ {X : Cx} {B : Hp × Hp} {Γ : Tr.Env} {e : Expr}, True := fun {X B Γ e} => trivial
  refine s_ifNo (o_as (o_w (w_or (o_op (fun p q => pt_cmpR op_gt p q (nomark _)) (t_cb (fun h => pe_callB call_len_seq (by rfl) L.len PySem.boot_len h) (a_cons (ok_var (pv 0) rfl) a_nil) rc_len) (ok_glob (by rfl) hM rM (fun _ _ => .int _)) (r2_i fun _ => .bl _)) (fun _ => w_or1 (o_op (fun p q => pt_cmpR op_ne p q (nomark _)) (t_cb (fun h => pe_callB call_len_seq (by rfl) L.len PySem.boot_len h) (a_cons (ok_var (pv 0) rfl) a_nil) rc_len) (ok_var (pv 1) rfl) r2_neI)))) (by rw [lr', decide_eq_false (by omega)]; simp))
    (s_one (s_ret (ok_as (v_not (t_cb (fun h => pe_callB (cr_all rfl) (by rfl) TP.all (by decide +kernel) h) (a_cons (ok_as (t_lc (vs := [2]) r D.tx (fun w => [.d (.lst (r.map D.tx)), .d (.int m), .d (.tx w)]) (fun w => .bl true) (fun h => by exact pe_lc (own := [("word", 2)]) (g := (gName 2)) (tt := tYes) rfl scSkBad.nd h (blkOk_by (own := [("word", 2)]) (N := nSkBad) (sc := defScope gIsBadRowSketches) (by decide +kernel)) (fun _ _ _ _ _ => (pg_name (i := 2) scSkBad.nd rfl (.inl rfl))) (fun _ _ _ _ _ => pts_nil) (fun _ _ _ _ _ => (pe_el fun B w m => (ok_as (v_or (p := decide (w = [42])) (q := diffB 46 w) (t_eq (ok_var (pv 2) rfl) (ok_as (ok_glob (d := .tx [42]) (by rfl) hW rW (fun _ _ => by rw [star_S]; exact .str _)) rfl) r2_eqS) (fun hb => v_one (t_call (z := .bl (diffB 46 w)) (fun h => pe_call cAl.ok hr (by rfl) cAl.gl cAl.kp cAl.bd .nil pass0 h) (a_cons (ok_var (pv 2) rfl) a_nil) (fun _ _ _ q => as_alw (by have := (ok w m).len; omega) q)))) (by
        rcases ok w m with rfl | z
        · rfl
        · rw [diff_ok z, Bool.or_true]))))) (i_list (ok_var (pv 0) rfl)) (fun _ _ _ => (b_name (i := 2) (by decide))) (by omega)) (show D.lst (r.map fun w => .bl true) = .lst ((r.map fun _ => true).map D.bl) by rw [List.map_map]; rfl)) a_nil) rc_all)) (by rw [List.all_map]; simp))))
def gSkLine (ds : List D) (d : D) : Prop := ∃ T m n, WdsOk T m n ∧ ds = [tabD T] ∧ d = .int 0
abbrev nSkLine : List Str := ["rows", "line", "words"]
theorem scSkLine : FnScope nSkLine ["rows"] (defScope gBadLineSketches) := ⟨rfl, rfl, rfl, by decide +kernel, rfl, by decide +kernel, by decide +kernel⟩
theorem ok_skLine {f a1 : Addr} {fd b1 : FuncData} (F : Fun K "_bad_line" "_bad_line" gBadLineSketches f fd) (L : LTxt K mg) (TP : PTxt K mg CP) (cB : Cl P w K mg base CX0 4 "is_bad_row_sketches" ["words", "width"] (spG K gSkBad) a1 b1) : FnOk P w K mg base CX0 5 f fd ["rows"] (spG K gSkLine) := by
  refine F.ok scSkLine (spG_len fun ds d ⟨_, _, _, _, e, _⟩ => by rw [e]; rfl) (fun cdv A outer s H vs Q E hr h => ?_)
  obtain ⟨ds, d, ⟨T, m, n, g, rfl, rfl⟩, h⟩ := h
  obtain ⟨B, tw⟩ := tree_wish (N := nSkLine) h (by show 1 ≤ 3; decide)
  obtain ⟨uM, hM, rM⟩ := TP.most
  have n8 := g.n8
  have lT : (T.map fun r => D.lst (r.map D.tx)).length = n := by rw [List.length_map, g.h]
  obtain ⟨r0, _, l0, a0⟩ := g.row0
  have l0 : (r0.map D.tx).length = m := by rw [List.length_map, l0]
  have e2 : enumD (cutTr (T.map fun r => D.lst (r.map D.tx)) none (some 8)) = T.zipIdx.map fun p => .tup [.int ((p.2 : Int) + 1), .lst (p.1.map D.tx)] := by
    have c := cut_take (T.map fun r => D.lst (r.map D.tx)) 8
    rw [show (some (8 : Int)) = some ((8 : Nat) : Int) from rfl, c, List.take_of_length_le (by omega)]
    unfold enumD
    rw [List.zipIdx_map, List.map_map]
    rfl
  refine ⟨_, (show OkSs _ B _ [.d (tabD T), .no, .no] (.rt (.int 0)) from ?_), tw⟩
  refine s_forNo (vs := [1, 2]) T.zipIdx (fun p => .tup [.int ((p.2 : Int) + 1), .lst (p.1.map D.tx)]) (fun k => _) (fun h g => ps_for PassesOwn.never rfl h (pg_tup rfl (pgs_cons (pg_name (i := 1) scSkLine.nd rfl (.inl rfl)) (pgs_cons (pg_name (i := 2) scSkLine.nd rfl (.inl rfl)) pgs_nil))) g) (i_as (i_enum1 (fun h => pi_enumS (by rfl) TP.enum h (pk_cons pe_int pk_nil)) (fun _ _ _ q => q) (a_cons (t_slL (ok_var (pv 0) rfl) so_none (so_some (ok_glob (by rfl) hM rM (fun _ _ => .int _)))) a_nil)) e2) (fun _ _ _ => b_tup (b_cons (b_name (i := 1) (by decide)) (b_cons (b_name (i := 2) (by decide)) b_nil))) (fun B p mp => ?_)
    (s_one (s_ret (ok_as (t_if (y' := .int 0) (y := .int 9) (o_op (fun p q => pt_cmpR op_gt p q (nomark _)) (t_cb (fun h => pe_callB call_len_seq (by rfl) L.len PySem.boot_len h) (a_cons (ok_var (pv 0) rfl) a_nil) rc_len) (ok_glob (by rfl) hM rM (fun _ _ => .int _)) (r2_i fun _ => .bl _)) (fun hb => ok_as (t_add (ok_glob (by rfl) hM rM (fun _ _ => .int _)) ok_int) rfl) (fun _ => ok_int)) (by rw [lT, decide_eq_false (by omega)]; rfl))))
  have mT : p.1 ∈ T := by
    obtain ⟨_, _, e⟩ := List.mem_zipIdx mp
    rw [e]
    exact List.getElem_mem _
  refine s_leO (Γ2 := [.d (tabD T), .d (.int ((p.2 : Int) + 1)), .d (.lst (p.1.map D.tx))]) ?_ (.cons (.cons (.cons .refl (.inl rfl)) (.inl rfl)) (.inr rfl))
  exact s_ifNo (o_val (t_callG (fun h => pe_call cB.ok hr (by rfl) cB.gl cB.kp cB.bd .nil pass0 h) (a_cons (ok_var (pv 2) rfl) (a_cons (ok_as (t_cb (fun h => pe_callB call_len_seq (by rfl) L.len PySem.boot_len h) (a_cons (t_ixL (ok_var (pv 0) rfl) ok_int a0 (fun _ _ => rfl)) a_nil) rc_len) (show D.int ((r0.map D.tx).length : Int) = .int (m : Int) by rw [l0])) a_nil)) ⟨p.1, m, g.w _ mT, g.m8, g.ok _ mT, rfl, rfl⟩)) s_nil
end
end Pm
/-! ### Sketch.read of a good text -/
namespace Pm
open PySem PySem.Spec PyProof.Rows L2 SX Tr
section
variable {X : Cx} {CX : CXT} {k n : Nat} {f C : Addr} {fd : FuncData} {ps ks : List Str} {sp : Sp} {E : XK} {x : Str} {p pos : Pos} {e : Expr} {es : List Expr} {kws : List Keyword} {t tk : TA} {g : List Value → List Value → List Value} {gV : List V → List V → List V}
def tMakeVN (i : Nat) (C : Addr) (n m : Nat) (sp : Sp) (gV : List V → List V → List V) (E : XK) (t tk : TA) : TE := fun σ H Q => σ[i]? = some (some (.ref C)) ∧ tMakeN C n m sp gV E t tk σ H Q
/-- c(e, .., k = v, ..), the class at C in slot i -/
theorem pe_makeVN {i : Nat} (M : Mk X.K C f) (F : FnOk X.prog X.w X.K X.mg X.base CX k f fd ps sp) (hr : Room (k + 1) X.A) (hN : X.N[i]? = some x) (hv : Vis X.env.scope x) (hb : KBn X.K fd ps (n + 1) ks g gV) (hx : Passes CX X E)
    (ha : PA X (e :: es) t) (hkw : PK X kws tk) (hall : (backToKw pos (keywordEach kws X.env)).all (·.1.isSome) = true := by rfl) (hks : (backToKw pos (keywordEach kws X.env)).filterMap (·.1) = ks := by rfl)
    (hdb : (x == ("__debug__" : Str)) = false := by decide) (hcd : (x == ("__classdict__" : Str)) = false := by decide) (he : starEach (e :: es) X.env = (false, eval e X.env) :: starEach es X.env := by rfl)
    (hpl : ((backTo pos (starEach (e :: es) X.env)).any (·.1) || (backToKw pos (keywordEach kws X.env)).any (·.1.isNone)) = false := by rfl) :
    PE X (.Call (.Name x p) (e :: es) kws pos) (tMakeVN i C n ks.length sp gV E t tk) := by
  refine ⟨fun pins s σ H Q I ⟨hs, h⟩ => ?_⟩
  refine wpAny_Call_Name_kw (thn ((pe_var (pos := p) hN hv hdb hcd).run pins s σ H (fun v H1 => v = .ref C ∧ H1 = H) I ⟨.ref C, hs, rfl, rfl⟩) fun u s0 ⟨v, H0, I0, r0, ev, eh⟩ => ?_)
  subst ev eh
  obtain rfl : u = Value.ref C := r0
  refine PySem.W.callWith_KW (h₀ := X.base) I.ok.mod.kin M.kp hall (thn (ha.run pos pins s0 σ _ _ I0 h) fun us s1 ⟨vs, H1, I1, r, q⟩ => ?_) hpl he
  refine thn (hkw.run pos pins s1 σ H1 _ I1 q) fun ws s2 ⟨zs, H2, I2, rz, l1, l2, q2⟩ => ⟨I2.kIn, ?_⟩
  rw [hks]
  exact run_makeN M F hr hb hx I2 r rz l1 l2 q2
end
/-! the words' lists -/
theorem row_of {K : PySem.W.Frag} {F : Hp} : ∀ {z : List (List Nat)} {us : List V}, Reps K F us (z.map D.tx) → us = rowsV z
  | [], _, .nil => rfl
  | _ :: z, _, .cons r1 r2 => by
    cases r1
    rw [row_of r2]
    rfl
theorem tab_of {K : PySem.W.Frag} {F : Hp} : ∀ {T : Tab} {us : List V}, Reps K F us (T.map fun r => D.lst (r.map D.tx)) → ∃ R : List Addr, us = R.map V.ref ∧ R.length = T.length ∧ ∀ (j : Nat) (r : Addr) (z : List (List Nat)), R[j]? = some r → T[j]? = some z → F r = some (.lst (rowsV z))
  | [], _, .nil => ⟨[], rfl, rfl, fun j r z e => nomatch e⟩
  | z :: T, _, .cons r1 r2 => by
    obtain ⟨R, e1, e2, e3⟩ := tab_of r2
    cases r1 with
    | @lst a vs _ h rr =>
      refine ⟨a :: R, by rw [e1]; rfl, by rw [List.length_cons, List.length_cons, e2], fun j r y h1 h2 => ?_⟩
      cases j with
      | zero =>
        cases h1
        cases h2
        rw [← row_of rr]
        exact h
      | succ j => exact e3 j r y (by simpa using h1) (by simpa using h2)
theorem rep_tab {K : PySem.W.Frag} {F : Hp} {v : V} {T : Tab} (h : Rep K F v (tabD T)) : ∃ a R, v = .ref a ∧ TabAt F a R T := by
  cases h with
  | @lst a vs _ h rr =>
    obtain ⟨R, e1, e2, e3⟩ := tab_of rr
    exact ⟨a, R, rfl, by rw [← e1]; exact h, e2, e3⟩
section
variable {P : Program} {w : World} {K : PySem.W.Frag} {mg : Str → Option Value} {base : Heap} {CS CP : Addr}
/-! _read_word -/
def spRdW : Sp := fun vs H Q _ => ∃ z, vs = [.str (S z)] ∧ wordOk z ∧ ∀ H', Same H H' → Q (.str (S (readW z))) H'
theorem scRdW : FnScope ["word"] ["word"] (defScope gReadWord) := ⟨rfl, rfl, rfl, by decide +kernel, rfl, by decide +kernel, by decide +kernel⟩
theorem ok_rdW {f a1 : Addr} {fd b1 : FuncData} {mc uA : Value} (F : Fun K "_read_word" "_read_word" gReadWord f fd) (T : Kls K mg CS) (crd : ClX.CRead K CS mc) (cA : ClX.CVal K CS mc "ANY" (.str ".abcdefghijklmnopqrstuvwxyz") uA) (cAs : Cl P w K mg base CX0 1 "in_ascii_order" ["signs"] spAsc a1 b1) : FnOk P w K mg base CX0 2 f fd ["word"] spRdW := by
  refine F.ok scRdW (fun vs H Q E h => ?_) (fun cdv A outer s H vs Q E hr h => ?_)
  · obtain ⟨z, rfl, _⟩ := h
    rfl
  · obtain ⟨z, rfl, ok, k⟩ := h
    obtain ⟨uW, hW, rW⟩ := T.aw
    refine ⟨_, pss_one (ps_ret (pe_ifExp (pt_cmpR op_eq (pv 0) (pe_glob (by rfl) hW rW) (nomark _)) (ClX.pe_cval (pe_glob (v := .ref CS) (by rfl) T.gS rfl)) (pe_call cAs.ok hr (by rfl) cAs.gl cAs.kp cAs.bd .nil pass0 (pa_cons (pv 0) pa_nil)))), ?_⟩
    have lz := ok.len
    refine ⟨_, rfl, rfl, _, rfl, ?_⟩
    by_cases e : z = [42]
    · subst e
      refine iteTe (decide_eq_true (by rw [star_S])) ⟨CS, mc, _, uA, rfl, crd, cA, ?_⟩
      have := k H (Same.refl _)
      rw [show readW [42] = anyL from rfl, S_any] at this
      exact this
    · refine iteFe (decide_eq_false fun y => e (by rw [star_S] at y; exact S_inj (V.str.inj y))) ⟨_, rfl, z, rfl, by omega, fun H1 s1 => ?_⟩
      have := k H1 s1
      unfold readW at this
      rw [if_neg e] at this
      exact this
end
end Pm
/-! ### Sketch.read of a good text -/
namespace Pm
open PySem PySem.Spec PyProof.Rows L2 SX Tr
/-- a row of words read: a new list -/
def tReadRow (i : Nat) : TE := fun σ H Q => ∃ r z, σ[i]? = some (some (.ref r)) ∧ H r = some (.lst (rowsV z)) ∧ z.length ≤ 8 ∧ (∀ w ∈ z, wordOk w) ∧ σ.length = 7 ∧ ∀ H' p, Same H H' → H p = none → H' p = some (.lst (rowsV (z.map readW))) → Q (.ref p) H'
theorem seven {σ : L2.St} (h : σ.length = 7) : ∃ y0 y1 y2 y3 y4 y5 y6, σ = [y0, y1, y2, y3, y4, y5, y6] := by
  match σ, h with
  | [y0, y1, y2, y3, y4, y5, y6], _ => exact ⟨y0, y1, y2, y3, y4, y5, y6, rfl⟩
theorem tab_split {W : Tab} {m n : Nat} (g : WdsOk W m n) : TL.spl [10] 0 [] (tabT W) = W.map (TL.joinL [32]) ∧ ∀ r ∈ W, TL.spl [32] 0 [] (TL.joinL [32] r) = r := by
  have no : ∀ r ∈ W, ∀ w ∈ r, 10 ∉ w ∧ 32 ∉ w := fun r mr w mw => by
    rcases g.ok r mr w mw with rfl | z
    · exact ⟨by decide, by decide⟩
    · refine ⟨fun y => ?_, fun y => ?_⟩ <;> (rcases z.2.2.1 _ y with e | e <;> omega)
  have ne : W ≠ [] := fun e => by
    have := g.h
    have := g.n1
    rw [e] at *
    simp at *
    omega
  refine ⟨spl_join (by simpa using ne) fun p mp => ?_, fun r mr => spl_join (fun e => ?_) fun p mp => (no r mr p mp).2⟩
  · obtain ⟨r, mr, rfl⟩ := List.mem_map.mp mp
    have go : ∀ (ws : List (List Nat)), (∀ w ∈ ws, 10 ∉ w) → 10 ∉ TL.joinL [32] ws := by
      intro ws
      induction ws with
      | nil => intro _ y; exact nomatch y
      | cons w ws ih =>
        intro h
        cases ws with
        | nil => exact h w List.mem_cons_self
        | cons v ws =>
          intro y
          rcases List.mem_append.mp (show 10 ∈ w ++ ([32] ++ TL.joinL [32] (v :: ws)) from y) with y | y
          · exact h w List.mem_cons_self y
          · rcases List.mem_append.mp y with y | y
            · simp at y
            · exact ih (fun u mu => h u (List.mem_cons_of_mem _ mu)) y
    exact go r fun w mw => (no r mr w mw).1
  · have := g.w r mr
    have := g.m1
    rw [e] at *
    simp at *
    omega
theorem wds_len {W : Tab} {m n : Nat} (g : WdsOk W m n) : (tabT W).length ≤ 1800 ∧ ∀ r ∈ W, (TL.joinL [32] r).length ≤ 224 := by
  have row : ∀ r ∈ W, (TL.joinL [32] r).length ≤ 224 := fun r mr => by
    have e := join_len (c := 32) (m := 27) r fun w mw => (g.ok r mr w mw).len
    rw [g.w r mr] at e
    have := g.m8
    omega
  refine ⟨?_, row⟩
  unfold tabT
  have e := join_len (c := 10) (m := 224) (W.map fun r => TL.joinL [32] r) fun w mw => by
    obtain ⟨r, mr, rfl⟩ := List.mem_map.mp mw
    exact row r mr
  rw [List.length_map, g.h] at e
  have := g.n8
  omega
section
variable {P : Program} {w : World} {K : PySem.W.Frag} {mg : Str → Option Value} {base : Heap} {CS CP : Addr}
def spRead (CS : Addr) : Sp := fun vs H Q _ => ∃ W m n, vs = [.ref CS, .str (S (tabT W))] ∧ WdsOk W m n ∧ ∀ H' y a R, Same H H' → SkAt CS H' y a R (readT W) m n → NewSk H y a R → Q (.ref y) H'
abbrev nRead : List Str := ["cls", "text", "words", "line", "rows", "row", "word"]
theorem scRead : FnScope nRead ["cls", "text"] (defScope cSketchRead) := ⟨rfl, rfl, rfl, by decide +kernel, rfl, by decide +kernel, by decide +kernel⟩
theorem ok_read {f fI a1 a2 : Addr} {fd dI b1 b2 : FuncData} {ds : List Value} (F : Fun K "read" "Sketch.read" cSketchRead f fd) (L : LTxt K mg) (T : Kls K mg CS) (M : MkS P w K mg base CS fI dI ds)
    (cL : Cl P w K mg base CX0 5 "bad_line_sketches" ["rows"] (spG K gSkLine) a1 b1) (cR : Cl P w K mg base CX0 2 "_read_word" ["word"] spRdW a2 b2) : FnOk P w K mg base CX0 6 f fd ["cls", "text"] (spRead CS) := by
  refine F.ok scRead (fun vs H Q E h => ?_) (fun cdv A outer s H vs Q E hr h => ?_)
  · obtain ⟨W, m, n, rfl, _⟩ := h
    rfl
  obtain ⟨W, m, n, rfl, g, k⟩ := h
  have hr2 : Room 2 _ := hr.mono (by decide)
  obtain ⟨lt, lrow⟩ := wds_len g
  obtain ⟨sp1, sp2⟩ := tab_split g
  have s1 : Txt.split (S (tabT W)) (S [10]) = (W.map (TL.joinL [32])).map S := by rw [split_S (by decide) (by decide), sp1]
  have s2 : ∀ r ∈ W, Txt.split (S (TL.joinL [32] r)) (S [32]) = r.map S := fun r mr => by rw [split_S (by decide) (by decide), sp2 r mr]
  have few : W.length ≤ 90000 := by rw [g.h]; have := g.n8; omega
  have e1 : D.lst ((W.map (TL.joinL [32])).map D.tx) = .lst (W.map fun r => .tx (TL.joinL [32] r)) := by rw [List.map_map]; rfl
  refine ⟨_, (s_consTo (B := (H, H)) (Γ := [.d (.val (.ref CS)), .d (.tx (tabT W)), .no, .no, .no, .no, .no]) (Γ1 := [.d (.val (.ref CS)), .d (.tx (tabT W)), .d (tabD W), .no, .no, .no, .no])
      (s_setLc (i := 2) (vs := [5]) W (fun r => .tx (TL.joinL [32] r)) (fun k => _) (fun r => .lst (r.map D.tx)) (fun h => by exact ps_setLc (i := 2) (own := [("row", 5)]) (g := (gName 5)) (tt := tYes) rfl scRead.nd rfl rfl (sw_true rfl rfl rfl (by decide +kernel)) h (blkOk_by (own := [("row", 5)]) (N := nRead) (sc := defScope cSketchRead) (by decide +kernel)) (fun _ _ _ _ _ => (pg_name (i := 5) scRead.nd rfl (.inl rfl))) (fun _ _ _ _ _ => pts_nil) (fun _ _ _ _ _ => (pe_el fun B r m => (t_bm (fun h g => pe_bm PySem.F.plainAttrs_str PySem.F.slot_str_split PySem.F.type_str_split mt_split h g) (ok_var (pv 5) rfl) (a_cons (ok_tx (z := [32]) (by decide +kernel)) a_nil) ty_str (rm_split (s2 r m) (by decide) (by have := lrow r m; omega)))))) (i_list (ok_as (t_bm (fun h g => pe_bm PySem.F.plainAttrs_str PySem.F.slot_str_split PySem.F.type_str_split mt_split h g) (ok_var (pv 1) rfl) (a_cons (ok_tx (z := [10]) (by decide +kernel)) a_nil) ty_str (rm_split s1 (by decide) (by omega))) e1)) (fun _ _ _ => (b_name (i := 5) (by decide))) few)
    (s_consTo (B := (H, H)) (Γ := [.d (.val (.ref CS)), .d (.tx (tabT W)), .d (tabD W), .no, .no, .no, .no]) (Γ1 := [.d (.val (.ref CS)), .d (.tx (tabT W)), .d (tabD W), .d (.int 0), .no, .no, .no]) (s_set (i := 3) (fun h => ps_set (i := 3) scRead.nd rfl (.inl rfl) h) (t_callG (fun h => pe_call cL.ok hr (by rfl) cL.gl cL.kp cL.bd .nil pass0 h) (a_cons (ok_var (pv 2) rfl) a_nil) ⟨W, m, n, g, rfl, rfl⟩))
    (pss_cons (ps_if (pt_cmpR op_gt (pv 3) pe_int (nomark _)) (PSs.when (p := False) (t := fun _ _ _ => True) fun z => z.elim) pss_nil)
    (pss_cons (ps_setLc (i := 4) (own := [("row", 5)]) (g := (gName 5)) (tt := tYes) (te := tReadRow 5) rfl scRead.nd rfl rfl (sw_true rfl rfl rfl (by decide +kernel)) (pi_list (pv 2)) (blkOk_by (own := [("row", 5)]) (N := nRead) (sc := defScope cSketchRead) (by decide +kernel)) (fun _ _ _ _ _ => (pg_name (i := 5) scRead.nd rfl (.inl rfl))) (fun _ _ _ _ _ => pts_nil) (fun _ _ _ _ _ => ?_))
    (pss_one (ps_ret (pe_makeVN (i := 0) (n := 2) M.mkk M.OI hr2 rfl (.inl rfl) M.kb pass0 (pa_cons (pe_callB call_len_seq (by rfl) L.len PySem.boot_len (pa_cons (pe_ix ix_list (pv 4) pe_int (fun _ _ => rfl)) pa_nil)) (pa_cons (pe_callB call_len_seq (by rfl) L.len PySem.boot_len (pa_cons (pv 4) pa_nil)) pa_nil)) (pk_cons (pv 4) pk_nil)))))))), ?_⟩
  · refine PE.weak (pe_lc (own := [("word", 6)]) (g := (gName 6)) (tt := tYes) rfl scRead.nd (pi_list (pv 5)) (blkOk_by (own := [("word", 6)]) (N := nRead) (sc := cutScope [(".0", .local), ("row", .local)]) (by decide +kernel)) (fun _ _ _ _ _ => (pg_name (i := 6) scRead.nd rfl (.inl rfl))) (fun _ _ _ _ _ => pts_nil) (fun _ _ _ _ _ => pe_call cR.ok hr2 (by rfl) cR.gl cR.kp cR.bd .nil pass0 (pa_cons (pv 6) pa_nil))) (fun σ H Q ⟨r, z, e, hz, l8, ok, l7, q⟩ => ?_)
    obtain ⟨y0, y1, y2, y3, y4, y5, y6, rfl⟩ := seven l7
    refine ⟨_, e, r, rfl, ⟨_, SqL.of hz⟩, fun D nD => ?_⟩
    refine lc_list (xs := rowsV z) (fun i G => Same H G ∧ G D = some (.lst (rowsV ((z.take i).map readW)))) ⟨sup nD, upd_same⟩ (fun i G hi pv => SqL.of (pv.1 _ _ hz)) (fun i y G hy pv => ?_) (fun G pv => ?_)
    · have li : i < z.length := by
        have := (List.getElem?_eq_some_iff.mp hy).1
        rwa [rowsV_len] at this
      have ey : y = .str (S z[i]) := by
        unfold rowsV at hy
        rw [List.getElem?_map, List.getElem?_eq_getElem li] at hy
        exact (Option.some.inj hy).symm
      subst ey
      refine ⟨rfl, tyes (iteT ⟨_, rfl, z[i], rfl, ok _ (List.getElem_mem li), fun H' s' => ⟨_, s' _ _ pv.2, ?_, fun b o eb => ?_, ?_⟩⟩)⟩
      · rw [rowsV_len, List.length_map, List.length_take]
        exact Nat.lt_of_le_of_lt (Nat.min_le_left _ _) (Nat.lt_of_lt_of_le (Nat.lt_of_lt_of_le li l8) (by decide))
      · rw [upd_ne (ne_of_none eb nD)]
        exact s' _ _ (pv.1 _ _ eb)
      · rw [upd_same, List.take_succ_eq_append_getElem li, List.map_append]
        unfold rowsV
        rw [List.map_append]
        rfl
    · refine q _ D pv.1 nD ?_
      rw [pv.2, rowsV_len, List.take_length]
  · refine ⟨H, wd_start (Same.refl H) (.cons (.val _) (.cons (.str _) .nil)) (by show 2 ≤ 7; decide), fun σ2 F2 H2 w2 => ⟨F2, w2, fun σ3 F3 H3 w3 => ?_⟩⟩
    obtain ⟨v0, z0, r0⟩ := w3.slot (i := 0) rfl
    obtain ⟨v2, z2, r2⟩ := w3.slot (i := 2) rfl
    obtain ⟨v3, z3, r3⟩ := w3.slot (i := 3) rfl
    obtain ⟨a, R, rfl, tF⟩ := rep_tab r2
    have tT := tF.up w3.fh
    obtain ⟨y0, y1, y2, y3, y4, y5, y6, rfl⟩ := seven w3.len
    cases z0
    cases z2
    cases z3
    cases r0
    cases r3
    refine ⟨_, rfl, _, _, rfl, rfl, _, rfl, iteFe (decide_eq_false (by decide)) ?_⟩
    refine ⟨_, rfl, a, rfl, ⟨_, SqL.of tT.1⟩, fun D nD => ?_⟩
    have lW : (readT W).length = W.length := by unfold readT; rw [List.length_map]
    refine lc_list (xs := R.map V.ref) (PvT H3 D (readT W)) (pvT0 nD) (fun i G hi pv => SqL.of (pv.choose_spec.2.1 _ _ tT.1)) (fun i y G hy pv => ?_) (fun G pv => ?_)
    · rw [List.getElem?_map] at hy
      cases er : R[i]? with
      | none => rw [er] at hy; cases hy
      | some r =>
        rw [er] at hy
        cases hy
        have li : i < W.length := by rw [← tT.2.1]; exact (List.getElem?_eq_some_iff.mp er).1
        have hz : W[i]? = some W[i] := List.getElem?_eq_getElem li
        have mz : W[i] ∈ W := List.getElem_mem li
        have h8 := g.n8
        refine ⟨rfl, tyes (iteT ⟨r, W[i], rfl, pv.choose_spec.2.1 _ _ (tT.2.2 i r _ er hz), by rw [g.w _ mz]; exact g.m8, g.ok _ mz, rfl, fun G' p sG np hp => ?_⟩)⟩
        exact pvTS pv (by rw [g.h] at li; omega) (by unfold readT; rw [List.getElem?_map, hz]; rfl) sG np hp
    · rw [List.length_map, tT.2.1, ← lW] at pv
      obtain ⟨R', tT2, nw, s0⟩ := pvTD pv
      have l0 : 0 < W.length := by rw [g.h]; exact g.n1
      have l0' : 0 < R'.length := by rw [tT2.2.1, lW]; exact l0
      have hz0 : (readT W)[0]? = some (W[0].map readW) := by unfold readT; rw [List.getElem?_map, List.getElem?_eq_getElem l0]; rfl
      have hr0 := tT2.2.2 0 R'[0] _ (List.getElem?_eq_getElem l0') hz0
      have lm : (rowsV (W[0].map readW)).length = m := by rw [rowsV_len, List.length_map, g.w _ (List.getElem_mem l0)]
      have ln : (R'.map V.ref).length = n := by rw [List.length_map, tT2.2.1, lW, g.h]
      refine ⟨rfl, ⟨_, rfl, D, _, 0, _, rfl, rfl, SqL.of tT2.1, atI_nat (j := 0) (by rw [List.getElem?_map, List.getElem?_eq_getElem l0']; rfl), R'[0], _, rfl, .inl (SqL.of hr0), ?_⟩⟩
      refine ⟨_, rfl, D, _, rfl, .inl (SqL.of tT2.1), ?_⟩
      refine ⟨_, rfl, rfl, rfl, fun y dy ny ndy ne => ⟨y, dy, m, n, _, by rw [lm, ln]; rfl, upd_same, g.m1, g.m8, g.n1, g.n8, .inr ⟨D, rfl, fun H' s' hx' => ⟨rfl, ?_⟩⟩⟩⟩
      obtain ⟨q1, q2, q3⟩ := made_new s0 tT2 nw ny ndy ne s' hx'
      have sH : Same H H3 := w3.hh
      exact k _ y D R' (sH.trans q1) q2 ⟨q3.1, fun b mb => sH.free (q3.2 b mb)⟩
end
end Pm
/-! ### the law's draws of signs -/
namespace Pm
open PySem PySem.Spec PyProof.Rows L2 SX Tr
theorem hu65 {A : Around} {k : Nat} (hr : Room k A) : A.units + 65 < cLine := by
  have := hr.un
  omega
def onesV (z : List Nat) : List V := (ones z).map V.str
theorem onesV_rows (z : List Nat) : onesV z = rowsV (z.map fun c => [c]) := by
  unfold onesV ones rowsV
  rw [List.map_map, List.map_map]
  rfl
theorem onesV_len (z : List Nat) : (onesV z).length = z.length := by
  unfold onesV ones
  rw [List.length_map, List.length_map]
theorem onesV_app (y z : List Nat) : onesV (y ++ z) = onesV y ++ onesV z := by
  unfold onesV ones
  rw [List.map_append, List.map_append]
theorem any_one (L : List Nat) (c : Nat) : (((L.map fun c => [c]).map dR).any fun z => PyData.eqv z (dR [c])) = decide (c ∈ L) := by
  rw [List.map_map, List.any_map]
  by_cases z : c ∈ L
  · rw [decide_eq_true z, List.any_eq_true]
    exact ⟨c, z, by show PyData.eqv (dR [c]) (dR [c]) = true; rw [dR_eqv]; exact decide_eq_true rfl⟩
  · rw [decide_eq_false z, List.any_eq_false]
    intro d hd
    show ¬ PyData.eqv (dR [d]) (dR [c]) = true
    rw [dR_eqv]
    intro e
    have := of_decide_eq_true e
    cases this
    exact z hd
section
variable {P : Program} {w : World} {K : PySem.W.Frag} {mg : Str → Option Value} {base : Heap}
/-! each sign once -/
def spOnceS : Sp := fun vs H Q _ => ∃ a z, vs = [.ref a] ∧ H a = some (.lst (onesV z)) ∧ z.length ≤ 50 ∧ (∀ c ∈ z, c < 256 ∧ c ≠ 10) ∧
  ∀ p ys H', Same H H' → H p = none → H' p = some (.lst (onesV ys)) → ys.Nodup → (∀ c, c ∈ ys ↔ c ∈ z) → ys.length ≤ z.length → Q (.ref p) H'
abbrev nOnce : List Str := ["_law_cells_here", "_law_found", "_law_cell"]
theorem scOnce : FnScope nOnce ["_law_cells_here"] (defScope lOnce) := ⟨rfl, rfl, rfl, by decide +kernel, rfl, by decide +kernel, by decide +kernel⟩
theorem ok_once {f : Addr} {fd : FuncData} (F : Fun K "_law_once" "_law_once" lOnce f fd) : FnOk P w K mg base CX0 1 f fd ["_law_cells_here"] spOnceS := by
  refine F.ok scOnce (fun vs H Q E h => ?_) (fun cdv A outer s H vs Q E hr h => ?_)
  · obtain ⟨a, z, rfl, _⟩ := h
    rfl
  · obtain ⟨a, z, rfl, ha, few, low, k⟩ := h
    refine ⟨_, pss_cons (ps_set (i := 1) scOnce.nd rfl (.inl rfl) (pe_lst pa_nil))
      (pss_cons (ps_for PassesOwn.never rfl (pi_list (pv 0)) (pg_name (i := 2) scOnce.nd rfl (.inl rfl))
        (pss_one (ps_if (pt_cmpR (op_notInD (hu65 hr)) (pv 2) (pv 1) (by rfl)) (pss_one (ps_expr (pe_bm PySem.F.plainAttrs_list PySem.F.slot_list_append PySem.F.type_list_append mt_append (pv 1) (pa_cons (pv 2) pa_nil)))) pss_nil)))
      (pss_one (ps_ret (pv 1)))), ?_⟩
    refine ⟨Nat.zero_le _, fun o no => ?_⟩
    refine ⟨_, rfl, a, rfl, ⟨_, SqL.of (same_upd no _ _ ha)⟩, for_list (K := K) (a := a) (xs := onesV z) (fun i σ G => ∃ y ys, σ = [some (.ref a), some (.ref o), y] ∧ Same H G ∧ G o = some (.lst (onesV ys)) ∧ ys.Nodup ∧ (∀ c, c ∈ ys ↔ c ∈ z.take i) ∧ ys.length ≤ i ∧ ys.length ≤ z.length)
      ⟨_, [], rfl, same_upd no, upd_same, List.nodup_nil, (fun c => ⟨fun z => (nomatch z), fun z => (nomatch z)⟩), Nat.zero_le _, Nat.zero_le _⟩ (fun i σ G _ ⟨_, _, _, sm, _⟩ => SqL.of (sm _ _ ha)) ?_ ?_⟩
    · rintro i x σ G hx ⟨y, ys, rfl, sm, ho, nd, hk, hl, hl2⟩
      have li : i < z.length := by
        have := (List.getElem?_eq_some_iff.mp hx).1
        rwa [onesV_len] at this
      have ex : x = .str (S [z[i]]) := by
        unfold onesV ones at hx
        rw [List.getElem?_map, List.getElem?_map, List.getElem?_eq_getElem li] at hx
        exact (Option.some.inj hx).symm
      subst ex
      have lowy : Low (ys.map fun c => [c]) := fun r m c mc => by
        obtain ⟨d, md, rfl⟩ := List.mem_map.mp m
        rw [List.mem_singleton.mp mc]
        exact low d (List.mem_of_mem_take ((hk d).mp md))
      have lowx : Low [[z[i]]] := fun r m c mc => by
        rw [List.mem_singleton.mp m] at mc
        rw [List.mem_singleton.mp mc]
        exact low _ (List.getElem_mem li)
      have take1 : z.take (i + 1) = z.take i ++ [z[i]] := List.take_succ_eq_append_getElem li
      have shx : SeqAt.shaped (dR [z[i]]) = true := by
        have y := dRs_lay lowx
        simp [PyData.canLayAll0] at y
        simp [SeqAt.shaped, PyData.depth, dR] at y ⊢
        exact y
      refine ⟨_, rfl, _, rfl, dR [z[i]], (ys.map fun c => [c]).map dR, .str _, dp_list (by rw [← onesV_rows]; exact ho), shx, dRs_shaped lowy, ?_⟩
      rw [any_one]
      refine ⟨_, rfl, ite2 (fun e => ?_) (fun e => ?_)⟩
      · have nin : z[i] ∉ ys := fun m => by
          rw [decide_eq_true m] at e
          cases e
        refine ⟨_, rfl, .inl ⟨rfl, _, SqL.of ho⟩, _, rfl, o, _, _, rfl, rfl, ho, ?_, ?_⟩
        · rw [onesV_len]
          exact small1000 (by omega)
        · refine ⟨_, ys ++ [z[i]], rfl, fun b u eb => ?_, ?_, ?_, fun d => ?_, ?_, ?_⟩
          · rw [upd_ne (ne_of_none eb no)]
            exact sm _ _ eb
          · rw [upd_same, onesV_app]
            rfl
          · rw [List.nodup_append]
            exact ⟨nd, by simp, fun a ma b mb q => by rw [List.mem_singleton.mp mb] at q; exact nin (q ▸ ma)⟩
          · rw [take1, List.mem_append, List.mem_append, hk d]
          · rw [List.length_append]
            show ys.length + 1 ≤ i + 1
            omega
          · rw [List.length_append]
            show ys.length + 1 ≤ z.length
            omega
      · have m : z[i] ∈ ys := by
          by_cases m : z[i] ∈ ys
          · exact m
          · rw [decide_eq_false m] at e
            exact absurd rfl e
        refine ⟨_, ys, rfl, sm, ho, nd, fun d => ?_, by omega, hl2⟩
        rw [take1, List.mem_append, hk d, List.mem_singleton]
        refine ⟨.inl, fun h => h.elim id fun q => ?_⟩
        rw [q]
        exact (hk _).mp m
    · rintro σ G ⟨y, ys, rfl, sm, ho, nd, hk, hl, hl2⟩
      refine ⟨_, rfl, k o ys G sm no ho nd (fun c => ?_) hl2⟩
      rw [hk c, onesV_len, List.take_length]
end
end Pm
/-! ### _law_allowed -/
namespace Pm
open PySem PySem.Spec PyProof.Rows L2 SX Tr
theorem draw4 {z : List Nat} (h : Pal z) {n : Int} (n0 : 0 ≤ n) (n1 : n < 4) : ∃ c, atI (S ([46] ++ z)).cps.toList n = some c ∧ (c = 46 ∨ (97 ≤ c ∧ c ≤ 122)) := by
  obtain ⟨a, b, e, rfl, ha, hb, he⟩ := h
  rw [cpsS]
  have : n = 0 ∨ n = 1 ∨ n = 2 ∨ n = 3 := by omega
  rcases this with rfl | rfl | rfl | rfl
  · exact ⟨46, rfl, .inl rfl⟩
  · exact ⟨a, rfl, .inr ha⟩
  · exact ⟨b, rfl, .inr hb⟩
  · exact ⟨e, rfl, .inr he⟩
theorem bag_ones {H : Hp} {b l : Addr} {a : Addr} {z : List Nat} (hb : BagL H b l) (h : H a = some (.lst (onesV z))) : a ≠ b := fun e => by
  obtain ⟨ns, i, p, q, hbb, _⟩ := hb
  rw [e, hbb] at h
  have e2 := HO.lst.inj (Option.some.inj h)
  cases z with
  | nil => cases e2
  | cons k1 ks => cases e2
section
variable {P : Program} {w : World} {K : PySem.W.Frag} {mg : Str → Option Value} {base : Heap}
def spAlwd : Sp := fun vs H Q _ => ∃ b l z c, vs = [.ref b, .str (S z), .str (S [c])] ∧ BagL H b l ∧ Pal z ∧ (c = 46 ∨ (97 ≤ c ∧ c ≤ 122)) ∧ ∀ y H', okW y → SameBut b H H' → BagL H' b l → Q (.str (S y)) H'
abbrev nAlwd : List Str := ["_law_bag_here", "_law_palette_here", "_law_sign", "_law_pick", "_law_more", "_law_k"]
theorem scAlwd : FnScope nAlwd ["_law_bag_here", "_law_palette_here", "_law_sign"] (defScope lAllowed) := ⟨rfl, rfl, rfl, by decide +kernel, rfl, by decide +kernel, by decide +kernel⟩
theorem ok_alwd {f a1 a2 a3 : Addr} {fd b1 b2 b3 : FuncData} (F : Fun K "_law_allowed" "_law_allowed" lAllowed f fd) (L : LTxt K mg) (R : STxt K mg) (cT : Cl P w K mg base CX0 1 "_law_take" tkNames spTake a1 b1) (cA : Cl P w K mg base CX0 1 "_law_any" [] spAny a2 b2) (cO : Cl P w K mg base CX0 1 "_law_once" ["_law_cells_here"] spOnceS a3 b3) :
    FnOk P w K mg base CX0 2 f fd ["_law_bag_here", "_law_palette_here", "_law_sign"] spAlwd := by
  refine F.ok scAlwd (fun vs H Q E h => ?_) (fun cdv A outer s H vs Q E hr h => ?_)
  · obtain ⟨b, l, z, c, rfl, _⟩ := h
    rfl
  · obtain ⟨b, l, z, c, rfl, hb, hz, hc, k⟩ := h
    refine ⟨_, pss_cons (ps_set (i := 3) scAlwd.nd rfl (.inl rfl) (pe_call cT.ok hr (by rfl) cT.gl cT.kp cT.bd .nil pass0 (pa_cons (pv 0) (pa_cons pe_int pa_nil))))
      (pss_cons (ps_if (pt_cmpR op_eq (pv 3) pe_int (nomark _)) (pss_one (ps_ret (pe_call0 cA.ok hr (by rfl) cA.gl cA.kp cA.bd .nil pass0))) pss_nil)
      (pss_cons (ps_setLc (i := 4) (own := [("_law_k", 5)]) (g := gName 5) (tt := tYes) rfl scAlwd.nd rfl rfl (sw_true rfl rfl rfl (by decide +kernel)) (pi_range1 (by rfl) L.rng (pa_cons (pe_op op_add (pe_op op_mod (pe_callTy call_int1 (by rfl) L.int (by decide +kernel) (pa_cons (pv 3) pa_nil)) pe_int) (pe_callTy call_int1 (by rfl) L.int (by decide +kernel) (pa_cons (pe_cmpR op_lt (pv 3) pe_int (nomark _)) pa_nil))) pa_nil)) (blkOk_by (own := [("_law_k", 5)]) (N := nAlwd) (sc := defScope lAllowed) (by decide +kernel)) (fun _ _ _ _ _ => pg_name (i := 5) scAlwd.nd rfl (.inl rfl)) (fun _ _ _ _ _ => pts_nil) (fun _ _ _ _ _ => pe_ix ix_str (pe_op op_add_str pe_str (pv 1)) (pe_call cT.ok hr (by rfl) cT.gl cT.kp cT.bd .nil pass0 (pa_cons (pv 0) (pa_cons pe_int pa_nil))) (fun _ _ => rfl)))
      (pss_cons (ps_if (pt_cmpR op_gt (pv 3) pe_int (nomark _)) (pss_one (ps_expr (pe_bm PySem.F.plainAttrs_list PySem.F.slot_list_append PySem.F.type_list_append mt_append (pv 4) (pa_cons (pv 2) pa_nil)))) pss_nil)
      (pss_one (ps_ret (pe_join pe_str (pe_callB cr_sortedS (by rfl) R.srt (by decide +kernel) (pa_cons (pe_call cO.ok hr (by rfl) cO.gl cO.kp cO.bd .nil pass0 (pa_cons (pv 4) pa_nil)) pa_nil)))))))), ?_⟩
    have lz := hz.len
    refine ⟨_, rfl, b, l, 8, rfl, hb, by decide, by decide, fun n H1 n0 n1 u1 b1 => ?_⟩
    refine ⟨_, rfl, rfl, _, rfl, ite2 (fun e => ?_) (fun e => ?_)⟩
    · refine ⟨rfl, ?_⟩
      exact k anyL H1 any_ok (but_same u1) b1
    · have nn : n ≠ 0 := fun y => e (by rw [y]; exact decide_eq_true rfl)
      have cnt : ∃ q : Nat, n % 3 + (if decide (n < 3) = true then 1 else 0) = (q : Int) ∧ q ≤ 3 ∧ (n ≤ 2 → 1 ≤ q) := by
        refine ⟨(n % 3 + (if decide (n < 3) = true then 1 else 0)).toNat, ?_, ?_, ?_⟩ <;> (by_cases y : n < 3 <;> simp only [y, decide_true, decide_false, if_true, Bool.false_eq_true, if_false] <;> omega)
      obtain ⟨q, eq, q3, q1⟩ := cnt
      refine ⟨_, rfl, .inl ⟨n, rfl, _, _, rfl, rfl, (show (0 : Int) < 3 by decide), _, rfl, _, _, rfl, rfl, .inr ⟨_, rfl, _, _, rfl, rfl, (q : Int), ?_, by omega, by omega, fun D nD => ?_⟩⟩⟩
      · rw [← eq]
      have s1 := but_same u1
      have nDb : D ≠ b := fun e => by
        obtain ⟨xs, e2⟩ := bag_b b1
        rw [e, e2] at nD
        cases nD
      have nDl : D ≠ l := fun e => by
        obtain ⟨xs, e2⟩ := bag_l b1
        rw [e, e2] at nD
        cases nD
      have nD0 : H D = none := by
        obtain ⟨xs, e2⟩ := bag_b hb
        exact but_back e2 s1 nDb nD
      refine lc_range (lo := 0) (n := (q : Int).toNat) (fun i G => ∃ zs : List Nat, zs.length = i ∧ (∀ c ∈ zs, c = 46 ∨ (97 ≤ c ∧ c ≤ 122)) ∧ SameBut b H G ∧ BagL G b l ∧ G D = some (.lst (onesV zs))) ⟨[], rfl, (fun r hr => nomatch hr), fun a o ha e => ?_, bag_upd b1 nD, upd_same⟩ (fun i G hi pv => ?_) (fun G pv => ?_)
      · rw [upd_ne (ne_of_none (s1 a o ha e) nD)]
        exact s1 a o ha e
      · obtain ⟨zs, lzs, gz, sG, bG, hD⟩ := pv
        have hi : i < q := hi
        have e1 : ("." : Str) ++ S z = S ([46] ++ z) := by rw [dot_S, S_cat]
        refine ⟨rfl, tyes (iteT ⟨_, rfl, _, _, rfl, rfl, by rw [dot_S, len_S, len_S, lz]; decide, _, rfl, b, l, 4, rfl, bG, by decide, by decide, fun n2 G1 m0 m1 u2 b2 => ?_⟩)⟩
        obtain ⟨c2, ec, gc⟩ := draw4 hz m0 m1
        refine ⟨_, n2, c2, rfl, rfl, by rw [e1, len_S]; simp [lz]; exact small_line (by decide), by rw [e1]; exact ec, onesV zs, (u2 D nDb).trans hD, by rw [onesV_len]; exact small1000 (by omega), zs ++ [c2], by rw [List.length_append, lzs]; rfl, fun d hd => ?_, fun a o ha e => ?_, bag_ne b2 nDb nDl, ?_⟩
        · rcases List.mem_append.mp hd with m | m
          · exact gz d m
          · rw [List.mem_singleton.mp m]
            exact gc
        · rw [upd_ne (ne_of_none e nD0)]
          exact (u2 a ha).trans (sG a o ha e)
        · rw [upd_same, onesV_app]
          rfl
      · obtain ⟨zs, lzs, gz, sG, bG, hD⟩ := pv
        have lzs : zs.length = q := lzs
        have tail : ∀ {zs2 : List Nat} {G2 : Hp} {j : Nat}, zs2 ≠ [] → zs2.length ≤ 4 → (∀ c ∈ zs2, c = 46 ∨ (97 ≤ c ∧ c ≤ 122)) → SameBut b H G2 → BagL G2 b l → G2 D = some (.lst (onesV zs2)) → spOnceS [.ref D] G2 (fun y H3 => rSortedS K [y] H3 fun y2 H4 => ∃ a p, ∃ ys : List Str, (V.str "" : V) = .str a ∧ [y2] = [V.ref p] ∧ (SqL K H4 p (ys.map V.str) ∨ SqT K H4 p (ys.map V.str)) ∧ (ys.map (·.length)).sum + ys.length * a.length ≤ 16777216 ∧ Q (.str (Txt.join a ys)) H4) E0 := fun {zs2 G2 j} ne l4 gz2 s2 b2 hD2 => by
          refine ⟨D, zs2, rfl, hD2, by omega, fun c mc => by rcases gz2 c mc with e | e <;> omega, fun p ys G3 s3 np hp nd hk hl => ?_⟩
          refine ⟨p, ones ys, rfl, SqL.of hp, by show ((ys.map fun c => S [c])).length < 64; rw [List.length_map]; omega, fun out p2 pm srt np2 => ?_⟩
          obtain ⟨ws, pw, rfl⟩ := ones_perm pm
          have lw : ws.length ≤ 4 := by rw [pw.length_eq]; omega
          refine ⟨_, p2, ones ws, rfl, rfl, .inl (SqL.of upd_same), ?_, ?_⟩
          · have e : ((ones ws).map (·.length)).sum = ws.length := by
              unfold ones
              rw [List.map_map]
              have : ((fun x : Str => x.length) ∘ fun c => S [c]) = fun _ => 1 := by
                funext c
                exact S_len [c]
              rw [this]
              exact sum_one ws
            rw [e]
            show ws.length + (ones ws).length * 0 ≤ 16777216
            omega
          · rw [join_ones]
            have okz : okZ ys := by
              refine ⟨fun e => ?_, by omega, fun c mc => gz2 c ((hk c).mp mc), nd⟩
              cases hz2 : zs2 with
              | nil => exact ne hz2
              | cons c r =>
                have := (hk c).mpr (by rw [hz2]; exact List.mem_cons_self)
                rw [e] at this
                cases this
            have ew : ws = asc ys := asc_of pw (ones_sorted srt)
            rw [ew]
            refine k _ _ okz.asc (sb_trans s2 (sb_trans (sb_of s3) (sb_of (same_upd np2)))) ?_
            exact bag_upd (bag_same b2 s3) np2
        refine ⟨_, rfl, _, _, rfl, rfl, _, rfl, ite2 (fun e2 => ?_) (fun e2 => ?_)⟩
        · have big : 2 < n := of_decide_eq_true e2
          refine ⟨_, rfl, .inl ⟨rfl, _, SqL.of hD⟩, _, rfl, D, _, _, rfl, rfl, hD, by rw [onesV_len]; exact small1000 (by omega), ?_⟩
          refine ⟨⟨_, rfl⟩, _, rfl, tail (zs2 := zs ++ [c]) (G2 := upd G D (.lst (onesV zs ++ [V.str (S [c])]))) (j := 0) (by simp) (by rw [List.length_append]; show zs.length + 1 ≤ 4; omega) (fun d hd => ?_) (fun a o ha e => ?_) (bag_ne bG nDb nDl) (by rw [upd_same, onesV_app]; rfl)⟩
          · rcases List.mem_append.mp hd with m | m
            · exact gz d m
            · rw [List.mem_singleton.mp m]
              exact hc
          · rw [upd_ne (ne_of_none e nD0)]
            exact sG a o ha e
        · have small : n ≤ 2 := by
            by_cases y : 2 < n
            · exact absurd (decide_eq_true y) e2
            · omega
          refine ⟨⟨_, rfl⟩, _, rfl, tail (zs2 := zs) (j := 0) (fun e => ?_) (by omega) gz sG bG hD⟩
          have := q1 small
          rw [e] at lzs
          simp at lzs
          omega
end
end Pm
/-! ### rows and grids (written by gen_k76.py) -/
namespace Pm
open PySem PySem.Spec PyProof.Rows L2 SX
section
variable {P : Program} {w : World} {K : PySem.W.Frag} {mg : Str → Option Value} {base : Heap}
theorem joinW {tA tR : TS} {D : Ends} {σ : L2.St} {H : Hp} (I : L2.St → Hp → Prop) (hA : ∀ nx : L2.St → Hp → Prop, (∀ σ' H', I σ' H' → nx σ' H') → tA { D with nx := nx } σ H) (hR : ∀ σ' H', I σ' H' → tR D σ' H') : tSeq tA tR D σ H := hA _ hR
theorem ifN {c : TT} {a : TS} {D : Ends} {σ : L2.St} {G : Hp} {b : Bool} (hc : ∀ Q' : Bool → Hp → Prop, Q' b G → c σ G Q') (hT : b = true → a D σ G) (hF : b = false → D.nx σ G) : tIfS c a tNext D σ G := by
  refine hc _ ?_
  cases b
  · exact iteF (hF rfl)
  · exact iteT (hT rfl)
theorem setG {i : Nat} {x : V} {σ : L2.St} {H : Hp} {Q : L2.St → Hp → Prop} (h : Q (σ.set i (some x)) H) : gName i x σ H Q := h
theorem tNotW {t : TT} {σ : L2.St} {G : Hp} {Q : Bool → Hp → Prop} {b : Bool} (ht : ∀ Q' : Bool → Hp → Prop, Q' b G → t σ G Q') (h : Q (!b) G) : tNot t σ G Q := ht _ h
end
section
variable {P : Program} {w : World} {K : PySem.W.Frag} {mg : Str → Option Value} {base : Heap}
abbrev nGridW : List Str := ["_law_bag_here", "_law_palette_here", "_law_wide", "_law_high", "_law_shape", "_law_k"]
theorem scGridW : FnScope nGridW ["_law_bag_here", "_law_palette_here"] (defScope lGrid) := ⟨rfl, rfl, rfl, by decide +kernel, rfl, by decide +kernel, by decide +kernel⟩
theorem ok_gridW {f t g : Addr} {fd td gd : FuncData} (F : Fun K "_law_grid" "_law_grid" lGrid f fd) (T : Cl P w K mg base CX0 1 "_law_take" tkNames spTake t td) (R : Cl P w K mg base CX0 2 "_law_row" ["_law_bag_here", "_law_palette_here", "_law_wide"] spRow g gd) (L : LTxt K mg) :
    FnOk P w K mg base CX0 3 f fd ["_law_bag_here", "_law_palette_here"] spGrid := by
  refine F.ok scGridW (fun vs H Q E h => ?_) (fun cdv A outer s H vs Q E hr h => ?_)
  · obtain ⟨b, l, z, rfl, _⟩ := h
    rfl
  · obtain ⟨b, l, z, rfl, hb, hz, k⟩ := h
    have hr1 : Room 1 _ := hr.mono (by decide)
    refine ⟨_, (pss_cons (ps_set (i := 2) scGridW.nd rfl (.inr rfl) (pe_op op_add pe_int (pe_call T.ok hr1 (by rfl) T.gl T.kp T.bd .nil pass0 (pa_cons (pv 0) (pa_cons pe_int pa_nil)))))
      (pss_cons (ps_set (i := 3) scGridW.nd rfl (.inl rfl) (pe_op op_add pe_int (pe_call T.ok hr1 (by rfl) T.gl T.kp T.bd .nil pass0 (pa_cons (pv 0) (pa_cons pe_int pa_nil)))))
      (pss_cons (ps_set (i := 4) scGridW.nd rfl (.inl rfl) (pe_call T.ok hr1 (by rfl) T.gl T.kp T.bd .nil pass0 (pa_cons (pv 0) (pa_cons pe_int pa_nil))))
      (pss_cons (ps_if (pt_cmpR op_eq (pv 4) pe_int (nomark _)) (pss_cons (ps_set (i := 2) scGridW.nd rfl (.inr rfl) (pe_op op_add (pe_op op_add (pv 2) (pv 3)) pe_int))
        (pss_one (ps_set (i := 3) scGridW.nd rfl (.inl rfl) pe_int))) pss_nil)
      (pss_cons (ps_if (pt_cmpR op_eq (pv 4) pe_int (nomark _)) (pss_cons (ps_set (i := 3) scGridW.nd rfl (.inl rfl) (pe_op op_add (pe_op op_add (pv 2) (pv 3)) pe_int))
        (pss_one (ps_set (i := 2) scGridW.nd rfl (.inr rfl) pe_int))) pss_nil)
      (pss_one (ps_ret (pe_lc (own := [("_law_k", 5)]) (g := (gName 5)) (tt := tYes) rfl scGridW.nd (pi_range1 (by rfl) L.rng (pa_cons (pv 3) pa_nil)) (blkOk_by (own := [("_law_k", 5)]) (N := nGridW) (sc := defScope lGrid) (by decide +kernel)) (fun _ _ _ _ _ => (pg_name (i := 5) scGridW.nd rfl (.inl rfl))) (fun _ _ _ _ _ => pts_nil) (fun _ _ _ _ _ => (pe_call R.ok hr (by rfl) R.gl R.kp R.bd .nil pass0 (pa_cons (pv 0) (pa_cons (pv 1) (pa_cons (pv 2) pa_nil))))))))))))), ?_⟩
    refine ⟨_, rfl, b, l, 4, rfl, hb, by decide, by decide, fun n H1 n0 n1 u1 b1 => ⟨_, _, rfl, rfl, ?_⟩⟩
    refine ⟨_, rfl, b, l, 3, rfl, b1, by decide, by decide, fun m H2 m0 m1 u2 b2 => ⟨_, _, rfl, rfl, ?_⟩⟩
    refine ⟨_, rfl, b, l, 5, rfl, b2, by decide, by decide, fun sh H3 s0 s1 u3 b3 => ?_⟩
    have sb : SameBut b H H3 := but_same ((u1.trans u2).trans u3)
    refine setG ?_
    dsimp only
    refine joinW (fun σ G => ∃ w h, σ = [some (.ref b), some (.str (S z)), some (.int w), some (.int h), some (.int sh), none] ∧ G = H3 ∧ 1 ≤ w ∧ w ≤ 8 ∧ 1 ≤ h ∧ h ≤ 8 ∧ (sh ≠ 0 → w ≤ 4 ∧ h ≤ 3)) (fun nx hnx => ?_) ?_
    · refine ifN (fun _ q => ⟨_, rfl, rfl, _, rfl, q⟩) (fun e => ?_) (fun e => ?_)
      · simp at e
        exact ⟨_, rfl, _, rfl, _, _, rfl, rfl, _, _, rfl, rfl, hnx _ _ ⟨(1 + n + (1 + m) + 1 : Int), 1, rfl, rfl, by omega, by omega, by omega, by omega, by omega⟩⟩
      · simp at e
        exact hnx _ _ ⟨1 + n, 1 + m, rfl, rfl, by omega, by omega, by omega, by omega, by omega⟩
    rintro σ G ⟨w1, h1, rfl, rfl, wa, wb, ha, hb', w4⟩
    refine joinW (fun σ G' => ∃ w h, σ = [some (.ref b), some (.str (S z)), some (.int w), some (.int h), some (.int sh), none] ∧ G' = G ∧ 1 ≤ w ∧ w ≤ 8 ∧ 1 ≤ h ∧ h ≤ 8) (fun nx hnx => ?_) ?_
    · refine ifN (fun _ q => ⟨_, rfl, rfl, _, rfl, q⟩) (fun e => ?_) (fun e => ?_)
      · simp at e
        have := w4 (by omega)
        exact ⟨_, rfl, _, rfl, _, _, rfl, rfl, _, _, rfl, rfl, hnx _ _ ⟨1, w1 + h1 + 1, rfl, rfl, by omega, by omega, by omega, by omega⟩⟩
      · exact hnx _ _ ⟨w1, h1, rfl, rfl, wa, wb, ha, hb'⟩
    clear wa wb ha hb' w4
    rintro σ G' ⟨w2, h2, rfl, rfl, wa, wb, ha, hb'⟩
    refine ⟨_, rfl, h2, rfl, by omega, by omega, fun D nD => ?_⟩
    have nDb : D ≠ b := fun e => by
      obtain ⟨xs, e2⟩ := bag_b b3
      rw [e, e2] at nD
      cases nD
    have nDl : D ≠ l := fun e => by
      obtain ⟨xs, e2⟩ := bag_l b3
      rw [e, e2] at nD
      cases nD
    have nD0 : H D = none := by
      cases e : H D with
      | none => rfl
      | some o =>
        have := sb D o nDb e
        rw [this] at nD
        cases nD
    refine lc_range (lo := 0) (n := h2.toNat) (fun i G => ∃ R : Rows, R.length = i ∧ (∀ r ∈ R, (r.length : Int) = w2 ∧ ∀ c ∈ r, Good c) ∧ SameBut b H G ∧ BagL G b l ∧ G D = some (.lst (rowsV R))) ⟨[], rfl, (fun r hr => nomatch hr), fun a o ha e => ?_, bag_upd b3 nD, upd_same⟩ ?_ ?_
    · rw [upd_ne (ne_of_none (sb a o ha e) nD)]
      exact sb a o ha e
    · rintro i G hi ⟨R, lR, gR, sG, bG, hD⟩
      refine ⟨rfl, tyes (iteT ⟨_, rfl, _, rfl, _, rfl, b, l, z, w2, rfl, bG, hz, by omega, by omega, fun r G1 lr gr u3 b3 => ⟨rowsV R, (u3 D nDb).trans hD, ?_, R ++ [r], ?_, ?_, fun a o ha e => ?_, ?_, ?_⟩⟩)⟩
      · rw [rowsV_len]
        exact small1000 (by omega)
      · rw [List.length_append, lR]
        rfl
      · intro q hq
        rcases List.mem_append.mp hq with y | y
        · exact gR q y
        · rw [List.mem_singleton.mp y]
          exact ⟨lr, gr⟩
      · rw [upd_ne (ne_of_none e nD0)]
        exact (u3 a ha).trans (sG a o ha e)
      · exact bag_ne b3 nDb nDl
      · rw [upd_same]
        unfold rowsV
        rw [List.map_append]
        rfl
    · rintro G ⟨R, lR, gR, sG, bG, hD⟩
      refine k D R w2.toNat G ⟨by omega, by omega, by omega, by omega, fun r hr => by have := (gR r hr).1; omega, fun r hr => (gR r hr).2⟩ sG bG nD0 hD
end
end Pm
/-! ### a sketch and a table beside the bag (written by gen_sx.py) -/
namespace Pm
open PySem PySem.Spec PyProof.Rows L2 SX Tr
theorem row_bag {H : Hp} {b l r : Addr} {z : List (List Nat)} (hb : BagL H b l) (h : H r = some (.lst (rowsV z))) (ne : z ≠ []) : r ≠ b ∧ r ≠ l := by
  obtain ⟨ns, i, p, q, e1, e2, _⟩ := hb
  cases z with
  | nil => exact absurd rfl ne
  | cons w z =>
    refine ⟨fun e => ?_, fun e => ?_⟩
    · rw [e, e1] at h
      have := HO.lst.inj (Option.some.inj h)
      cases this
    · rw [e, e2] at h
      have := HO.lst.inj (Option.some.inj h)
      cases ns with
      | nil => cases this
      | cons n ns => cases this
theorem bag_sb {H H' : Hp} {b l r : Addr} (hb : BagL H b l) (s : SameBut r H H') (n : r ≠ b ∧ r ≠ l) : BagL H' b l := by
  obtain ⟨ns, i, p, q, e1, e2, e3⟩ := hb
  exact ⟨ns, i, p, q, s _ _ (Ne.symm n.1) e1, s _ _ (Ne.symm n.2) e2, e3⟩
/-- the bag is none of a table's lists -/
theorem tab_bag {H : Hp} {b l a : Addr} {R : List Addr} {T : Tab} {m n : Nat} (hb : BagL H b l) (h : TabAt H a R T) (g : TabOk T m n) : ∀ c ∈ a :: R, c ≠ b ∧ c ≠ l := fun c mc => by
  rcases List.mem_cons.mp mc with rfl | mc
  · obtain ⟨ns, i, p, q, e1, e2, _⟩ := hb
    have h1 := h.1
    have l1 : 1 ≤ R.length := by rw [h.2.1, g.h]; exact g.n1
    cases R with
    | nil => simp at l1
    | cons r R =>
      refine ⟨fun e => ?_, fun e => ?_⟩
      · rw [e, e1] at h1
        have := HO.lst.inj (Option.some.inj h1)
        cases R with
        | nil => cases this
        | cons r2 R => cases this
      · rw [e, e2] at h1
        have := HO.lst.inj (Option.some.inj h1)
        cases ns with
        | nil => cases this
        | cons n ns => cases this
  · obtain ⟨j, lj, e⟩ := List.getElem_of_mem mc
    have l2 : j < T.length := by rw [← h.2.1]; exact lj
    refine row_bag hb (h.2.2 j c T[j] (List.getElem?_eq_some_iff.mpr ⟨lj, e⟩) (List.getElem?_eq_getElem l2)) fun e => ?_
    have := g.w _ (List.getElem_mem l2)
    have := g.m1
    rw [e] at *
    simp at *
    omega
/-- a sketch and the law's table of it, and the bag -/
structure LawSt (CS : Addr) (H G : Hp) (b l x a : Addr) (R : List Addr) (t : Addr) (R2 : List Addr) (T T2 : Tab) (m n : Nat) : Prop where
  bag : BagL G b l
  sk : SkAt CS G x a R T m n
  tb : TabAt G t R2 T2
  ok : TabOk T m n
  ok2 : TabOk T2 m n
  fr : ∀ c o, c ≠ b → c ∉ x :: a :: R ++ t :: R2 → H c = some o → G c = some o
section
variable {CS b l x a t : Addr} {R R2 : List Addr} {T T2 : Tab} {m n : Nat} {H G G' : Hp}
theorem nd_parts (nd : (x :: a :: R ++ t :: R2).Nodup) : (x :: a :: R).Nodup ∧ (t :: R2).Nodup ∧ ∀ c ∈ x :: a :: R, c ∉ t :: R2 := by
  rw [List.nodup_append] at nd
  exact ⟨nd.1, nd.2.1, fun c m1 m2 => nd.2.2 c m1 c m2 rfl⟩
theorem LawSt.up (S0 : LawSt CS H G b l x a R t R2 T T2 m n) (s : Same G G') : LawSt CS H G' b l x a R t R2 T T2 m n :=
  ⟨bag_same S0.bag s, S0.sk.up s, S0.tb.up s, S0.ok, S0.ok2, fun c o n1 n2 e => s _ _ (S0.fr c o n1 n2 e)⟩
/-- the bag is drawn from -/
theorem LawSt.draw (S0 : LawSt CS H G b l x a R t R2 T T2 m n) (s : SameBut b G G') (hb : BagL G' b l) : LawSt CS H G' b l x a R t R2 T T2 m n := by
  have n1 := tab_bag S0.bag S0.sk.t S0.ok
  have n2 := tab_bag S0.bag S0.tb S0.ok2
  have nx : x ≠ b := fun e => by
    obtain ⟨dx, ho⟩ := S0.sk.o
    obtain ⟨xs, e2⟩ := bag_b S0.bag
    rw [e, e2] at ho
    cases ho
  exact ⟨hb, S0.sk.keep fun c o mc e => s c o (by rcases List.mem_cons.mp mc with rfl | mc; exact nx; exact (n1 c mc).1) e, S0.tb.keep fun c o mc e => s c o (n2 c mc).1 e, S0.ok, S0.ok2, fun c o h1 h2 e => s c o h1 (S0.fr c o h1 h2 e)⟩
/-- the sketch's row is changed -/
theorem LawSt.putS {i j : Nat} {r : Addr} {row : List (List Nat)} {y : List Nat} (S0 : LawSt CS H G b l x a R t R2 T T2 m n) (nd : (x :: a :: R ++ t :: R2).Nodup) (hr : R[j]? = some r) (hrow : T[j]? = some row) (hy : okW y) (s : SameBut r G G') (e : G' r = some (.lst (rowsV (row.set i y)))) :
    LawSt CS H G' b l x a R t R2 (T.set j (row.set i y)) T2 m n := by
  obtain ⟨nd1, nd2, dj⟩ := nd_parts nd
  have mr : r ∈ a :: R := List.mem_cons_of_mem _ (List.mem_of_getElem? hr)
  have nb := tab_bag S0.bag S0.sk.t S0.ok r mr
  have rx : x ≠ r := fun q => (List.nodup_cons.mp nd1).1 (q ▸ mr)
  obtain ⟨dx, ho⟩ := S0.sk.o
  refine ⟨bag_sb S0.bag s nb, ⟨⟨dx, s _ _ rx ho⟩, S0.sk.t.put (List.nodup_cons.mp nd1).2 hr s e⟩, S0.tb.keep fun c o mc ec => s c o (fun q => dj r (List.mem_cons_of_mem _ mr) (q ▸ mc)) ec, S0.ok.put hrow hy, S0.ok2, fun c o h1 h2 ec => s c o (fun q => h2 (List.mem_append_left _ (q ▸ List.mem_cons_of_mem _ mr))) (S0.fr c o h1 h2 ec)⟩
/-- the table's row is changed -/
theorem LawSt.putT {i j : Nat} {r : Addr} {row : List (List Nat)} {y : List Nat} (S0 : LawSt CS H G b l x a R t R2 T T2 m n) (nd : (x :: a :: R ++ t :: R2).Nodup) (hr : R2[j]? = some r) (hrow : T2[j]? = some row) (hy : okW y) (s : SameBut r G G') (e : G' r = some (.lst (rowsV (row.set i y)))) :
    LawSt CS H G' b l x a R t R2 T (T2.set j (row.set i y)) m n := by
  obtain ⟨nd1, nd2, dj⟩ := nd_parts nd
  have mr : r ∈ t :: R2 := List.mem_cons_of_mem _ (List.mem_of_getElem? hr)
  have nb := tab_bag S0.bag S0.tb S0.ok2 r mr
  refine ⟨bag_sb S0.bag s nb, S0.sk.keep fun c o mc ec => s c o (fun q => dj c mc (q ▸ mr)) ec, S0.tb.put nd2 hr s e, S0.ok, S0.ok2.put hrow hy, fun c o h1 h2 ec => s c o (fun q => h2 (List.mem_append_right _ (q ▸ mr))) (S0.fr c o h1 h2 ec)⟩
end
theorem cells_rep {K : PySem.W.Frag} {F : Hp} {v : V} {M : List Cell} (h : Rep K F v (cellsD M)) : ∃ a us, v = .ref a ∧ F a = some (.lst us) ∧ us.length = M.length ∧ ∀ (k : Nat) (c : Cell), M[k]? = some c → ∃ q, us[k]? = some (.ref q) ∧ F q = some (.tup [.int c.1, .int c.2]) := by
  cases h with
  | @lst a us _ h rr =>
    refine ⟨a, us, rfl, h, by rw [rr.length, List.length_map], fun k c e => ?_⟩
    obtain ⟨u, eu, ru⟩ := rr.at (i := k) (d := cellD c) (by rw [List.getElem?_map, e]; rfl)
    cases ru with
    | @tup q vs _ hq r2 =>
      refine ⟨q, eu, ?_⟩
      cases r2 with
      | cons r3 r4 =>
        cases r3
        cases r4 with
        | cons r5 r6 =>
          cases r5
          cases r6
          exact hq
theorem draw3 {z : List Nat} (h : Pal z) {n : Int} (n0 : 0 ≤ n) (n1 : n < 3) : ∃ c, atI (S z).cps.toList n = some c ∧ 97 ≤ c ∧ c ≤ 122 := by
  obtain ⟨a, b, e, rfl, ha, hb, he⟩ := h
  rw [cpsS]
  have : n = 0 ∨ n = 1 ∨ n = 2 := by omega
  rcases this with rfl | rfl | rfl
  · exact ⟨a, rfl, ha⟩
  · exact ⟨b, rfl, hb⟩
  · exact ⟨e, rfl, he⟩
theorem raw0 {P : Program} {w : World} {K : PySem.W.Frag} {mg : Str → Option Value} {base : Heap} {CXf : CXT} {k : Nat} {f : Addr} {fd : FuncData} {ps : List Str} {sp : Sp} (O : FnOk P w K mg base CXf k f fd ps sp) (b : Binds K fd ps []) : FnR P w K mg base CXf k f sp := by
  have z := O.raw b (.nil : Vals [] [])
  have e : (fun vs H Q E => sp (vs ++ []) H Q E) = sp := by
    funext vs H Q E
    rw [List.append_nil]
  rw [e] at z
  exact z
theorem own_some {CS : Addr} {H : Hp} {x a : Addr} {R : List Addr} {T : Tab} {m n : Nat} (h : SkAt CS H x a R T m n) : ∀ c ∈ x :: a :: R, ∃ o, H c = some o := fun c mc => by
  rcases List.mem_cons.mp mc with rfl | mc
  · obtain ⟨dx, e⟩ := h.o
    exact ⟨_, e⟩
  · rcases List.mem_cons.mp mc with rfl | mR
    · exact ⟨_, h.t.1⟩
    · obtain ⟨j, lj, e⟩ := List.getElem_of_mem mR
      have l2 : j < T.length := by rw [← h.t.2.1]; exact lj
      exact ⟨_, h.t.2.2 j c _ (List.getElem?_eq_some_iff.mpr ⟨lj, e⟩) (List.getElem?_eq_getElem l2)⟩
theorem tab_some {H : Hp} {a : Addr} {R : List Addr} {T : Tab} (h : TabAt H a R T) : ∀ c ∈ a :: R, ∃ o, H c = some o := fun c mc => by
  rcases List.mem_cons.mp mc with rfl | mR
  · exact ⟨_, h.1⟩
  · obtain ⟨j, lj, e⟩ := List.getElem_of_mem mR
    have l2 : j < T.length := by rw [← h.2.1]; exact lj
    exact ⟨_, h.2.2 j c _ (List.getElem?_eq_some_iff.mpr ⟨lj, e⟩) (List.getElem?_eq_getElem l2)⟩
section
variable {CS b l x a t : Addr} {R R2 : List Addr} {T T2 : Tab} {m n : Nat} {H G G' : Hp}
theorem LawSt.base (S0 : LawSt CS H G b l x a R t R2 T T2 m n) : LawSt CS G G b l x a R t R2 T T2 m n := ⟨S0.bag, S0.sk, S0.tb, S0.ok, S0.ok2, fun _ _ _ _ e => e⟩
theorem LawSt.own_bag (S0 : LawSt CS H G b l x a R t R2 T T2 m n) : ∀ c ∈ x :: a :: R ++ t :: R2, c ≠ b := fun c mc => by
  rcases List.mem_append.mp mc with mc | mc
  · rcases List.mem_cons.mp mc with rfl | mc
    · intro e
      obtain ⟨dx, ho⟩ := S0.sk.o
      obtain ⟨xs, e2⟩ := bag_b S0.bag
      rw [e, e2] at ho
      cases ho
    · exact (tab_bag S0.bag S0.sk.t S0.ok c mc).1
  · exact (tab_bag S0.bag S0.tb S0.ok2 c mc).1
/-- another sketch and table, while this one's are changed -/
theorem LawSt.other {x' a' t' : Addr} {R' R2' : List Addr} {T' T2' : Tab} {H0 : Hp} (P0 : LawSt CS H0 G b l x' a' R' t' R2' T' T2' m n) (S0 : LawSt CS G G' b l x a R t R2 T T2 m n) (dj : ∀ c ∈ x' :: a' :: R' ++ t' :: R2', c ∉ x :: a :: R ++ t :: R2) : LawSt CS G' G' b l x' a' R' t' R2' T' T2' m n :=
  ⟨S0.bag, P0.sk.keep fun c o mc e => S0.fr c o (P0.own_bag c (List.mem_append_left _ mc)) (dj c (List.mem_append_left _ mc)) e, P0.tb.keep fun c o mc e => S0.fr c o (P0.own_bag c (List.mem_append_right _ mc)) (dj c (List.mem_append_right _ mc)) e, P0.ok, P0.ok2, fun _ _ _ _ e => e⟩
end
theorem read_star {T : Tab} {m n : Nat} (g : TabOk T m n) : WdsOk (starT T) m n ∧ readT (starT T) = T := by
  refine ⟨⟨by unfold starT; rw [List.length_map]; exact g.h, fun r mr => ?_, g.m1, g.m8, g.n1, g.n8, fun r mr w mw => ?_⟩, ?_⟩
  · obtain ⟨q, mq, rfl⟩ := List.mem_map.mp mr
    rw [List.length_map]
    exact g.w q mq
  · obtain ⟨q, mq, rfl⟩ := List.mem_map.mp mr
    obtain ⟨v, mv, rfl⟩ := List.mem_map.mp mw
    unfold starW
    split
    · exact .inl rfl
    · exact .inr (g.ok q mq v mv).z
  · unfold readT starT
    rw [List.map_map]
    refine (List.map_congr_left fun r mr => ?_).trans (List.map_id T)
    show (r.map starW).map readW = r
    rw [List.map_map]
    refine (List.map_congr_left fun w mw => ?_).trans (List.map_id r)
    have ok := g.ok r mr w mw
    show readW (starW w) = w
    unfold starW
    by_cases e : w = anyL
    · rw [if_pos e, e]
      rfl
    · rw [if_neg e]
      unfold readW
      rw [if_neg, ok.2.2.2.2]
      intro e2
      have := ok.2.2.1 42 (by rw [e2]; exact List.mem_cons_self)
      omega
theorem made_full {H H5 : Hp} {CS x dx a : Addr} {R : List Addr} {m n : Nat} (nx : H x = none) (nd : H dx = none) (ne : dx ≠ x) (s : SameBut x (upd (upd H dx (.own x)) x (.ins CS dx [])) H5) (hx : H5 x = some (skO CS dx m n a)) (tT : TabAt H5 a R (fullT m n)) (nw : NewT (upd (upd H dx (.own x)) x (.ins CS dx [])) a R) : Same H H5 ∧ SkAt CS H5 x a R (fullT m n) m n ∧ NewSk H x a R := by
  have away : ∀ c ∈ a :: R, c ≠ x ∧ H c = none := fun c mc => by
    have e := nw.2 c mc
    have c1 : c ≠ x := fun q => by rw [q, upd_same] at e; cases e
    rw [upd_ne c1] at e
    have c2 : c ≠ dx := fun q => by rw [q, upd_same] at e; cases e
    rw [upd_ne c2] at e
    exact ⟨c1, e⟩
  refine ⟨fun b o e => s b o (ne_of_none e nx) (by rw [upd_ne (ne_of_none e nx), upd_ne (ne_of_none e nd)]; exact e), ⟨⟨dx, hx⟩, tT⟩, List.nodup_cons.mpr ⟨fun mm => (away x mm).1 rfl, nw.1⟩, fun b mb => ?_⟩
  rcases List.mem_cons.mp mb with e | mb
  · rw [e]; exact nx
  · exact (away b mb).2
theorem fullT_ok {m n : Nat} (m1 : 1 ≤ m) (m8 : m ≤ 8) (n1 : 1 ≤ n) (n8 : n ≤ 8) : TabOk (fullT m n) m n := by
  refine ⟨List.length_replicate, fun r mr => ?_, m1, m8, n1, n8, fun r mr w mw => ?_⟩
  · rw [List.eq_of_mem_replicate mr, List.length_replicate]
  · rw [List.eq_of_mem_replicate mr] at mw
    rw [List.eq_of_mem_replicate mw]
    exact any_ok
end Pm
/-! ### _law_table -/
namespace Pm
open PySem PySem.Spec PyProof.Rows L2 SX Tr
/-- a table that grows while the bag is drawn from -/
structure TabB (H1 G : Hp) (b l D : Addr) (R : List Addr) (T : Tab) : Prop where
  bag : BagL G b l
  tb : TabAt G D R T
  nw : NewT H1 D R
  sb : SameBut b H1 G
theorem bag_not {H : Hp} {b l D : Addr} (hb : BagL H b l) (n : H D = none) : D ≠ b ∧ D ≠ l := by
  constructor
  · intro e
    obtain ⟨xs, e2⟩ := bag_b hb
    rw [e, e2] at n
    cases n
  · intro e
    obtain ⟨xs, e2⟩ := bag_l hb
    rw [e, e2] at n
    cases n
theorem TabB.zero {H1 : Hp} {b l D : Addr} (b0 : BagL H1 b l) (n : H1 D = none) : TabB H1 (upd H1 D (.lst [])) b l D [] [] :=
  ⟨bag_upd b0 n, ⟨upd_same, rfl, fun j r z e => nomatch e⟩, ⟨List.nodup_cons.mpr ⟨by simp, List.nodup_nil⟩, fun c m => by rw [List.mem_singleton.mp m]; exact n⟩, sb_of (same_upd n)⟩
theorem TabB.add {H1 G G' : Hp} {b l D p : Addr} {R : List Addr} {T : Tab} {z : List (List Nat)} (h : TabB H1 G b l D R T) (b0 : BagL H1 b l) (s : SameBut b G G') (hb : BagL G' b l) (np : G p = none) (hp : G' p = some (.lst (rowsV z))) :
    TabB H1 (upd G' D (.lst (R.map V.ref ++ [.ref p]))) b l D (R ++ [p]) (T ++ [z]) := by
  obtain ⟨Db, Dl⟩ := bag_not b0 (h.nw.2 D List.mem_cons_self)
  have pD : p ≠ D := fun y => by rw [y, h.tb.1] at np; cases np
  have pR : p ∉ R := fun m => by
    obtain ⟨o, ho⟩ := tab_some h.tb p (List.mem_cons_of_mem _ m)
    rw [np] at ho
    cases ho
  have pb : p ≠ b := (bag_not h.bag np).1
  have n1 := List.nodup_cons.mp h.nw.1
  refine ⟨bag_ne hb Db Dl, ⟨?_, by rw [List.length_append, List.length_append, h.tb.2.1]; rfl, fun j r y e1 e2 => ?_⟩, ⟨List.nodup_cons.mpr ⟨fun m => ?_, ?_⟩, fun c m => ?_⟩, fun c o nc e => ?_⟩
  · rw [upd_same, List.map_append]
    rfl
  · by_cases lj : j < R.length
    · rw [List.getElem?_append_left lj] at e1
      rw [List.getElem?_append_left (by rw [← h.tb.2.1]; exact lj)] at e2
      have mr : r ∈ R := List.mem_of_getElem? e1
      rw [upd_ne (show r ≠ D from fun q => n1.1 (q ▸ mr))]
      exact s _ _ (bag_not b0 (h.nw.2 r (List.mem_cons_of_mem _ mr))).1 (h.tb.2.2 j r y e1 e2)
    · rw [List.getElem?_append_right (by omega)] at e1
      rw [List.getElem?_append_right (by rw [← h.tb.2.1]; omega)] at e2
      have ej : j - R.length = 0 := by
        have := (List.getElem?_eq_some_iff.mp e1).1
        simp at this
        omega
      rw [ej] at e1
      rw [← h.tb.2.1, ej] at e2
      cases e1
      cases e2
      rw [upd_ne pD]
      exact hp
  · rcases List.mem_append.mp m with m | m
    · exact n1.1 m
    · exact pD (List.mem_singleton.mp m).symm
  · rw [List.nodup_append]
    exact ⟨n1.2, by simp, fun a ma c mc y => by rw [List.mem_singleton.mp mc] at y; exact pR (y ▸ ma)⟩
  · rcases List.mem_cons.mp m with y | m
    · rw [y]; exact h.nw.2 D List.mem_cons_self
    · rcases List.mem_append.mp m with m | m
      · exact h.nw.2 c (List.mem_cons_of_mem _ m)
      · rw [List.mem_singleton.mp m]
        obtain ⟨xs, e2⟩ := bag_b b0
        exact but_back e2 h.sb pb np
  · rw [upd_ne (fun y => by rw [y, h.nw.2 D List.mem_cons_self] at e; cases e)]
    exact s _ _ nc (h.sb _ _ nc e)
section
variable {P : Program} {w : World} {K : PySem.W.Frag} {mg : Str → Option Value} {base : Heap}
def spTable : Sp := fun vs H Q _ => ∃ b l z rr R m, vs = [.ref b, .str (S z), .ref rr] ∧ BagL H b l ∧ Pal z ∧ Grid R m ∧ H rr = some (.lst (rowsV R)) ∧ ∀ t R2 T H', TabOk T m R.length → TabB H H' b l t R2 T → Q (.ref t) H'
abbrev nTable : List Str := ["_law_bag_here", "_law_palette_here", "_law_rows", "_law_table_here", "_law_row_here", "_law_sign"]
theorem scTable : FnScope nTable ["_law_bag_here", "_law_palette_here", "_law_rows"] (defScope lTable) := ⟨rfl, rfl, rfl, by decide +kernel, rfl, by decide +kernel, by decide +kernel⟩
theorem ok_table {f a1 : Addr} {fd b1 : FuncData} (F : Fun K "_law_table" "_law_table" lTable f fd) (cA : Cl P w K mg base CX0 2 "_law_allowed" ["_law_bag_here", "_law_palette_here", "_law_sign"] spAlwd a1 b1) :
    FnOk P w K mg base CX0 3 f fd ["_law_bag_here", "_law_palette_here", "_law_rows"] spTable := by
  refine F.ok scTable (fun vs H Q E h => ?_) (fun cdv A outer s H vs Q E hr h => ?_)
  · obtain ⟨b, l, z, rr, R, m, rfl, _⟩ := h
    rfl
  obtain ⟨b, l, z, rr, R, m, rfl, hb, hz, g, hR, k⟩ := h
  have rrb : rr ≠ b := (row_bag hb hR (fun e => by have := g.h1; rw [e] at this; simp at this)).1
  refine ⟨_, pss_cons (ps_set (i := 3) scTable.nd rfl (.inl rfl) (pe_lst pa_nil))
    (pss_cons (ps_for PassesOwn.never rfl (pi_list (pv 2)) (pg_name (i := 4) scTable.nd rfl (.inl rfl)) (pss_one (ps_expr (pe_bm PySem.F.plainAttrs_list PySem.F.slot_list_append PySem.F.type_list_append mt_append (pv 3) (pa_cons (pe_lc (own := [("_law_sign", 5)]) (g := gName 5) (tt := tYes) rfl scTable.nd (pi_str (pv 4)) (blkOk_by (own := [("_law_sign", 5)]) (N := nTable) (sc := defScope lTable) (by decide +kernel)) (fun _ _ _ _ _ => pg_name (i := 5) scTable.nd rfl (.inl rfl)) (fun _ _ _ _ _ => pts_nil) (fun _ _ _ _ _ => pe_call cA.ok hr (by rfl) cA.gl cA.kp cA.bd .nil pass0 (pa_cons (pv 0) (pa_cons (pv 1) (pa_cons (pv 5) pa_nil))))) pa_nil)))))
    (pss_one (ps_ret (pv 3)))), ?_⟩
  refine ⟨Nat.zero_le _, fun t nt => ?_⟩
  have rrt : rr ≠ t := fun e => by rw [e, nt] at hR; cases hR
  refine ⟨_, rfl, rr, rfl, ⟨_, SqL.of (by rw [upd_ne rrt]; exact hR)⟩, for_list (K := K) (a := rr) (xs := rowsV R) (fun i σ G => ∃ y4 R2 T, σ = [some (.ref b), some (.str (S z)), some (.ref rr), some (.ref t), y4, none] ∧ TabB H G b l t R2 T ∧ T.length = i ∧ (∀ r ∈ T, r.length = m ∧ ∀ w ∈ r, okW w)) ⟨_, [], [], rfl, TabB.zero hb nt, rfl, fun r mr => nomatch mr⟩ (fun i σ G _ ⟨_, _, _, _, tB, _⟩ => SqL.of (tB.sb _ _ rrb hR)) ?_ ?_⟩
  · rintro i x σ G hx ⟨y4, R2, T, rfl, tB, lT, okT⟩
    obtain ⟨r, hr0, rfl⟩ := rowsV_at hx
    have mr : r ∈ R := List.mem_of_getElem? hr0
    have lr : r.length = m := g.row r mr
    have li : i < R.length := (List.getElem?_eq_some_iff.mp hr0).1
    have h8 := g.h8
    have w8 := g.w8
    refine ⟨_, rfl, .inl ⟨rfl, _, SqL.of tB.tb.1⟩, _, rfl, _, rfl, fun D nD => ?_⟩
    obtain ⟨Db, Dl⟩ := bag_not tB.bag nD
    refine lc_it walk_str (fun i2 G2 => ∃ zs : List (List Nat), zs.length = i2 ∧ (∀ w ∈ zs, okW w) ∧ SameBut b G G2 ∧ BagL G2 b l ∧ G2 D = some (.lst (rowsV zs))) ⟨[], rfl, (fun w mw => nomatch mw), sb_of (same_upd nD), bag_upd tB.bag nD, upd_same⟩ (fun _ _ _ _ => trivial) ?_ ?_
    · rintro i2 x2 G2 G3 hi2 ⟨zs, lz, okz, s2, b2, hD⟩ ⟨rfl, d, gd, rfl⟩
      have gd2 : r[i2]? = some d := by
        have y : r.toArray[i2]? = some d := gd
        rwa [List.getElem?_toArray] at y
      have li2 : i2 < r.length := (List.getElem?_eq_some_iff.mp gd2).1
      have md : d ∈ r := List.mem_of_getElem? gd2
      refine ⟨rfl, tyes (iteT ⟨_, rfl, _, rfl, _, rfl, b, l, z, d, rfl, b2, hz, g.sgn r mr d md, fun y G4 wy s4 b4 => ⟨_, s4 _ _ Db hD, by rw [rowsV_len, lz]; exact small1000 (by omega), zs ++ [y], by rw [List.length_append, lz]; rfl, fun w mw => ?_, fun c o nc e => ?_, bag_ne b4 Db Dl, ?_⟩⟩)⟩
      · rcases List.mem_append.mp mw with mw | mw
        · exact okz w mw
        · rw [List.mem_singleton.mp mw]; exact wy
      · rw [upd_ne (ne_of_none e nD)]
        exact s4 _ _ nc (s2 _ _ nc e)
      · rw [upd_same]
        unfold rowsV
        rw [List.map_append]
        rfl
    · rintro G2 ⟨zs, lz, okz, s2, b2, hD⟩
      have lz2 : zs.length = m := by
        rw [lz, ← lr]
        simp
      have tb2 := tB.tb.keep (H' := G2) fun c o mc e => s2 c o (bag_not hb (tB.nw.2 c mc)).1 e
      refine ⟨t, _, _, rfl, rfl, tb2.1, by rw [List.length_map, tB.tb.2.1, lT]; exact small1000 (by omega), _, R2 ++ [D], T ++ [zs], rfl, tB.add hb s2 b2 nD hD, by rw [List.length_append, lT]; rfl, fun q mq => ?_⟩
      rcases List.mem_append.mp mq with mq | mq
      · exact okT q mq
      · rw [List.mem_singleton.mp mq]; exact ⟨lz2, okz⟩
  · rintro σ G ⟨y4, R2, T, rfl, tB, lT, okT⟩
    rw [rowsV_len] at lT
    exact ⟨_, rfl, k t R2 T G ⟨lT, fun r mr => (okT r mr).1, g.w1, g.w8, g.h1, g.h8, fun r mr => (okT r mr).2⟩ tB⟩
end
end Pm
namespace Pm
open PySem PySem.Spec PyProof.Rows L2 SX
/-! ### != where the class has an own == and no own != -/
theorem on_plain : plainId "object.__ne__" = true := by decide +kernel
theorem on_bind (self : Value) : bindSpecial (.builtin "object.__ne__") self = pure (.builtin "object.__ne__", [self]) := rfl
section
variable {prog : Program} {w : World} {A : Around} {E : Value → Shared → Prop} {s : Shared} {K : PySem.W.Frag} {x C f : Addr} {ox : Obj} {od : Option Obj} {b tb : Value}
theorem ne_own {Q : Value → Shared → Prop} (hu : A.units + 1 < cLine) (X : K.In s.heap) (I : PySem.W.InstAt s.heap x ox C od) (hb : PySem.W.Looks (model prog w) s.heap (typeOf b) tb) (hn : PySem.W.notFirst K C tb = true)
    (sub : PySem.W.subIn K (.ref C) (.type "object") = some true) (ne : PySem.W.findIn K (.ref C) "__ne__" = some (some (.builtin "object.__ne__"))) (hs : PySem.W.findIn K (.ref C) "__eq__" = some (some (.ref f))) (hf : PySem.W.isFn K (.ref f) = true)
    (h : wpAny (model prog w) A.in1 (call (.ref f) [.ref x, b]) (fun v s' => ∃ c, v = .bool c ∧ Q (.bool (!c)) s') E s) : wpAny (model prog w) A (richCompare .NotEq (.ref x) b) Q E s := by
  have inst : PySem.W.Looks (model prog w) s.heap (isInstance (.ref x) (.type "object")) true := I.type.andThen (PySem.W.looks_subIn X sub)
  have body : wpAny (model prog w) A.in1 (Builtin.«object.__ne__» ⟨[.ref x, b], []⟩) (fun fin s' => ∃ v, fin = .done (.ret v) ∧ ∃ c, v = .bool c ∧ Q v s') E s := by
    unfold Builtin.«object.__ne__»
    refine wpAny_bind (m := slotArgs "__ne__" 1 _) (wpAny_pure ?_)
    refine wpAny_bind (wpAny_cRoomFor hu ?_)
    refine wpAny_bind (PySem.W.ifBound_K X I hs hf (wpAny_mono h (fun v s' hv => ?_) fun _ _ e => e))
    obtain ⟨c, rfl, q⟩ := hv
    refine wpAny_bind (wpAny_truthy_bool ?_)
    exact wpAny_pure ⟨_, rfl, _, rfl, q⟩
  have one : wpAny (model prog w) A (tryCompare (.ref x) "__ne__" b) (fun r s' => ∃ v, r = some v ∧ Q v s') E s := by
    unfold tryCompare
    simp only [callSpecialIfBound?, bindSpecialIfBound?]
    have fin : wpAny (model prog w) A (call (.builtin "object.__ne__") ([.ref x] ++ [b])) (fun v s' => ∃ c, v = .bool c ∧ Q v s') E s := by
      refine wpAny_call (codeAny_call_builtin on_plain F.cmpEntry_ne (PySem.W.check_slot F.cmpKind_ne F.cmpSplit_ne inst (F.cmpArgs_ne _ _) (wpAny_mono body (fun fin s' z => ?_) fun _ _ e => e)))
      obtain ⟨v, rfl, c, rfl, q⟩ := z
      exact ⟨c, rfl, q⟩
    refine wpAny_bind (wpAny_holding (wpAny_bind (wpAny_bind (wpAny_bind (I.type.here ((PySem.W.looks_findIn X ne).here ?_))))))
    refine wpAny_bind (wpAny_askSetting (wpAny_ite ?_))
    have go : wpAny (model prog w) A (call (.builtin "object.__ne__") ([.ref x] ++ [b]) >>= fun v => pure (some v)) (fun r s' => wpAny (model prog w) A (match r with
      | some .notImplemented | none => pure none
      | some v => pure (some v)) (fun r s' => ∃ v, r = some v ∧ Q v s') E s') E s := by
      refine wpAny_bind (wpAny_mono fin (fun v s' z => ?_) fun _ _ e => e)
      obtain ⟨c, rfl, q⟩ := z
      exact wpAny_pure (wpAny_pure ⟨_, rfl, q⟩)
    split
    · rw [on_bind]
      exact wpAny_bind (wpAny_pure (wpAny_pure go))
    · rw [on_bind]
      exact wpAny_tryCatch (wpAny_bind (wpAny_pure (wpAny_pure go)))
  unfold richCompare
  simp only [oneThing_ref]
  refine wpAny_holding (wpAny_bind (wpAny_cRoomFor (by omega) ?_))
  refine wpAny_bind (I.type.here (wpAny_bind (hb.here ?_)))
  have fin : wpAny (model prog w) A (tryCompare (.ref x) (cmpInfo .NotEq).2.1 b) (fun r s' => ∃ v, r = some v ∧ Q v s') E s := one
  split
  · rename_i q
    have e : PySem.W.subIn K tb (.ref C) = some false := by
      rcases Bool.or_eq_true_iff.mp hn with e | e
      · rw [beq_iff_eq.mp e] at q
        simp at q
      · exact beq_iff_eq.mp e
    refine wpAny_bind ((PySem.W.looks_subIn X e).here ?_)
    simp only [if_false, Bool.false_eq_true]
    refine wpAny_bind (wpAny_mono fin (fun r s' z => ?_) fun _ _ e => e)
    obtain ⟨v, rfl, hq⟩ := z
    exact wpAny_pure hq
  · refine wpAny_bind (wpAny_pure ?_)
    simp only [if_false, Bool.false_eq_true]
    refine wpAny_bind (wpAny_mono fin (fun r s' z => ?_) fun _ _ e => e)
    obtain ⟨v, rfl, hq⟩ := z
    exact wpAny_pure hq
end
structure OwnN (K : PySem.W.Frag) (C : Addr) : Prop where
  sub : PySem.W.subIn K (.ref C) (.type "object") = some true
  ne : PySem.W.findIn K (.ref C) "__ne__" = some (some (.builtin "object.__ne__"))
end Pm
namespace Pm
open PySem PySem.Spec PyProof.Rows L2 SX
/-! ### X(), X an own exception class -/
theorem pmk_own0 {X : Cx} {C : Addr} {bmB : List Value} {B newId initId : String} {x : Str} {p pos : Pos} (F : ExcBaseFacts B newId initId bmB) (q : PySem.W.excIn X.K C bmB newId = true) (gC : X.mg x = some (.ref C)) (kC : PySem.W.keepIn X.K (.ref C) = true) (r : Raises X (.ref C)) (hg : Gl X x)
    (dbg : (x == ("__debug__" : Str)) = false := by decide) : PMk X (.Call (.Name x p) [] [] pos) (fun _ H Q => Q (.ref C) none H) := by
  intro pins s σ H Q I h
  refine wpAny_Call_Name_kw (ld_glob I hg gC ?_ dbg)
  refine PySem.W.callWith_K0 I.kIn kC ?_
  obtain ⟨bm, N, nm, qn, bs, hdct, sn, sub, ab, col, dd, k0, k1, k2, k3, k5, mN, lkC, lkN, noI, tl⟩ := exc_obj I.kIn q
  exact wpAny_call_exc_subT F tl lkC lkN noI (fun h' e made => mk_of I made r h (I.hok.gone made.new)) (Nat.zero_le _)
/-! ### some of the cells of a list -/
theorem filt {K : PySem.W.Frag} {H1 : Hp} {a : Addr} {ks : CL} {i : Nat} {σ : L2.St} {σx : V → L2.St} {tt : TT} {p : Cell → Bool} {Q : VK} (hgn : ∀ x G (R : L2.St → Hp → Prop), R (σx x) G → gName i x (wipe σ [i]) G R) (hw : ∀ x, wipe (σx x) [i] = wipe σ [i]) (hv : ∀ x G (R : VK), R x G → tVar i (σx x) G R)
    (ha : H1 a = some (.lst (refs ks))) (ht : Tups H1 ks) (few : ks.length ≤ 900) (test : ∀ t c G (R : Bool → Hp → Prop), Same H1 G → G t = some (CellO c) → c ∈ cellsOf ks → R (p c) G → tt (σx (.ref t)) G R)
    (k : ∀ D ms G, Same H1 G → H1 D = none → G D = some (.lst (refs ms)) → Tups G ms → cellsOf ms = (cellsOf ks).filter p → Q (.ref D) G) : tLc (fun _ H R => R (Itl K a) H) (gName i) tt (tVar i) [i] σ H1 Q := by
  intro D nD
  have len : (refs ks).length = (cellsOf ks).length := by
    unfold refs cellsOf
    rw [List.length_map, List.length_map]
  have lenk : (cellsOf ks).length = ks.length := List.length_map _
  refine lc_list (K := K) (a := a) (xs := refs ks) (fun j G => Same H1 G ∧ ∃ ms, G D = some (.lst (refs ms)) ∧ Tups G ms ∧ cellsOf ms = ((cellsOf ks).take j).filter p) ⟨same_upd nD, [], upd_same, (fun q hq => nomatch hq), rfl⟩ (fun j G _ ⟨sm, _⟩ => SqL.of (sm _ _ ha)) ?_ ?_
  · rintro j x G hx ⟨sm, ms, hD, hm, em⟩
    obtain ⟨t, c, hi, rfl⟩ := refs_at hx
    have mem := List.mem_of_getElem? hi
    have htc : G t = some (CellO c) := sm _ _ (ht _ mem)
    have cj : (cellsOf ks)[j]? = some c := by
      unfold cellsOf
      rw [List.getElem?_map, hi]
      rfl
    have tk : ((cellsOf ks).take (j + 1)).filter p = ((cellsOf ks).take j).filter p ++ (if p c = true then [c] else []) := by
      rw [List.take_add_one, cj, List.filter_append]
      congr 1
      by_cases pc : p c = true
      · rw [if_pos pc]
        simp [pc]
      · rw [if_neg pc]
        simp [pc]
    have fewm : ms.length ≤ 900 := by
      have z := congrArg List.length em
      have y := List.length_filter_le p ((cellsOf ks).take j)
      rw [List.length_take] at y
      rw [show (cellsOf ms).length = ms.length from List.length_map _] at z
      omega
    refine hgn _ _ _ ⟨hw _, test t c G _ sm htc (List.mem_of_getElem? cj) ?_⟩
    by_cases pc : p c = true
    · rw [if_pos pc] at tk
      refine iteTe pc (hv _ _ _ ⟨refs ms, hD, ?_, fun b o e => ?_, ms ++ [(t, c)], ?_, ?_, ?_⟩)
      · unfold refs
        rw [List.length_map]
        exact small1000 (by omega)
      · rw [upd_ne (ne_of_none e nD)]
        exact sm _ _ e
      · rw [upd_same]
        unfold refs
        rw [List.map_append]
        rfl
      · intro q hq
        rcases List.mem_append.mp hq with y | y
        · have z := hm q y
          rw [upd_ne (ne_of z hD (by intro q; cases q))]
          exact z
        · rw [List.mem_singleton.mp y, upd_ne (ne_of htc hD (by intro q; cases q))]
          exact htc
      · rw [tk, ← em]
        unfold cellsOf
        rw [List.map_append]
        rfl
    · rw [if_neg pc, List.append_nil] at tk
      exact iteFe (by simpa using pc) ⟨sm, ms, hD, hm, by rw [tk]; exact em⟩
  · rintro G ⟨sm, ms, hD, hm, em⟩
    rw [List.take_of_length_le (by omega)] at em
    exact k D ms G sm nD hD hm em
/-! ### a new region -/
section
variable {P : Program} {w : World} {K : PySem.W.Frag} {mg : Str → Option Value} {base : Heap} {C CI CO CG CR CU : Addr}
theorem make_reg {CR : Addr} {H : Hp} {a : Addr} {ks : CL} {Q : VK} (ha : H a = some (.lst (refs ks))) (ht : Tups H ks) (few : ks.length ≤ 64) (k : ∀ z L H', Same H H' → H z = none → Reading (cellsOf ks) L → RegAt CR H' z L → Q (.ref z) H') :
    ∀ x dx, H x = none → H dx = none → dx ≠ x → spRInit K CR (.ref x :: ([.ref a] ++ [])) (upd (upd H dx (.own x)) x (.ins CR dx [])) (fun v H2 => v = .non ∧ Q (.ref x) H2) E0 := by
  intro x dx nx ndx nex
  have s2 := made_same (C := CR) nx ndx
  exact ⟨x, dx, a, ks, rfl, upd_same, SqL.of (s2 _ _ ha), ht.same s2, few, fun H4 M rd ra sb4 => ⟨rfl, k x M H4 (made_but nx ndx sb4) nx rd ra⟩⟩
theorem reading_asc {M L : List Cell} (h : Reading M L) (asc : M.Pairwise bef) : L = M := asc_uniq h.asc asc h.mem
/-! ### first - second -/
end
end Pm
namespace Pm
open PySem PySem.Spec PyProof.Rows L2 SX
/-! ### stones, holes -/
def stonesOf (R : Rows) (n : Nat) : List Cell := (allC n R.length).filter fun c => decide (signAt R c.1 c.2 ≠ [46])
def holesOf (R : Rows) (n : Nat) : List Cell := (allC n R.length).filter fun c => decide (signAt R c.1 c.2 = [46])
theorem str_ne (z : List Nat) : (!decide (V.str (S z) = V.str ("." : Str))) = decide (z ≠ [46]) := by
  rw [dot_S]
  by_cases e : z = [46]
  · simp [e]
  · have e2 : ¬ S z = S [46] := fun y => e (S_inj y)
    simp [e, e2]
theorem str_eq (z : List Nat) : decide (V.str (S z) = V.str ("." : Str)) = decide (z = [46]) := by
  rw [dot_S]
  by_cases e : z = [46]
  · simp [e]
  · have e2 : ¬ S z = S [46] := fun y => e (S_inj y)
    simp [e, e2]
/-! ### their number -/
theorem range_filter (p : Nat → Bool) : ∀ r : List Nat, ((List.range r.length).filter fun i => p (r.getD i 0)).length = (r.filter p).length := by
  intro r
  have e : r = (List.range r.length).map fun i => r.getD i 0 := by
    refine List.ext_getElem (by simp) fun i h1 h2 => ?_
    simp [List.getD_eq_getElem?_getD, h1]
  have e2 : (r.filter p).length = (((List.range r.length).map fun i => r.getD i 0).filter p).length := by rw [← e]
  rw [e2, List.filter_map, List.length_map]
  rfl
theorem row_stones {R : Rows} {n j : Nat} (g : Grid R n) (hj : j < R.length) : ((rowC n j).filter fun c => decide (signAt R c.1 c.2 ≠ [46])).length = ((rowAt R j).filter fun c => c != 46).length := by
  obtain ⟨e1, m1, l1⟩ := g.at hj
  unfold rowC
  have z := range_filter (fun c => c != 46) (rowAt R j)
  rw [l1] at z
  rw [List.filter_map, List.length_map, ← z]
  congr 1
  refine List.filter_congr fun i hi => ?_
  have hi := List.mem_range.mp hi
  show decide (signAt R ((i : Nat) : Int) ((j : Nat) : Int) ≠ [46]) = _
  have es : signAt R ((i : Nat) : Int) ((j : Nat) : Int) = [(rowAt R j).getD i 0] := by
    unfold signAt
    rw [if_pos (inB_in g (by omega) (by omega) (by omega) (by omega))]
    rfl
  generalize signAt R ((i : Nat) : Int) ((j : Nat) : Int) = sg at es
  subst es
  generalize (rowAt R j).getD i 0 = d
  by_cases z : d = 46
  · simp [z]
  · simp [z]
def signsOf (R : Rows) : List Nat := R.flatMap fun r => r.filter fun c => c != 46
theorem signs_count {R : Rows} {n : Nat} (g : Grid R n) : ∀ m, m ≤ R.length → ((allC n m).filter fun c => decide (signAt R c.1 c.2 ≠ [46])).length = (signsOf (R.take m)).length
  | 0, _ => rfl
  | m + 1, h => by
    have ih := signs_count g m (by omega)
    obtain ⟨e1, _, _⟩ := g.at (show m < R.length by omega)
    have e2 : R.take (m + 1) = R.take m ++ [rowAt R m] := by
      rw [List.take_add_one, e1]
      rfl
    show ((allC n m ++ rowC n m).filter _).length = _
    rw [List.filter_append, List.length_append, ih, row_stones g (by omega), e2]
    unfold signsOf
    rw [List.flatMap_append, List.length_append]
    simp
theorem stones_count {R : Rows} {n : Nat} (g : Grid R n) : (signsOf R).length = (stonesOf R n).length := by
  have e := signs_count g R.length (Nat.le_refl _)
  rw [List.take_of_length_le (Nat.le_refl _)] at e
  exact e.symm
theorem stones_le {R : Rows} {n : Nat} (g : Grid R n) : (stonesOf R n).length ≤ 64 := by
  have y := List.length_filter_le (fun c => decide (signAt R c.1 c.2 ≠ [46])) (allC n R.length)
  rw [allC_len] at y
  have := Nat.mul_le_mul g.h8 g.w8
  exact Nat.le_trans y this
section
variable {P : Program} {w : World} {K : PySem.W.Frag} {mg : Str → Option Value} {base : Heap} {C CI CO CG CR CU : Addr}
def spSome (C CR : Addr) (f : Rows → Nat → List Cell) : Sp := fun vs H Q _ => ∃ r R n, vs = [.ref r] ∧ PicAt C H r R ∧ Grid R n ∧ ∀ z H', Same H H' → H z = none → RegAt CR H' z (f R n) → Q (.ref z) H'
abbrev nSome : List Str := ["self", "cell"]
theorem scStones : FnScope nSome ["self"] (defScope cPictureStones) := ⟨rfl, rfl, rfl, by decide +kernel, rfl, by decide +kernel, by decide +kernel⟩
theorem scHoles : FnScope nSome ["self"] (defScope cPictureHoles) := ⟨rfl, rfl, rfl, by decide +kernel, rfl, by decide +kernel, by decide +kernel⟩
theorem ok_stones {f fE fG fI : Addr} {fd dE dG dI : FuncData} {uh : Value} (F : Fun K "stones" "Picture.stones" cPictureStones f fd) (T : PCls K C) (OE : FnOk P w K mg base CX0 1 fE dE ["self"] (spEvery C)) (mE : Meth K C "every_cell" fE) (bE : Binds K dE ["self"] [])
    (OG : FnOk P w K mg base CX0 2 fG dG ["self", "at"] (spItem C)) (mG : OwnM K C "__getitem__" fG) (fi : PySem.W.fnIn K fG = true) (bG : Binds K dG ["self", "at"] []) (cH : Con K C "HOLE" (.str ".") uh)
    (OI : FnOk P w K mg base CX0 1 fI dI ["self", "cells"] (spRInit K CR)) (M : Mk K CR fI) (bI : Binds K dI ["self", "cells"] []) (gR : mg "Region" = some (.ref CR)) : FnOk P w K mg base CX0 4 f fd ["self"] (spSome C CR stonesOf) := by
  refine F.ok scStones (fun vs H Q E h => ?_) (fun cdv A outer s H vs Q E hr h => ?_)
  · obtain ⟨r, R, n, rfl, _⟩ := h
    rfl
  · obtain ⟨r, R, n, rfl, hp, g, k⟩ := h
    have hr1 : Room 1 _ := hr.mono (by decide)
    have hr2 : Room 2 _ := hr.mono (by decide)
    refine ⟨_, pss_one (ps_ret (pe_make M OI hr2 (by rfl) gR bI .nil pass0 (pa_cons (pe_lc (own := [("cell", 1)]) (g := gName 1) (tt := tTest (tOp rNe (tOp (rItem C (spItem C)) (tVar 0) (tVar 1)) (tCon K (tVar 0) "HOLE"))) (te := tVar 1) rfl scStones.nd (pi_list (pe_meth0 (pv 0) T.cl mE OE hr1 bE .nil pass0))
        (blkOk_by (own := [("cell", 1)]) (N := nSome) (sc := defScope cPictureStones) (by decide +kernel)) (fun _ _ _ _ _ => pg_name (i := 1) scStones.nd rfl (Or.inl rfl)) (fun _ _ _ _ _ => pts_one (pt_cmpR op_ne (pe_item OG hr bG mG fi (pv 0) (pv 1)) (pe_con (pv 0) rfl) (nomark _)))
        (fun _ _ _ _ _ => pv 1)) pa_nil))), ?_⟩
    have hp0 := hp
    obtain ⟨dx, l, h1, h2⟩ := hp
    refine ⟨_, rfl, r, dx, _, rfl, h1, rfl, r, R, n, rfl, hp0, g, fun p ks H1 sm1 np hpk hks eks => ?_⟩
    have lks : ks.length ≤ 64 := by
      have z := congrArg List.length eks
      rw [allC_len, show (cellsOf ks).length = ks.length from List.length_map _] at z
      have := Nat.mul_le_mul g.h8 g.w8
      omega
    refine ⟨p, rfl, ⟨_, SqL.of hpk⟩, ?_⟩
    refine filt (K := K) (tt := tTest (tOp rNe (tOp (rItem C (spItem C)) (tVar 0) (tVar 1)) (tCon K (tVar 0) "HOLE"))) (Q := fun v H1 => ∀ x dx, H1 x = none → H1 dx = none → dx ≠ x → spRInit K CR (.ref x :: ([v] ++ [])) (upd (upd H1 dx (.own x)) x (.ins CR dx [])) (fun v H2 => v = .non ∧ Q (.ref x) H2) E0) (i := 1) (σ := [some (.ref r), none]) (σx := fun x => [some (.ref r), some x]) (p := fun c => decide (signAt R c.1 c.2 ≠ [46]))
      (fun x G R h => h) (fun x => rfl) (fun x G R h => ⟨_, rfl, h⟩) hpk hks (by omega) (fun t c G Rr sm htc hc hR => ?_) fun D ms G sm nD hD hm em => ?_
    · have sG := sm1.trans sm
      refine ⟨_, rfl, _, rfl, r, dx, _, rfl, sG _ _ h1, r, R, n, t, c.1, c.2, rfl, hp0.same sG, g, htc, _, rfl, r, C, dx, _, _, _, rfl, sG _ _ h1, T.cl, cH, rfl, rfl, _, rfl, ?_⟩
      rw [str_ne]
      exact hR
    · have sG := sm1.trans sm
      have lms : ms.length ≤ 64 := by
        have z := congrArg List.length em
        have y := List.length_filter_le (fun c => decide (signAt R c.1 c.2 ≠ [46])) (cellsOf ks)
        rw [show (cellsOf ms).length = ms.length from List.length_map _] at z
        rw [show (cellsOf ks).length = ks.length from List.length_map _] at y
        omega
      refine make_reg hD hm lms fun z L H' s2' nz rd ra => k z H' (sG.trans s2') (back sG nz) ?_
      have eL : L = stonesOf R n := by
        rw [em, eks] at rd
        exact reading_asc rd ((allC_asc n R.length).sublist List.filter_sublist)
      rw [← eL]
      exact ra
theorem ok_holes {f fE fG fI : Addr} {fd dE dG dI : FuncData} {uh : Value} (F : Fun K "holes" "Picture.holes" cPictureHoles f fd) (T : PCls K C) (OE : FnOk P w K mg base CX0 1 fE dE ["self"] (spEvery C)) (mE : Meth K C "every_cell" fE) (bE : Binds K dE ["self"] [])
    (OG : FnOk P w K mg base CX0 2 fG dG ["self", "at"] (spItem C)) (mG : OwnM K C "__getitem__" fG) (fi : PySem.W.fnIn K fG = true) (bG : Binds K dG ["self", "at"] []) (cH : Con K C "HOLE" (.str ".") uh)
    (OI : FnOk P w K mg base CX0 1 fI dI ["self", "cells"] (spRInit K CR)) (M : Mk K CR fI) (bI : Binds K dI ["self", "cells"] []) (gR : mg "Region" = some (.ref CR)) : FnOk P w K mg base CX0 4 f fd ["self"] (spSome C CR holesOf) := by
  refine F.ok scHoles (fun vs H Q E h => ?_) (fun cdv A outer s H vs Q E hr h => ?_)
  · obtain ⟨r, R, n, rfl, _⟩ := h
    rfl
  · obtain ⟨r, R, n, rfl, hp, g, k⟩ := h
    have hr1 : Room 1 _ := hr.mono (by decide)
    have hr2 : Room 2 _ := hr.mono (by decide)
    refine ⟨_, pss_one (ps_ret (pe_make M OI hr2 (by rfl) gR bI .nil pass0 (pa_cons (pe_lc (own := [("cell", 1)]) (g := gName 1) (tt := tTest (tOp rEq (tOp (rItem C (spItem C)) (tVar 0) (tVar 1)) (tCon K (tVar 0) "HOLE"))) (te := tVar 1) rfl scHoles.nd (pi_list (pe_meth0 (pv 0) T.cl mE OE hr1 bE .nil pass0))
        (blkOk_by (own := [("cell", 1)]) (N := nSome) (sc := defScope cPictureHoles) (by decide +kernel)) (fun _ _ _ _ _ => pg_name (i := 1) scHoles.nd rfl (Or.inl rfl)) (fun _ _ _ _ _ => pts_one (pt_cmpR op_eq (pe_item OG hr bG mG fi (pv 0) (pv 1)) (pe_con (pv 0) rfl) (nomark _)))
        (fun _ _ _ _ _ => pv 1)) pa_nil))), ?_⟩
    have hp0 := hp
    obtain ⟨dx, l, h1, h2⟩ := hp
    refine ⟨_, rfl, r, dx, _, rfl, h1, rfl, r, R, n, rfl, hp0, g, fun p ks H1 sm1 np hpk hks eks => ?_⟩
    have lks : ks.length ≤ 64 := by
      have z := congrArg List.length eks
      rw [allC_len, show (cellsOf ks).length = ks.length from List.length_map _] at z
      have := Nat.mul_le_mul g.h8 g.w8
      omega
    refine ⟨p, rfl, ⟨_, SqL.of hpk⟩, ?_⟩
    refine filt (K := K) (tt := tTest (tOp rEq (tOp (rItem C (spItem C)) (tVar 0) (tVar 1)) (tCon K (tVar 0) "HOLE"))) (Q := fun v H1 => ∀ x dx, H1 x = none → H1 dx = none → dx ≠ x → spRInit K CR (.ref x :: ([v] ++ [])) (upd (upd H1 dx (.own x)) x (.ins CR dx [])) (fun v H2 => v = .non ∧ Q (.ref x) H2) E0) (i := 1) (σ := [some (.ref r), none]) (σx := fun x => [some (.ref r), some x]) (p := fun c => decide (signAt R c.1 c.2 = [46]))
      (fun x G R h => h) (fun x => rfl) (fun x G R h => ⟨_, rfl, h⟩) hpk hks (by omega) (fun t c G Rr sm htc hc hR => ?_) fun D ms G sm nD hD hm em => ?_
    · have sG := sm1.trans sm
      refine ⟨_, rfl, _, rfl, r, dx, _, rfl, sG _ _ h1, r, R, n, t, c.1, c.2, rfl, hp0.same sG, g, htc, _, rfl, r, C, dx, _, _, _, rfl, sG _ _ h1, T.cl, cH, rfl, rfl, _, rfl, ?_⟩
      rw [str_eq]
      exact hR
    · have sG := sm1.trans sm
      have lms : ms.length ≤ 64 := by
        have z := congrArg List.length em
        have y := List.length_filter_le (fun c => decide (signAt R c.1 c.2 = [46])) (cellsOf ks)
        rw [show (cellsOf ms).length = ms.length from List.length_map _] at z
        rw [show (cellsOf ks).length = ks.length from List.length_map _] at y
        omega
      refine make_reg hD hm lms fun z L H' s2' nz rd ra => k z H' (sG.trans s2') (back sG nz) ?_
      have eL : L = holesOf R n := by
        rw [em, eks] at rd
        exact reading_asc rd ((allC_asc n R.length).sublist List.filter_sublist)
      rw [← eL]
      exact ra
/-! ### len(picture) -/
def spLenP (C : Addr) : Sp := fun vs H Q _ => ∃ r R n, vs = [.ref r] ∧ PicAt C H r R ∧ Grid R n ∧ ∀ H', Same H H' → Q (.int ((stonesOf R n).length : Int)) H'
abbrev nLenP : List Str := ["self", "row", "sign"]
theorem scLenP : FnScope nLenP ["self"] (defScope cPictureLen) := ⟨rfl, rfl, rfl, by decide +kernel, rfl, by decide +kernel, by decide +kernel⟩
theorem ok_lenp {f : Addr} {fd : FuncData} {uh : Value} (F : Fun K "__len__" "Picture.__len__" cPictureLen f fd) (L : LTxt K mg) (T : PCls K C) (cH : Con K C "HOLE" (.str ".") uh) : FnOk P w K mg base CX0 1 f fd ["self"] (spLenP C) := by
  refine F.ok scLenP (fun vs H Q E h => ?_) (fun cdv A outer s H vs Q E hr h => ?_)
  · obtain ⟨r, R, n, rfl, _⟩ := h
    rfl
  · obtain ⟨r, R, n, rfl, ⟨dx, l, h1, h2⟩, g, k⟩ := h
    refine ⟨_, pss_one (ps_ret (pe_callB call_len_seq (by rfl) L.len PySem.boot_len (pa_cons (pe_lc2 (own := [("row", 1), ("sign", 2)]) (vs1 := [2]) (g := gName 1) (g1 := gName 2) (tt := tYes) (tt1 := tTest (tOp rNe (tVar 2) (tCon K (tVar 0) "HOLE"))) (wi1 := iStr (tVar 1)) (te := tVar 2) rfl scLenP.nd (pi_list (pe_fld (pv 0) rfl)) (blkOk_by (own := [("row", 1), ("sign", 2)]) (N := nLenP) (sc := defScope cPictureLen) (by decide +kernel)) (by decide)
      (fun _ _ _ _ _ => pg_name (i := 1) scLenP.nd rfl (.inl rfl)) (fun _ _ _ _ _ => pts_nil) (fun _ _ _ _ _ => pi_str (pv 1)) (fun _ _ _ _ _ => pg_name (i := 2) scLenP.nd rfl (.inl rfl)) (fun _ _ _ _ _ => pts_one (pt_cmpR op_ne (pv 2) (pe_con (pv 0) rfl) (nomark _))) (fun _ _ _ _ _ => pv 2)) pa_nil))), ?_⟩
    have w8 := g.w8
    have h8 := g.h8
    refine ⟨_, rfl, r, C, dx, _, _, rfl, h1, T.cl, T.nR, rfl, l, rfl, ⟨_, SqL.of h2⟩, fun D nD => ?_⟩
    let strL : List Nat → List V := fun z => z.map fun c => V.str (S [c])
    refine ⟨fun j m G => m = R.length - j ∧ j ≤ R.length ∧ Same H G ∧ G D = some (.lst (strL (signsOf (R.take j)))), ⟨R.length, by simp, Nat.zero_le _, same_upd nD, upd_same⟩, ?_⟩
    rintro j m G ⟨rfl, hj, sG, hD⟩
    have hl : G l = some (.lst (rowsV R)) := sG _ _ h2
    by_cases lt : j < R.length
    · obtain ⟨e1, m1, l1⟩ := g.at lt
      have ev := rowsV_get g lt
      refine .inr ⟨⟨rowsV R, _, SqL.of hl, ev⟩, fun G => Same H G ∧ G D = some (.lst (strL (signsOf (R.take (j + 1))))), fun G' p' => ⟨R.length - (j + 1), by omega, rfl, lt, p'⟩, fun x G' y => ?_⟩
      obtain ⟨rfl, y⟩ := y
      have z := y _ (SqL.of hl)
      rw [ev] at z
      obtain rfl := Option.some.inj z
      clear y z
      have next : signsOf (R.take (j + 1)) = signsOf (R.take j) ++ (rowAt R j).filter fun c => c != 46 := by
        have e2 : R.take (j + 1) = R.take j ++ [rowAt R j] := by
          rw [List.take_add_one, e1]
          rfl
        rw [e2]
        unfold signsOf
        rw [List.flatMap_append]
        simp
      have few : (signsOf (R.take j)).length ≤ 64 := by
        rw [← signs_count g j hj]
        have y := List.length_filter_le (fun c => decide (signAt R c.1 c.2 ≠ [46])) (allC n j)
        rw [allC_len] at y
        have := Nat.mul_le_mul (show j ≤ 8 by omega) w8
        exact Nat.le_trans y this
      have sz : (S (rowAt R j)).cps.size = n := by
        have z := len_S (rowAt R j)
        rw [l1] at z
        exact z
      refine ⟨rfl, tyes (iteT ⟨_, rfl, S (rowAt R j), rfl, ?_⟩)⟩
      refine ⟨fun i k G => k = n - i ∧ i ≤ n ∧ Same H G ∧ G D = some (.lst (strL (signsOf (R.take j) ++ ((rowAt R j).take i).filter fun c => c != 46))), ⟨n, by simp, Nat.zero_le _, sG, by rw [List.take_zero, List.filter_nil, List.append_nil]; exact hD⟩, ?_⟩
      rintro i m G1 ⟨rfl, hi, sG1, hD1⟩
      by_cases lti : i < n
      · refine .inr ⟨by show i < (S (rowAt R j)).cps.size; omega, fun G => Same H G ∧ G D = some (.lst (strL (signsOf (R.take j) ++ ((rowAt R j).take (i + 1)).filter fun c => c != 46))), fun G' p' => ⟨n - (i + 1), by omega, rfl, lti, p'⟩, fun x G' y => ?_⟩
        obtain ⟨rfl, c, hc, rfl⟩ := y
        have hc : (rowAt R j)[i]? = some c := by
          rw [← hc]
          show _ = ((rowAt R j).toArray)[i]?
          simp
        have tk : ((rowAt R j).take (i + 1)).filter (fun c => c != 46) = ((rowAt R j).take i).filter (fun c => c != 46) ++ (if c = 46 then [] else [c]) := by
          rw [List.take_add_one, hc, List.filter_append]
          congr 1
          by_cases z : c = 46 <;> simp [z]
        have few2 : (((rowAt R j).take i).filter fun c => c != 46).length ≤ 8 := by
          have y := List.length_filter_le (fun c => c != 46) ((rowAt R j).take i)
          rw [List.length_take] at y
          omega
        have eb : (!decide (V.str (S [c]) = V.str ("." : Str))) = decide ([c] ≠ [46]) := str_ne [c]
        refine ⟨rfl, _, rfl, _, rfl, r, C, dx, _, _, _, rfl, sG1 _ _ h1, T.cl, cH, rfl, rfl, _, rfl, ?_⟩
        by_cases z : c = 46
        · subst z
          refine iteFe (eb.trans (by decide)) ⟨sG1, ?_⟩
          rw [tk, if_pos rfl, List.append_nil]
          exact hD1
        · refine iteTe (eb.trans (decide_eq_true (fun y => z (by simpa using y)))) ⟨_, rfl, _, hD1, ?_, fun b o e => ?_, ?_⟩
          · rw [List.length_map, List.length_append]
            exact small1000 (by omega)
          · rw [upd_ne (ne_of_none e nD)]
            exact sG1 _ _ e
          · rw [upd_same, tk, if_neg z, ← List.append_assoc]
            show _ = some (HO.lst ((_ ++ [c]).map _))
            rw [List.map_append]
            rfl
      · have e : i = n := by omega
        subst e
        refine .inl ⟨by show (S (rowAt R j)).cps.size ≤ i; omega, sG1, ?_⟩
        rw [next]
        have tl : (rowAt R j).take i = rowAt R j := List.take_of_length_le (by omega)
        rw [tl] at hD1
        exact hD1
    · have e : j = R.length := by omega
      subst e
      rw [List.take_of_length_le (Nat.le_refl _)] at hD
      refine .inl ⟨⟨rowsV R, SqL.of hl, by rw [rowsV_len]; exact Nat.le_refl _⟩, D, _, rfl, .inl (SqL.of hD), ?_⟩
      have z := k G sG
      rw [← stones_count g] at z
      rw [show (strL (signsOf R)).length = (signsOf R).length from List.length_map _]
      exact z
end
end Pm
namespace Pm
open PySem PySem.Spec PyProof.Rows L2 SX
/-! ### first == second -/
/-- what the text says further of the class of pictures -/
structure PKit (K : PySem.W.Frag) (mg : Str → Option Value) (C : Addr) : Prop where
  gC : mg "Picture" = some (.ref C)
  ca : PySem.W.findIn K (.ref C) "__class__" = some (some (.builtin "object.__class__"))
  cn : PySem.W.specialIn K (.builtin "object.__class__") "__get__" = some (some (.builtin "getset_descriptor.__get__"))
  ct : PySem.W.takesIn K (.builtin "object.__class__") = some true
  cm : PySem.W.mroIn K C (.type "object") = some true
  kk : PySem.W.kitOne K (.ref C) (.ref C) = some true
section
variable {P : Program} {w : World} {K : PySem.W.Frag} {mg : Str → Option Value} {base : Heap} {C : Addr}
theorem PKit.ty (Y : PKit K mg C) (T : PCls K C) {H : Hp} {r : Addr} {R : Rows} (h : PicAt C H r R) : TyX K H (.ref r) (.ref C) := by
  obtain ⟨dx, d, hr, _⟩ := h
  exact .base (.ins hr T.cl Y.ca Y.cn Y.ct Y.cm)
def spPEq (C : Addr) : Sp := fun vs H Q _ => ∃ r q R R2, vs = [.ref r, .ref q] ∧ PicAt C H r R ∧ PicAt C H q R2 ∧ Low R ∧ Low R2 ∧ Q (.bl (decide (R = R2))) H
theorem scPEq : FnScope ["self", "other"] ["self", "other"] (defScope cPictureEq) := ⟨rfl, rfl, rfl, by decide +kernel, rfl, by decide +kernel, by decide +kernel⟩
theorem ok_peq {f : Addr} {fd : FuncData} (F : Fun K "__eq__" "Picture.__eq__" cPictureEq f fd) (L : LTxt K mg) (T : PCls K C) (Y : PKit K mg C) : FnOk P w K mg base CX0 1 f fd ["self", "other"] (spPEq C) := by
  refine F.ok scPEq (fun vs H Q E h => ?_) (fun cdv A outer s H vs Q E hr h => ?_)
  · obtain ⟨r, q, R, R2, rfl, _⟩ := h
    rfl
  · obtain ⟨r, q, R, R2, rfl, hp, hq, lo, lo2, k⟩ := h
    refine ⟨_, pss_one (ps_ret (pe_and (pe_callB call_isi (by rfl) L.isi (by decide +kernel) (pa_cons (pv 1) (pa_cons (pe_glob (v := .ref C) (by rfl) Y.gC rfl) pa_nil)))
      (pe_one (pe_cmpR (op_eqD hr.units) (pe_fld (pv 0) rfl) (pe_fld (pv 1) rfl) (nomark _))))), ?_⟩
    refine ⟨_, rfl, .ref q, .ref C, .ref C, .ref C, true, rfl, .own C, Y.ty T hq, Y.kk, true, rfl, ?_⟩
    obtain ⟨dx, l, h1, h2⟩ := hp
    obtain ⟨dy, l2, h3, h4⟩ := hq
    refine ⟨_, rfl, r, C, dx, _, _, rfl, h1, T.cl, T.nR, rfl, _, rfl, q, C, dy, _, _, rfl, h3, T.cl, T.nR, rfl, _, _, dp_list h2, dp_list h4, dRs_shaped lo, dRs_shaped lo2, ?_⟩
    rw [dRs_eqv]
    exact k
theorem okw_peq {f : Addr} {fd : FuncData} (F : Fun K "__eq__" "Picture.__eq__" cPictureEq f fd) (L : LTxt K mg) (T : PCls K C) (Y : PKit K mg C) : FnW P w K mg base CX0 1 f fd ["self", "other"] (spPEq C) := by
  refine fnW_of F scPEq (fun vs H Q E h => ?_) (fun cdv A outer s H vs Q E p hr h => ?_)
  · obtain ⟨r, q, R, R2, rfl, _⟩ := h
    rfl
  · obtain ⟨r, q, R, R2, rfl, hp, hq, lo, lo2, k⟩ := h
    have un : (A.deeper (envOfC ("Picture.__eq__" : Str) (defScope cPictureEq) s.heap.objs.size f cdv)).units + 64 < cLine := by
      have := hr.un
      omega
    refine ⟨_, pss_one (ps_ret (pe_and (pe_callB call_isi (by rfl) L.isi (by decide +kernel) (pa_cons (pv 1) (pa_cons (pe_glob (v := .ref C) (by rfl) Y.gC rfl) pa_nil)))
      (pe_one (pe_cmpR (op_eqD un) (pe_fld (pv 0) rfl) (pe_fld (pv 1) rfl) (nomark _))))), ?_⟩
    refine ⟨_, rfl, .ref q, .ref C, .ref C, .ref C, true, rfl, .own C, Y.ty T hq, Y.kk, true, rfl, ?_⟩
    obtain ⟨dx, l, h1, h2⟩ := hp
    obtain ⟨dy, l2, h3, h4⟩ := hq
    refine ⟨_, rfl, r, C, dx, _, _, rfl, h1, T.cl, T.nR, rfl, _, rfl, q, C, dy, _, _, rfl, h3, T.cl, T.nR, rfl, _, _, dp_list h2, dp_list h4, dRs_shaped lo, dRs_shaped lo2, ?_⟩
    rw [dRs_eqv]
    exact k
end
section
variable {X : Cx} {C f : Addr} {fd : FuncData} {k : Nat}
def rPEq (C : Addr) (neg : Bool) : R2 := fun x y H Q => ∃ r q R R2, x = .ref r ∧ y = .ref q ∧ PicAt C H r R ∧ PicAt C H q R2 ∧ Low R ∧ Low R2 ∧ Q (.bl (neg != decide (R = R2))) H
theorem op_peq (O : FnOk X.prog X.w X.K X.mg X.base CX0 k f fd ["self", "other"] (spPEq C)) (hr : Room k X.A) (b : Binds X.K fd ["self", "other"] []) (m : OwnM X.K C "__eq__" f) : OpR X (compareOp .Eq) (rPEq C false) := by
  intro pins s σ H x y v u Q I rx ry h
  obtain ⟨r, q, R, R2, rfl, rfl, hp, hq, lo, lo2, go⟩ := h
  obtain rfl : v = Value.ref r := rx
  obtain rfl : u = Value.ref q := ry
  obtain ⟨ox, od, J⟩ := pic_inst I hp
  obtain ⟨ox', od', J'⟩ := pic_inst I hq
  obtain ⟨mm, hF⟩ := I.fr
  have hu := hr.un
  show wpAny _ _ (richCompare .Eq _ _) _ _ _
  refine PySem.W.cmp_K (op := .Eq) (by omega) hF I.ok.mod.kin J J'.type (by simp [PySem.W.notFirst]) m.at_ m.fn ?_
  refine wpAny_mono (run_at (Q := fun v H' => v = .bl (decide (R = R2)) ∧ H' = H) (E := E0) (vs := [.ref r, .ref q]) O hr rfl b pass0 I (.cons rfl (.cons rfl .nil)) ⟨r, q, R, R2, rfl, hp, hq, lo, lo2, rfl, rfl⟩) (fun v s' z => ?_) fun _ _ z => z
  obtain ⟨v', H', I', rv, rfl, rfl⟩ := z
  cases rv
  refine ⟨.bl (decide (R = R2)), H', I', rfl, ?_⟩
  rw [show decide (R = R2) = (false != decide (R = R2)) by simp]
  exact go
theorem op_pne (O : FnOk X.prog X.w X.K X.mg X.base CX0 k f fd ["self", "other"] (spPEq C)) (hr : Room (k + 1) X.A) (b : Binds X.K fd ["self", "other"] []) (N0 : OwnN X.K C) (m : OwnM X.K C "__eq__" f) : OpR X (compareOp .NotEq) (rPEq C true) := by
  intro pins s σ H x y v u Q I rx ry h
  obtain ⟨r, q, R, R2, rfl, rfl, hp, hq, lo, lo2, go⟩ := h
  obtain rfl : v = Value.ref r := rx
  obtain rfl : u = Value.ref q := ry
  obtain ⟨ox, od, J⟩ := pic_inst I hp
  obtain ⟨ox', od', J'⟩ := pic_inst I hq
  have hu := hr.un
  refine ne_own (tb := .ref C) (by omega) I.kIn J J'.type (by simp [PySem.W.notFirst]) N0.sub N0.ne m.at_ m.fn ?_
  refine wpAny_mono (run_at (Q := fun v H' => v = .bl (decide (R = R2)) ∧ H' = H) (E := E0) (vs := [.ref r, .ref q]) O hr.in1 rfl b pass0 I (.cons rfl (.cons rfl .nil)) ⟨r, q, R, R2, rfl, hp, hq, lo, lo2, rfl, rfl⟩) (fun v s' z => ?_) fun _ _ z => z
  obtain ⟨v', H', I', rv, rfl, rfl⟩ := z
  cases rv
  refine ⟨decide (R = R2), rfl, .bl (!decide (R = R2)), H', I', rfl, ?_⟩
  rw [show (!decide (R = R2)) = (true != decide (R = R2)) by simp]
  exact go
/-- where something is pinned -/
theorem run_w {p : Addr × Obj} {ps : List Str} {sp : Sp} {pins : List (Addr × Obj)} {σ : L2.St} {H : Hp} {s : Shared} {Q : VK} {us : List Value} {vs : List V} (F : FnW X.prog X.w X.K X.mg X.base CX0 k f fd ps sp) (hr : L2H.RoomH k X.A) (hp : p ∈ X.pn) (hb : Binds X.K fd ps []) (I : L2.Inv X pins σ H s)
    (rv : Vals vs us) (asked : sp vs H Q E0) : wpAny (model X.prog X.w) X.A (call (.ref f) us) (EP X pins σ Q) X.xe s := by
  have len : us.length = ps.length := rv.length.symm.trans (F.len _ _ _ _ asked)
  have bind := hb s us I.kIn (by rw [List.append_nil]; exact len)
  rw [List.append_nil] at bind
  obtain ⟨p1, p2, p3, p4, p5⟩ := I.pin p (List.mem_append_left _ hp)
  have pin : L2H.PinOk X.stack H s p := ⟨p1, p2, fun hm => (List.mem_cons.mp (I.stkSub p.1 hm)).elim p3 p4, p5⟩
  refine wpAny_call (codeAny_mono (F.run X.A X.stack s H ⟨us, []⟩ us vs Q E0 p hr pin I.env0 bind rv asked) fun r s2 z => ?_)
  cases r with
  | error er => exact z.elim
  | ok fl =>
    cases fl with
    | ret u => exact I.after z
    | next => exact z.elim
    | brk => exact z.elim
    | cont => exact z.elim
theorem op_peqW {p : Addr × Obj} (O : FnW X.prog X.w X.K X.mg X.base CX0 k f fd ["self", "other"] (spPEq C)) (hr : L2H.RoomH k X.A) (hpn : p ∈ X.pn) (b : Binds X.K fd ["self", "other"] []) (m : OwnM X.K C "__eq__" f) : OpR X (compareOp .Eq) (rPEq C false) := by
  intro pins s σ H x y v u Q I rx ry h
  obtain ⟨r, q, R, R2, rfl, rfl, hp, hq, lo, lo2, go⟩ := h
  obtain rfl : v = Value.ref r := rx
  obtain rfl : u = Value.ref q := ry
  obtain ⟨ox, od, J⟩ := pic_inst I hp
  obtain ⟨ox', od', J'⟩ := pic_inst I hq
  obtain ⟨mm, hF⟩ := I.fr
  have hu := hr.un
  show wpAny _ _ (richCompare .Eq _ _) _ _ _
  refine PySem.W.cmp_K (op := .Eq) (by omega) hF I.ok.mod.kin J J'.type (by simp [PySem.W.notFirst]) m.at_ m.fn ?_
  refine wpAny_mono (run_w (Q := fun v H' => v = .bl (decide (R = R2)) ∧ H' = H) (vs := [.ref r, .ref q]) O hr hpn b I (.cons rfl (.cons rfl .nil)) ⟨r, q, R, R2, rfl, hp, hq, lo, lo2, rfl, rfl⟩) (fun v s' z => ?_) fun _ _ z => z
  obtain ⟨v', H', I', rv, rfl, rfl⟩ := z
  cases rv
  refine ⟨.bl (decide (R = R2)), H', I', rfl, ?_⟩
  rw [show decide (R = R2) = (false != decide (R = R2)) by simp]
  exact go
end
/-! ### first - second, its error wished for at the caller's slots -/
section
variable {X : Cx} {CXf : CXT} {C CR CU f : Addr} {fd : FuncData} {k : Nat} {E : L2.St → XK} {a b : Expr} {ta tb : TE} {pos : Pos}
end
/-! ### isinstance(e, c), e an error without fields of its own -/
def rIsX0 (K : PySem.W.Frag) (a : Addr) (cls : Value) (d : Option Addr) : List V → Hp → VK → Prop := fun xs H Q => ∃ (D : Addr) (c : V) (cv : Value) (b : Bool),
  xs = [.ref a, c] ∧ cls = .ref D ∧ d = none ∧ ErrC K D ∧ (∀ u, RelV c u → u = cv) ∧ PySem.W.kitOne K (.ref D) cv = some b ∧ Q (.bl b) H
theorem call_isX0 {X : Cx} {a : Addr} {cls : Value} {d : Option Addr} {oe : Obj} {pn : List (Addr × Obj)} (hz : Zc cls d oe) (hf : ∃ vs, oe.data = .fields vs) : CallR (X.suite a ((a, oe) :: pn)) (.builtin "isinstance") (rIsX0 X.K a cls d) := by
  intro pins s σ H xs us Q I r h
  obtain ⟨D, c, cv, b, rfl, rfl, rfl, C, hcv, e, q⟩ := h
  match r with
  | .cons rx (.cons rt .nil) =>
    cases rx
    cases hcv _ rt
    obtain ⟨at_, _⟩ := I.pin (a, oe) (List.mem_append_left _ List.mem_cons_self)
    obtain ⟨vs, hd⟩ := hf
    have J : PySem.W.InstAt s.heap a oe D none := ⟨at_, hz.1, by unfold PySem.W.notCls; rw [hd] <;> rfl, by rw [hz.2]; trivial⟩
    exact PySem.W.kia_one (PySem.W.kitx_exc C.cl C.hg C.hk C.hs C.ha C.hn C.ht C.hm) I.kIn J e (fun z => nomatch z) fun tk => ⟨.bl b, H, I.kept (t' := tk) fun _ _ z => z, rfl, q⟩
end Pm
namespace Pm
open PySem PySem.Spec PyProof.Rows L2 SX
section
variable {P : Program} {w : World} {K : PySem.W.Frag} {mg : Str → Option Value} {base : Heap} {C CI CO CG : Addr}
/-! ### _law_put -/
def spPut : Sp := fun vs H Q _ => ∃ a R n i j z, vs = [.ref a, .int ((i : Nat) : Int), .int ((j : Nat) : Int), .str (S z)] ∧ H a = some (.lst (rowsV R)) ∧ Grid R n ∧ i < n ∧ j < R.length ∧ z.length ≤ 2 ∧ ∀ p H', Same H H' → H p = none → H' p = some (.lst (rowsV (putR R i j z))) → Q (.ref p) H'
abbrev nPut : List Str := ["_law_rows", "_law_cx", "_law_cy", "_law_sign", "_law_row_here", "_law_changed"]
theorem scPut : FnScope nPut ["_law_rows", "_law_cx", "_law_cy", "_law_sign"] (defScope lPut) := ⟨rfl, rfl, rfl, by decide +kernel, rfl, by decide +kernel, by decide +kernel⟩
theorem ok_put {f : Addr} {fd : FuncData} (F : Fun K "_law_put" "_law_put" lPut f fd) : FnOk P w K mg base CX0 1 f fd ["_law_rows", "_law_cx", "_law_cy", "_law_sign"] spPut := by
  refine F.ok scPut (fun vs H Q E h => ?_) (fun cdv A outer s H vs Q E hr h => ?_)
  · obtain ⟨a, R, n, i, j, z, rfl, _⟩ := h
    rfl
  · obtain ⟨a, R, n, i, j, z, rfl, ha, g, hi, hj, lz, k⟩ := h
    refine ⟨_, pss_cons (ps_set (i := 4) scPut.nd rfl (.inl rfl) (pe_ix ix_list (pv 0) (pv 2) (fun _ _ => rfl)))
      (pss_cons (ps_set (i := 5) scPut.nd rfl (.inl rfl) (pe_op op_add_str (pe_op op_add_str (pe_slice C8.sl_txt (pv 4) po_none (po_some (pv 1))) (pv 3)) (pe_slice C8.sl_txt (pv 4) (po_some (pe_op op_add (pv 1) pe_int)) po_none)))
      (pss_one (ps_ret (pe_op op_cat (pe_op op_cat (pe_slice sl_list (pv 0) po_none (po_some (pv 2))) (pe_lst (pa_cons (pv 5) pa_nil))) (pe_slice sl_list (pv 0) (po_some (pe_op op_add (pv 2) pe_int)) po_none))))), ?_⟩
    obtain ⟨e1, m1, l1⟩ := g.at hj
    have w8 := g.w8
    have h8 := g.h8
    have line : (S (rowAt R j)).length ≤ sizeLine := by rw [len_S]; exact small_line (by omega)
    have t1 : Txt.slice (S (rowAt R j)) none (some (i : Int)) = S ((rowAt R j).take i) := slice_to (by omega)
    have t2 : Txt.slice (S (rowAt R j)) (some ((i : Int) + 1)) none = S ((rowAt R j).drop (i + 1)) := slice_from (by omega)
    have lt : ((rowAt R j).take i).length ≤ 8 := by rw [List.length_take]; omega
    have ld : ((rowAt R j).drop (i + 1)).length ≤ 8 := by rw [List.length_drop]; omega
    refine ⟨_, rfl, _, rfl, a, _, (j : Int), _, rfl, rfl, SqL.of ha, atI_nat (rowsV_get g hj), ?_⟩
    refine ⟨_, rfl, _, rfl, _, rfl, S _, rfl, line, _, rfl, _, _, rfl, rfl, ?_, _, rfl, _, rfl, _, _, rfl, rfl, _, rfl, S _, rfl, line, _, _, rfl, rfl, ?_, ?_⟩
    · rw [t1, len_S, len_S]
      exact small_line (by omega)
    · rw [t1, t2, S_cat, len_S, len_S, List.length_append]
      exact small_line (by omega)
    rw [t1, t2, S_cat, S_cat]
    have new : rowsV (putR R i j z) = (rowsV R).take j ++ [V.str (S ((rowAt R j).take i ++ z ++ (rowAt R j).drop (i + 1)))] ++ (rowsV R).drop (j + 1) := by
      unfold putR rowsV
      rw [List.set_eq_take_append_cons_drop, if_pos hj, List.map_append, List.map_cons, List.map_take, List.map_drop]
      exact List.append_cons _ _ _
    generalize (rowAt R j).take i ++ z ++ (rowAt R j).drop (i + 1) = q at new
    refine ⟨_, rfl, _, rfl, _, rfl, a, _, rfl, SqL.of ha, fun p np => ?_⟩
    rw [cut_to]
    refine ⟨_, rfl, small_line (by show 1 ≤ 1000; decide), fun p2 np2 => ?_⟩
    have s1 := same_upd (o := .lst ((rowsV R).take j)) np
    have s2 := same_upd (o := .lst [V.str (S q)]) np2
    refine ⟨p, p2, _, _, rfl, rfl, s2 _ _ upd_same, upd_same, ?_, fun p3 np3 => ?_⟩
    · rw [List.length_take, rowsV_len]
      show _ + 1 ≤ sizeLine
      exact small_line (by omega)
    have s3 := same_upd (o := .lst ((rowsV R).take j ++ [V.str (S q)])) np3
    have s123 := (s1.trans s2).trans s3
    refine ⟨_, rfl, _, rfl, _, _, rfl, rfl, _, rfl, a, _, rfl, SqL.of (s123 _ _ ha), fun p4 np4 => ?_⟩
    have e5 : cutV (rowsV R) (some ((j : Int) + 1)) none = (rowsV R).drop (j + 1) := cut_from (rowsV R) (j + 1)
    rw [e5]
    have s4 := same_upd (o := .lst ((rowsV R).drop (j + 1))) np4
    refine ⟨p3, p4, _, _, rfl, rfl, s4 _ _ upd_same, upd_same, ?_, fun p5 np5 => ?_⟩
    · rw [List.length_append, List.length_take, List.length_drop, rowsV_len]
      show _ + 1 + _ ≤ sizeLine
      exact small_line (by omega)
    · rw [← new]
      have s14 := s123.trans s4
      exact k p5 _ (s14.trans (same_upd np5)) (back s14 np5) upd_same
end
end Pm
namespace Pm
open PySem PySem.Spec PyProof.Rows L2 SX
section
variable {P : Program} {w : World} {K : PySem.W.Frag} {mg : Str → Option Value} {base : Heap} {C CI CO CG : Addr}
/-! ### _law_cells -/
def spCellsOf : Sp := fun vs H Q _ => ∃ a R n, vs = [.ref a] ∧ H a = some (.lst (rowsV R)) ∧ Grid R n ∧ ∀ p ks H', Same H H' → H p = none → H' p = some (.lst (refs ks)) → Tups H' ks → cellsOf ks = allC n R.length → Q (.ref p) H'
abbrev nCellsOf : List Str := ["_law_rows", "_law_cells_here", "_law_cy", "_law_cx"]
theorem scCellsOf : FnScope nCellsOf ["_law_rows"] (defScope lCells) := ⟨rfl, rfl, rfl, by decide +kernel, rfl, by decide +kernel, by decide +kernel⟩
theorem ok_cellsof {f : Addr} {fd : FuncData} (F : Fun K "_law_cells" "_law_cells" lCells f fd) (L : LTxt K mg) : FnOk P w K mg base CX0 1 f fd ["_law_rows"] spCellsOf := by
  refine F.ok scCellsOf (fun vs H Q E h => ?_) (fun cdv A outer s H vs Q E hr h => ?_)
  · obtain ⟨a, R, n, rfl, _⟩ := h
    rfl
  · obtain ⟨a, R, n, rfl, ha, g, k⟩ := h
    refine ⟨_, pss_cons (ps_set (i := 1) scCellsOf.nd rfl (.inl rfl) (pe_lst pa_nil))
      (pss_cons (ps_for PassesOwn.never rfl (pi_range1 (by rfl) L.rng (pa_cons (pe_callB call_len_seq (by rfl) L.len PySem.boot_len (pa_cons (pv 0) pa_nil)) pa_nil)) (pg_name (i := 2) scCellsOf.nd rfl (.inl rfl))
        (pss_one (ps_for PassesOwn.never rfl (pi_range1 (by rfl) L.rng (pa_cons (pe_callB call_len_str (by rfl) L.len PySem.boot_len (pa_cons (pe_ix ix_list (pv 0) pe_int (fun _ _ => rfl)) pa_nil)) pa_nil)) (pg_name (i := 3) scCellsOf.nd rfl (.inl rfl))
          (pss_one (ps_expr (pe_bm PySem.F.plainAttrs_list PySem.F.slot_list_append PySem.F.type_list_append mt_append (pv 1) (pa_cons (pe_tup (pa_cons (pv 3) (pa_cons (pv 2) pa_nil))) pa_nil)))))))
      (pss_one (ps_ret (pv 1)))), ?_⟩
    have w8 := g.w8
    have h8 := g.h8
    have h1 := g.h1
    have r0 : atI (rowsV R) 0 = some (.str (S (rowAt R 0))) := atI_nat (j := 0) (rowsV_get g (by omega))
    have l0 : (rowAt R 0).length = n := (g.at (show 0 < R.length by omega)).2.2
    refine ⟨small_line (by show 0 ≤ 1000; decide), fun D nD => ?_⟩
    have sD := same_upd (o := .lst []) nD
    let Pv : Nat → Nat → L2.St → Hp → Prop := fun j i σ G => ∃ y x, σ = [some (.ref a), some (.ref D), y, x] ∧ Same H G ∧ ∃ ks, G D = some (.lst (refs ks)) ∧ Tups G ks ∧ cellsOf ks = allC n j ++ rowC i j
    refine ⟨_, rfl, a, _, rfl, .inl (SqL.of (sD _ _ ha)), _, rfl, by rw [rowsV_len]; omega, by rw [rowsV_len]; omega, ?_⟩
    rw [rowsV_len, Int.toNat_natCast]
    refine for_range (lo := 0) (n := R.length) (fun j σ G => Pv j 0 σ G) ⟨_, _, rfl, sD, [], upd_same, (fun q hq => nomatch hq), rfl⟩ ?_ ?_
    · rintro j σ G hj ⟨y, x, rfl, sG, ks, hD, hk, ek⟩
      refine ⟨_, rfl, a, _, 0, _, rfl, rfl, SqL.of (sG _ _ ha), r0, _, rfl, by rw [len_S, l0]; exact small_line (by omega), _, rfl, by rw [len_S, l0]; omega, by rw [len_S, l0]; omega, ?_⟩
      rw [len_S, l0, Int.toNat_natCast]
      refine for_range (lo := 0) (n := n) (fun i σ G => ∃ x, σ = [some (.ref a), some (.ref D), some (.int (0 + (j : Int))), x] ∧ Same H G ∧ ∃ ks, G D = some (.lst (refs ks)) ∧ Tups G ks ∧ cellsOf ks = allC n j ++ rowC i j) ⟨_, rfl, sG, ks, hD, hk, ek⟩ ?_ ?_
      · rintro i σ G hi ⟨x, rfl, sG, ks, hD, hk, ek⟩
        have lk : ks.length = j * n + i := by
          have z := congrArg List.length ek
          rw [List.length_append, allC_len, rowC_len, show (cellsOf ks).length = ks.length from List.length_map _] at z
          exact z
        have few : ks.length < 900 := by
          have : j * n ≤ 8 * 8 := Nat.mul_le_mul (by omega) w8
          omega
        refine ⟨_, rfl, .inl ⟨rfl, _, SqL.of hD⟩, _, rfl, _, rfl, small_line (by show 2 ≤ 1000; decide), fun t nt => ?_⟩
        have st := same_upd (o := CellO ((i : Int), (j : Int))) nt
        have nDt : t ≠ D := fun e => by
          rw [e, hD] at nt
          cases nt
        have e0 : (0 : Int) + (i : Int) = (i : Int) := by omega
        have e1 : (0 : Int) + (j : Int) = (j : Int) := by omega
        rw [e0, e1]
        refine ⟨D, _, _, rfl, rfl, st _ _ hD, by unfold refs; rw [List.length_map]; exact small1000 (by omega), _, rfl, fun b o e => ?_, ks ++ [(t, ((i : Int), (j : Int)))], ?_, ?_, ?_⟩
        · rw [upd_ne (fun z => by rw [z, nD] at e; cases e)]
          exact st _ _ (sG _ _ e)
        · rw [upd_same]
          unfold refs
          rw [List.map_append]
          rfl
        · intro q hq
          rcases List.mem_append.mp hq with y | y
          · have z := hk q y
            rw [upd_ne (ne_of z hD (by intro q; cases q))]
            exact st _ _ z
          · rw [List.mem_singleton.mp y, upd_ne nDt]
            exact upd_same
        · unfold cellsOf at ek ⊢
          rw [List.map_append, ek, rowC_succ, List.append_assoc]
          rfl
      · rintro σ G ⟨x, rfl, sG, ks, hD, hk, ek⟩
        exact ⟨_, _, rfl, sG, ks, hD, hk, by rw [ek]; exact (List.append_nil _).symm⟩
    · rintro σ G ⟨y, x, rfl, sG, ks, hD, hk, ek⟩
      exact ⟨_, rfl, k D ks G sG nD hD hk (by rw [ek]; exact List.append_nil _)⟩
end
end Pm
/-! ### _check_sizes, Sketch.fits, required_cells -/
namespace Pm
open PySem PySem.Spec PyProof.Rows L2 SX Tr
structure Er0 (K : PySem.W.Frag) (mg : Str → Option Value) (CU : Addr) : Prop where
  xU : PySem.W.excIn K CU [.type "ValueError", .type "Exception", .type "BaseException", .type "object"] "ValueError.__new__" = true
  gU : mg "UnequalSize" = some (.ref CU)
  kU : PySem.W.keepIn K (.ref CU) = true
  s1 : PySem.W.subIn K (.ref CU) (.type "BaseException") = some true
  s2 : PySem.W.typeIn K (.ref CU) = some (.type "type")
/-- the word of a table at a cell -/
def wordAt (T : Tab) (c : Cell) : List Nat := (T.getD c.2.toNat []).getD c.1.toNat []
def inW (R : Rows) (T : Tab) (c : Cell) : Bool := decide ((signAt R c.1 c.2).headD 0 ∈ wordAt T c)
def fitsB (R : Rows) (T : Tab) (n : Nat) : Bool := (allC n R.length).all (inW R T)
def needOf (R : Rows) (T : Tab) (n : Nat) : List Cell := (stonesOf R n).filter fun c => !inW R T c
theorem at_word {T : Tab} {m n i j : Nat} (g : TabOk T m n) (hi : i < m) (hj : j < n) : AtT T i j (wordAt T ((i : Int), (j : Int))) := by
  have lj : j < T.length := by rw [g.h]; exact hj
  have e1 : T[j]? = some T[j] := List.getElem?_eq_getElem lj
  have li : i < T[j].length := by rw [g.w _ (List.getElem_mem lj)]; exact hi
  refine ⟨T[j], e1, ?_⟩
  unfold wordAt
  simp only [Int.toNat_natCast, List.getD_eq_getElem?_getD, e1, Option.getD_some]
  rw [List.getElem?_eq_getElem li]
  rfl
theorem wordAt_of {T : Tab} {i j : Nat} {w : List Nat} (h : AtT T i j w) : wordAt T ((i : Int), (j : Int)) = w := by
  obtain ⟨r, e1, e2⟩ := h
  unfold wordAt
  simp only [Int.toNat_natCast, List.getD_eq_getElem?_getD, e1, Option.getD_some, e2]
theorem sign_at {R : Rows} {n i j : Nat} (g : Grid R n) (hi : i < n) (hj : j < R.length) : ∃ c, signAt R (i : Int) (j : Int) = [c] ∧ Good c ∧ (rowAt R j)[i]? = some c := by
  obtain ⟨_, mr, l1⟩ := g.at hj
  have li : i < (rowAt R j).length := by omega
  have ge : (rowAt R j)[i]? = some ((rowAt R j).getD i 0) := by
    rw [List.getD_eq_getElem?_getD, List.getElem?_eq_getElem li]
    rfl
  refine ⟨(rowAt R j).getD i 0, ?_, g.sgn _ mr _ (List.mem_of_getElem? ge), ge⟩
  unfold signAt
  rw [if_pos (inB_in g (by omega) (by omega) (by omega) (by omega))]
  rfl
theorem inW_eq {R : Rows} {T : Tab} {i j c : Nat} (h : signAt R (i : Int) (j : Int) = [c]) : inW R T ((i : Int), (j : Int)) = decide (c ∈ wordAt T ((i : Int), (j : Int))) := by
  unfold inW
  rw [h]
  rfl
def rInC : R2 := fun x y H Q => ∃ (c : Nat) (z : Str), x = .str ⟨#[c]⟩ ∧ y = .str z ∧ Q (.bl (decide (c ∈ z.cps.toList))) H
section
variable {P : Program} {w : World} {K : PySem.W.Frag} {mg : Str → Option Value} {base : Heap} {C CS CU CR : Addr}
def spSizesP (C CS CU : Addr) : Sp := fun vs H Q E => ∃ x a Rs T m n r R n2, vs = [.ref x, .ref r] ∧ SkAt CS H x a Rs T m n ∧ PicAt C H r R ∧ Grid R n2 ∧ (¬ (m = n2 ∧ n = R.length) → E (.ref CU) none H) ∧ (m = n2 → n = R.length → Q .non H)
theorem scSizes : FnScope ["sketch", "other"] ["sketch", "other"] (defScope gCheckSizes) := ⟨rfl, rfl, rfl, by decide +kernel, rfl, by decide +kernel, by decide +kernel⟩
theorem ok_sizesP {f : Addr} {fd : FuncData} (F : Fun K "_check_sizes" "_check_sizes" gCheckSizes f fd) (T : Kls K mg CS) (TC : PCls K C) (U : Er0 K mg CU) : FnOk P w K mg base (L2.CX P w) 1 f fd ["sketch", "other"] (spSizesP C CS CU) := by
  refine F.okX scSizes (fun vs H Q E h => ?_) (fun cdv A outer s H vs Q E hr h => ?_)
  · obtain ⟨x, a, Rs, T0, m, n, r, R, n2, rfl, _⟩ := h
    rfl
  · obtain ⟨x, a, Rs, T0, m, n, r, R, n2, rfl, hs, hp, g, bad, good⟩ := h
    refine ⟨_, pss_one (ps_if (PW.pt (pw_or (pt_cmpR op_ne (pe_fld (pv 0) rfl) (pe_fld (pv 1) rfl) (nomark _)) (pw_or1 (pt_cmpR op_ne (pe_fld (pv 0) rfl) (pe_fld (pv 1) rfl) (nomark _))))) (pss_one (ps_raise rfl (takes_of rfl rfl rfl rfl) (pmk_own0 PySem.F.excBase_ValueError U.xU U.gU U.kU (raises_own U.s1 U.s2) (by rfl)))) pss_nil), ?_⟩
    obtain ⟨dx, h1⟩ := hs.o
    obtain ⟨dy, l, h3, h4⟩ := hp
    have eW := g.wide
    refine ⟨_, rfl, x, CS, dx, _, _, rfl, h1, T.cl, T.nW, rfl, _, rfl, r, C, dy, _, _, rfl, h3, TC.cl, TC.nW, rfl, rfl, _, rfl, ?_⟩
    rw [eW]
    by_cases en : m = n2
    · refine iteFe (by rw [en]; simp) ?_
      refine ⟨_, rfl, x, CS, dx, _, _, rfl, h1, T.cl, T.nH, rfl, _, rfl, r, C, dy, _, _, rfl, h3, TC.cl, TC.nH, rfl, rfl, _, rfl, ?_⟩
      by_cases el : n = R.length
      · exact iteFe (by rw [el]; simp) (good en el)
      · exact iteTe (by simp only [V.int.injEq]; rw [decide_eq_false (by omega)]; rfl) (bad fun z => el z.2)
    · exact iteTe (by simp only [V.int.injEq]; rw [decide_eq_false (by omega)]; rfl) (bad fun z => en z.1)
/-! the sign of a picture in the word of a sketch -/
theorem item_in {x a t : Addr} {Rs : List Addr} {T : Tab} {m n i j c : Nat} {R : Rows} {G : Hp} {Q : VK} (hs : SkAt CS G x a Rs T m n) (gT : TabOk T m n) (htc : G t = some (CellO ((i : Int), (j : Int)))) (hi : i < m) (hj : j < n)
    (es : signAt R (i : Int) (j : Int) = [c]) (k : ∀ G', Same G G' → Q (.str (S (wordAt T ((i : Int), (j : Int))))) G') : rItem CS (spG K (gSkItem CS)) (.ref x) (.ref t) G Q := by
  obtain ⟨dx, h1⟩ := hs.o
  refine ⟨x, dx, _, rfl, h1, [skD CS T m n, cellD ((i : Int), (j : Int))], .tx (wordAt T ((i : Int), (j : Int))), ⟨T, m, n, i, j, _, gT, at_word gT hi hj, rfl, rfl⟩, G, Same.refl G, .cons hs.rep (.cons (.tup htc (.cons (.int _) (.cons (.int _) .nil))) .nil), fun v F1 G1 g1 f1 r1 => ?_⟩
  cases r1
  exact k _ g1.h
def spFits (C CS CU : Addr) : Sp := fun vs H Q E => ∃ x a Rs T m n r R n2, vs = [.ref x, .ref r] ∧ SkAt CS H x a Rs T m n ∧ TabOk T m n ∧ PicAt C H r R ∧ Grid R n2 ∧ (¬ (m = n2 ∧ n = R.length) → E (.ref CU) none H) ∧ (m = n2 → n = R.length → ∀ H', Same H H' → Q (.bl (fitsB R T n2)) H')
abbrev nFits : List Str := ["self", "picture", "cell"]
theorem scFits : FnScope nFits ["self", "picture"] (defScope cSketchFits) := ⟨rfl, rfl, rfl, by decide +kernel, rfl, by decide +kernel, by decide +kernel⟩
theorem ok_fits {f fE fG fS a1 : Addr} {fd dE dG dS b1 : FuncData} (F : Fun K "fits" "Sketch.fits" cSketchFits f fd) (za : mg "all" = none) (T : PCls K C)
    (cZ : Cl P w K mg base (L2.CX P w) 1 "_check_sizes" ["sketch", "other"] (spSizesP C CS CU) a1 b1)
    (OE : FnOk P w K mg base CX0 1 fE dE ["self"] (spEvery C)) (mE : Meth K C "every_cell" fE) (bE : Binds K dE ["self"] [])
    (OG : FnOk P w K mg base CX0 2 fG dG ["self", "at"] (spItem C)) (mG : OwnM K C "__getitem__" fG) (fi : PySem.W.fnIn K fG = true) (bG : Binds K dG ["self", "at"] [])
    (OS : FnOk P w K mg base CX0 2 fS dS ["self", "at"] (spG K (gSkItem CS))) (mS : OwnM K CS "__getitem__" fS) (fiS : PySem.W.fnIn K fS = true) (bS : Binds K dS ["self", "at"] []) :
    FnOk P w K mg base (L2.CX P w) 4 f fd ["self", "picture"] (spFits C CS CU) := by
  refine F.okX scFits (fun vs H Q E h => ?_) (fun cdv A outer s H vs Q E hr h => ?_)
  · obtain ⟨x, a, Rs, T0, m, n, r, R, n2, rfl, _⟩ := h
    rfl
  obtain ⟨x, a, Rs, T0, m, n, r, R, n2, rfl, hs, gT, hp, g, bad, good⟩ := h
  have hr1 : Room 1 _ := hr.mono (by decide)
  have hr3 : Room 3 _ := hr.mono (by decide)
  refine ⟨_, pss_cons (ps_expr (pe_callS (E := fun _ => E) cZ.ok hr1 (by rfl) cZ.gl cZ.kp cZ.bd (fun σ pins H s e s' I c => passes_call (takes_of rfl rfl rfl rfl) (fun _ _ _ _ z => z) pins σ H s e s' I c) (pa_cons (pv 0) (pa_cons (pv 1) pa_nil))))
    (pss_one (ps_ret (pe_callB (cr_all rfl) (by rfl) za (by decide +kernel) (pa_cons (pe_lc (own := [("cell", 2)]) (g := gName 2) (tt := tYes) (te := tOp rInC (tOp (rItem C (spItem C)) (tVar 1) (tVar 2)) (tOp (rItem CS (spG K (gSkItem CS))) (tVar 0) (tVar 2))) rfl scFits.nd (pi_list (pe_meth0 (pv 1) T.cl mE OE hr1 bE .nil pass0))
      (blkOk_by (own := [("cell", 2)]) (N := nFits) (sc := defScope cSketchFits) (by decide +kernel)) (fun _ _ _ _ _ => pg_name (i := 2) scFits.nd rfl (.inl rfl)) (fun _ _ _ _ _ => pts_nil)
      (fun _ _ _ _ _ => pe_cmpR op_in_sign (pe_item OG hr3 bG mG fi (pv 1) (pv 2)) (pe_item OS hr3 bS mS fiS (pv 0) (pv 2)) (by rfl))) pa_nil)))), ?_⟩
  have hp0 := hp
  obtain ⟨dx, l, h1, h2⟩ := hp
  refine ⟨_, rfl, _, rfl, x, a, Rs, T0, m, n, r, R, n2, rfl, hs, hp0, g, bad, fun e1 e2 => ?_⟩
  subst e1 e2
  refine ⟨_, rfl, r, dx, _, rfl, h1, rfl, r, R, m, rfl, hp0, g, fun p ks H1 sm1 np hpk hks eks => ⟨p, rfl, ⟨_, SqL.of hpk⟩, fun D nD => ?_⟩⟩
  have lks : ks.length ≤ 64 := by
    have z := congrArg List.length eks
    rw [allC_len, show (cellsOf ks).length = ks.length from List.length_map _] at z
    have := Nat.mul_le_mul g.h8 g.w8
    omega
  have lC : (cellsOf ks).length = ks.length := List.length_map _
  refine lc_list (K := K) (a := p) (xs := refs ks) (fun i G => Same H1 G ∧ G D = some (.lst ((((cellsOf ks).take i).map (inW R T0)).map V.bl))) ⟨same_upd nD, upd_same⟩ (fun i G _ ⟨sm, _⟩ => SqL.of (sm _ _ hpk)) ?_ ?_
  · rintro i x1 G hx ⟨sm, hD⟩
    obtain ⟨t, c, hi, rfl⟩ := refs_at hx
    have cj : (cellsOf ks)[i]? = some c := by
      unfold cellsOf
      rw [List.getElem?_map, hi]
      rfl
    have li := (List.getElem?_eq_some_iff.mp cj).1
    have cm := List.mem_of_getElem? cj
    rw [eks] at cm
    obtain ⟨xi, yj, hxi, hyj, rfl⟩ := allC_mem.mp cm
    obtain ⟨d, es, gd, _⟩ := sign_at g hxi hyj
    have sG := sm1.trans sm
    have htc : G t = some (CellO ((xi : Int), (yj : Int))) := sm _ _ (hks _ (List.mem_of_getElem? hi))
    refine ⟨rfl, tyes (iteT ⟨_, rfl, _, rfl, r, dx, _, rfl, sG _ _ h1, r, R, m, t, (xi : Int), (yj : Int), rfl, hp0.same sG, g, htc, _, rfl, _, rfl, item_in (hs.up sG) gT htc hxi hyj es fun G' s' => ?_⟩)⟩
    rw [es]
    refine ⟨d, _, rfl, rfl, _, s' _ _ hD, ?_, fun b o e => ?_, ?_⟩
    · rw [List.length_map, List.length_map, List.length_take]
      exact small1000 (by omega)
    · rw [upd_ne (ne_of_none e nD)]
      exact s' _ _ (sm _ _ e)
    · rw [upd_same, List.take_add_one, cj, cpsS, ← inW_eq (T := T0) es]
      simp
  · rintro G ⟨sm, hD⟩
    rw [show (refs ks).length = ks.length from List.length_map _, ← lC, List.take_length, eks] at hD
    refine ⟨D, _, rfl, SqL.of hD, ?_⟩
    have e : ((allC m R.length).map (inW R T0)).all id = fitsB R T0 m := by
      unfold fitsB
      rw [List.all_map]
      rfl
    rw [e]
    exact good rfl rfl G (sm1.trans sm)
end
end Pm
/-! ### list(a text) -/
namespace Lt
open PySem PySem.Spec PyProof.Rows L2
theorem vals_of {P : List V} {us : List Value} (hl : P.length = us.length) (h : ∀ (j : Nat) x w, P[j]? = some x → us[j]? = some w → RelV x w) : Vals P us := by
  induction P generalizing us with
  | nil => cases us with
    | nil => exact .nil
    | cons _ _ => cases hl
  | cons x xs ih => cases us with
    | nil => cases hl
    | cons u us => exact .cons (h 0 x u rfl rfl) (ih (by simpa using hl) fun j y w h1 h2 => h (j + 1) y w (by simpa using h1) (by simpa using h2))
def rListT : List V → Hp → VK → Prop := fun xs H Q => ∃ z : Str, xs = [.str z] ∧ z.cps.size ≤ sizeLine ∧ ∀ q, H q = none → Q (.ref q) (upd H q (.lst (z.cps.toList.map fun c => V.str ⟨#[c]⟩)))
theorem call_list_txt {X : Cx} (hc : X.calm = true) : CallR X (.type "list") rListT := by
  intro pins s σ H xs us Q I r h
  obtain ⟨z, e, hz, q⟩ := h
  subst e
  obtain ⟨u, eu, rx⟩ := vals1 r
  subst eu
  obtain ⟨t, rfl⟩ := rx
  refine call_list_str (I.ok.hd hc) z t (hn := hz) fun h' tk acc' c' hkeep hS hacc => ?_
  refine ⟨.ref s.heap.objs.size, upd H s.heap.objs.size (.lst (z.cps.toList.map fun c => V.str ⟨#[c]⟩)), I.laid hkeep (Nat.le_refl _) (show ObjOk X.prog X.w _ _ _ (.lst (z.cps.toList.map fun c => V.str ⟨#[c]⟩)) from ⟨?_, acc'.toList, c', ?_, ?_⟩), rfl, q _ (I.hok.fresh (Nat.le_refl _))⟩
  · rw [List.length_map]; simpa using hz
  · refine vals_of (by rw [List.length_map]; simp [hacc.1]) fun j x w h1 h2 => ?_
    have g := hacc.2 j w (by rw [← Array.getElem?_toList]; exact h2)
    obtain ⟨c, u, e1, rfl⟩ := g
    rw [List.getElem?_map, Array.getElem?_toList, e1] at h1
    cases h1
    exact ⟨u, rfl⟩
  · simpa using hS
end Lt
/-! ### required_cells, Sketch.ways, Sketch.of -/
namespace Pm
open PySem PySem.Spec PyProof.Rows L2 SX Tr
theorem need_le {R : Rows} {T : Tab} {n : Nat} (g : Grid R n) : (needOf R T n).length ≤ 64 := Nat.le_trans (List.length_filter_le _ _) (stones_le g)
def prodL : List Nat → Nat
  | [] => 1
  | a :: l => a * prodL l
theorem prodL_append : ∀ {l m : List Nat}, prodL (l ++ m) = prodL l * prodL m
  | [], m => (Nat.one_mul _).symm
  | a :: l, m => by
    show a * prodL (l ++ m) = a * prodL l * prodL m
    rw [prodL_append, Nat.mul_assoc]
theorem prodL_one {a : Nat} : prodL [a] = a := Nat.mul_one a
def waysOf (T : Tab) (cs : List Cell) : Nat := prodL (cs.map fun c => (wordAt T c).length)
theorem waysOf_append {T : Tab} {cs ds : List Cell} : waysOf T (cs ++ ds) = waysOf T cs * waysOf T ds := by
  unfold waysOf
  rw [List.map_append, prodL_append]
theorem waysOf_one {T : Tab} {c : Cell} : waysOf T [c] = (wordAt T c).length := prodL_one
theorem c27 {i : Int} {z : Nat} (h : z ≤ 27) : CMul i (z : Int) := by
  have e : (2 : Int) ^ 64 = 18446744073709551616 := by decide
  refine .inr ⟨?_, ?_⟩ <;> rw [e] <;> omega
/-- as filt, where the test may make new things -/
theorem filtS {K : PySem.W.Frag} {H1 : Hp} {a : Addr} {ks : CL} {i : Nat} {σ : L2.St} {σx : V → L2.St} {tt : TT} {p : Cell → Bool} {Q : VK} (hgn : ∀ x G (R : L2.St → Hp → Prop), R (σx x) G → gName i x (wipe σ [i]) G R) (hw : ∀ x, wipe (σx x) [i] = wipe σ [i]) (hv : ∀ x G (R : VK), R x G → tVar i (σx x) G R)
    (ha : H1 a = some (.lst (refs ks))) (ht : Tups H1 ks) (few : ks.length ≤ 900) (test : ∀ t c G (R : Bool → Hp → Prop), Same H1 G → G t = some (CellO c) → c ∈ cellsOf ks → (∀ G', Same G G' → R (p c) G') → tt (σx (.ref t)) G R)
    (k : ∀ D ms G, Same H1 G → H1 D = none → G D = some (.lst (refs ms)) → Tups G ms → cellsOf ms = (cellsOf ks).filter p → Q (.ref D) G) : tLc (fun _ H R => R (Itl K a) H) (gName i) tt (tVar i) [i] σ H1 Q := by
  intro D nD
  have len : (refs ks).length = (cellsOf ks).length := by
    unfold refs cellsOf
    rw [List.length_map, List.length_map]
  have lenk : (cellsOf ks).length = ks.length := List.length_map _
  refine lc_list (K := K) (a := a) (xs := refs ks) (fun j G => Same H1 G ∧ ∃ ms, G D = some (.lst (refs ms)) ∧ Tups G ms ∧ cellsOf ms = ((cellsOf ks).take j).filter p) ⟨same_upd nD, [], upd_same, (fun q hq => nomatch hq), rfl⟩ (fun j G _ ⟨sm, _⟩ => SqL.of (sm _ _ ha)) ?_ ?_
  · rintro j x G hx ⟨sm, ms, hD, hm, em⟩
    obtain ⟨t, c, hi, rfl⟩ := refs_at hx
    have mem := List.mem_of_getElem? hi
    have htc : G t = some (CellO c) := sm _ _ (ht _ mem)
    have cj : (cellsOf ks)[j]? = some c := by
      unfold cellsOf
      rw [List.getElem?_map, hi]
      rfl
    have tk : ((cellsOf ks).take (j + 1)).filter p = ((cellsOf ks).take j).filter p ++ (if p c = true then [c] else []) := by
      rw [List.take_add_one, cj, List.filter_append]
      congr 1
      by_cases pc : p c = true
      · rw [if_pos pc]
        simp [pc]
      · rw [if_neg pc]
        simp [pc]
    have fewm : ms.length ≤ 900 := by
      have z := congrArg List.length em
      have y := List.length_filter_le p ((cellsOf ks).take j)
      rw [List.length_take] at y
      rw [show (cellsOf ms).length = ms.length from List.length_map _] at z
      omega
    refine hgn _ _ _ ⟨hw _, test t c G _ sm htc (List.mem_of_getElem? cj) fun G' sq => ?_⟩
    replace hD := sq _ _ hD
    replace hm := hm.same sq
    replace sm := sm.trans sq
    replace htc := sq _ _ htc
    clear sq
    by_cases pc : p c = true
    · rw [if_pos pc] at tk
      refine iteTe pc (hv _ _ _ ⟨refs ms, hD, ?_, fun b o e => ?_, ms ++ [(t, c)], ?_, ?_, ?_⟩)
      · unfold refs
        rw [List.length_map]
        exact small1000 (by omega)
      · rw [upd_ne (ne_of_none e nD)]
        exact sm _ _ e
      · rw [upd_same]
        unfold refs
        rw [List.map_append]
        rfl
      · intro q hq
        rcases List.mem_append.mp hq with y | y
        · have z := hm q y
          rw [upd_ne (ne_of z hD (by intro q; cases q))]
          exact z
        · rw [List.mem_singleton.mp y, upd_ne (ne_of htc hD (by intro q; cases q))]
          exact htc
      · rw [tk, ← em]
        unfold cellsOf
        rw [List.map_append]
        rfl
    · rw [if_neg pc, List.append_nil] at tk
      exact iteFe (by simpa using pc) ⟨sm, ms, hD, hm, by rw [tk]; exact em⟩
  · rintro G ⟨sm, ms, hD, hm, em⟩
    rw [List.take_of_length_le (by omega)] at em
    exact k D ms G sm nD hD hm em

def rNotC : R2 := fun x y H Q => ∃ (c : Nat) (z : Str), x = .str ⟨#[c]⟩ ∧ y = .str z ∧ Q (.bl (!decide (c ∈ z.cps.toList))) H
section
variable {P : Program} {w : World} {K : PySem.W.Frag} {mg : Str → Option Value} {base : Heap} {C CS CU CR : Addr}
def spNeed (C CS CU CR : Addr) : Sp := fun vs H Q E => ∃ x a Rs T m n r R n2, vs = [.ref x, .ref r] ∧ SkAt CS H x a Rs T m n ∧ TabOk T m n ∧ PicAt C H r R ∧ Grid R n2 ∧ (¬ (m = n2 ∧ n = R.length) → E (.ref CU) none H) ∧ (m = n2 → n = R.length → ∀ z H', Same H H' → H z = none → RegAt CR H' z (needOf R T n2) → Q (.ref z) H')
abbrev nNeed : List Str := ["sketch", "picture", "cell"]
theorem scNeed : FnScope nNeed ["sketch", "picture"] (defScope gRequiredCells) := ⟨rfl, rfl, rfl, by decide +kernel, rfl, by decide +kernel, by decide +kernel⟩
theorem ok_need {f fE fG fS fI fC a1 : Addr} {fd dE dG dS dI dC' b1 : FuncData} (F : Fun K "required_cells" "required_cells" gRequiredCells f fd) (T : PCls K C) (TR : RCTxt K mg CR)
    (cZ : Cl P w K mg base (L2.CX P w) 1 "_check_sizes" ["sketch", "other"] (spSizesP C CS CU) a1 b1)
    (OE : FnOk P w K mg base CX0 4 fE dE ["self"] (spSome C CR stonesOf)) (mE : Meth K C "stones" fE) (bE : Binds K dE ["self"] [])
    (OG : FnOk P w K mg base CX0 2 fG dG ["self", "at"] (spItem C)) (mG : OwnM K C "__getitem__" fG) (fi : PySem.W.fnIn K fG = true) (bG : Binds K dG ["self", "at"] [])
    (OS : FnOk P w K mg base CX0 2 fS dS ["self", "at"] (spG K (gSkItem CS))) (mS : OwnM K CS "__getitem__" fS) (fiS : PySem.W.fnIn K fS = true) (bS : Binds K dS ["self", "at"] [])
    (OI : FnOk P w K mg base CX0 1 fI dI ["self", "cells"] (spRInit K CR)) (M : Mk K CR fI) (bI : Binds K dI ["self", "cells"] [])
    (OC : FnOk P w K mg base CX0 1 fC dC' ["self"] (spRCs CR)) (mC : Meth K CR "cells" fC) (bC : Binds K dC' ["self"] []) :
    FnOk P w K mg base (L2.CX P w) 5 f fd ["sketch", "picture"] (spNeed C CS CU CR) := by
  refine F.okX scNeed (fun vs H Q E h => ?_) (fun cdv A outer s H vs Q E hr h => ?_)
  · obtain ⟨x, a, Rs, T0, m, n, r, R, n2, rfl, _⟩ := h
    rfl
  obtain ⟨x, a, Rs, T0, m, n, r, R, n2, rfl, hs, gT, hp, g, bad, good⟩ := h
  have hr1 : Room 1 _ := hr.mono (by decide)
  have hr2 : Room 2 _ := hr.mono (by decide)
  have hr3 : Room 3 _ := hr.mono (by decide)
  refine ⟨_, pss_cons (ps_expr (pe_callS (E := fun _ => E) cZ.ok hr1 (by rfl) cZ.gl cZ.kp cZ.bd (fun σ pins H s e s' I c => passes_call (takes_of rfl rfl rfl rfl) (fun _ _ _ _ z => z) pins σ H s e s' I c) (pa_cons (pv 0) (pa_cons (pv 1) pa_nil))))
    (pss_one (ps_ret (pe_make M OI hr2 (by rfl) TR.t.mgC bI .nil pass0 (pa_cons (pe_lc (own := [("cell", 2)]) (g := gName 2) (tt := tTest (tOp rNotC (tOp (rItem C (spItem C)) (tVar 1) (tVar 2)) (tOp (rItem CS (spG K (gSkItem CS))) (tVar 0) (tVar 2)))) (te := tVar 2) rfl scNeed.nd (pi_list (pe_meth0 (pe_meth0 (pv 1) T.cl mE OE hr bE .nil pass0) TR.t.cl mC OC hr1 bC .nil pass0))
      (blkOk_by (own := [("cell", 2)]) (N := nNeed) (sc := defScope gRequiredCells) (by decide +kernel)) (fun _ _ _ _ _ => pg_name (i := 2) scNeed.nd rfl (.inl rfl)) (fun _ _ _ _ _ => pts_one (pt_cmpR op_notIn_sign (pe_item OG hr3 bG mG fi (pv 1) (pv 2)) (pe_item OS hr3 bS mS fiS (pv 0) (pv 2)) (by rfl)))
      (fun _ _ _ _ _ => pv 2)) pa_nil)))), ?_⟩
  have hp0 := hp
  obtain ⟨dx, l, h1, h2⟩ := hp
  refine ⟨_, rfl, _, rfl, x, a, Rs, T0, m, n, r, R, n2, rfl, hs, hp0, g, bad, fun e1 e2 => ?_⟩
  subst e1 e2
  refine ⟨_, rfl, r, dx, _, rfl, h1, rfl, r, R, m, rfl, hp0, g, fun z0 H0 sm0 nz0 hz0 => ?_⟩
  obtain ⟨dz, d, hz1, _⟩ := id hz0
  refine ⟨z0, dz, _, rfl, hz1, rfl, z0, _, rfl, hz0, fun p ks H1 sm1 np hpk hks eks => ⟨p, rfl, ⟨_, SqL.of hpk⟩, ?_⟩⟩
  have lC : (cellsOf ks).length = ks.length := List.length_map _
  have lks : ks.length ≤ 64 := by rw [← lC, eks]; exact stones_le g
  refine filtS (K := K) (tt := tTest (tOp rNotC (tOp (rItem C (spItem C)) (tVar 1) (tVar 2)) (tOp (rItem CS (spG K (gSkItem CS))) (tVar 0) (tVar 2)))) (Q := fun v H1 => ∀ x dx, H1 x = none → H1 dx = none → dx ≠ x → spRInit K CR (.ref x :: ([v] ++ [])) (upd (upd H1 dx (.own x)) x (.ins CR dx [])) (fun v H2 => v = .non ∧ Q (.ref x) H2) E0) (i := 2) (σ := [some (.ref x), some (.ref r), none]) (σx := fun v => [some (.ref x), some (.ref r), some v]) (p := fun c => !inW R T0 c)
    (fun v G R h => h) (fun v => rfl) (fun v G R h => ⟨_, rfl, h⟩) hpk hks (by omega) (fun t c G Rr sm htc hc hR => ?_) fun D ms G sm nD hD hm em => ?_
  · have cm := hc
    rw [eks] at cm
    obtain ⟨xi, yj, hxi, hyj, rfl⟩ := allC_mem.mp (List.mem_filter.mp cm).1
    obtain ⟨d, es, gd, _⟩ := sign_at g hxi hyj
    have sG := (sm0.trans sm1).trans sm
    refine ⟨_, rfl, _, rfl, r, dx, _, rfl, sG _ _ h1, r, R, m, t, (xi : Int), (yj : Int), rfl, hp0.same sG, g, htc, _, rfl, _, rfl, item_in (hs.up sG) gT htc hxi hyj es fun G' s' => ?_⟩
    rw [es]
    refine ⟨d, _, rfl, rfl, ?_⟩
    rw [cpsS, ← inW_eq (T := T0) es]
    exact ⟨_, rfl, hR G' s'⟩
  · have sG := (sm0.trans sm1).trans sm
    have lms : ms.length ≤ 64 := by
      have z := congrArg List.length em
      have y := List.length_filter_le (fun c => !inW R T0 c) (cellsOf ks)
      rw [show (cellsOf ms).length = ms.length from List.length_map _] at z
      omega
    refine make_reg hD hm lms fun z L H' s2' nz rd ra => good rfl rfl z H' (sG.trans s2') (back sG nz) ?_
    have eL : L = needOf R T0 m := by
      rw [em, eks] at rd
      exact reading_asc rd (((allC_asc m R.length).sublist List.filter_sublist).sublist List.filter_sublist)
    rw [← eL]
    exact ra
end
end Pm
/-! ### Sketch.ways, Sketch.of -/
namespace Pm
open PySem PySem.Spec PyProof.Rows L2 SX Tr
theorem allC_succ (n j : Nat) : allC n (j + 1) = allC n j ++ rowC n j := rfl
section
variable {P : Program} {w : World} {K : PySem.W.Frag} {mg : Str → Option Value} {base : Heap} {C CS CU CR : Addr}
def spWays (CS : Addr) : Sp := fun vs H Q _ => ∃ x a Rs T m n, vs = [.ref x] ∧ SkAt CS H x a Rs T m n ∧ TabOk T m n ∧ Q (.int (waysOf T (allC m n) : Nat)) H
abbrev nWays : List Str := ["self", "number", "row", "signs"]
theorem scWays : FnScope nWays ["self"] (defScope cSketchWays) := ⟨rfl, rfl, rfl, by decide +kernel, rfl, by decide +kernel, by decide +kernel⟩
theorem ok_ways {f : Addr} {fd : FuncData} (F : Fun K "ways" "Sketch.ways" cSketchWays f fd) (L : LTxt K mg) (T : Kls K mg CS) : FnOk P w K mg base CX0 1 f fd ["self"] (spWays CS) := by
  refine F.ok scWays (fun vs H Q E h => ?_) (fun cdv A outer s H vs Q E hr h => ?_)
  · obtain ⟨x, a, Rs, T0, m, n, rfl, _⟩ := h
    rfl
  obtain ⟨x, a, Rs, T0, m, n, rfl, hs, gT, k⟩ := h
  refine ⟨_, pss_cons (ps_set (i := 1) scWays.nd rfl (.inl rfl) pe_int)
    (pss_cons (ps_for PassesOwn.never rfl (pi_list (pe_fld (pv 0) rfl)) (pg_name (i := 2) scWays.nd rfl (.inl rfl))
      (pss_one (ps_for PassesOwn.never rfl (pi_list (pv 2)) (pg_name (i := 3) scWays.nd rfl (.inl rfl))
        (pss_one (ps_aug (i := 1) scWays.nd rfl (.inl rfl) (pe_callB call_len_str (by rfl) L.len PySem.boot_len (pa_cons (pv 3) pa_nil)) iop_mul)))))
    (pss_one (ps_ret (pv 1)))), ?_⟩
  obtain ⟨dx, ho⟩ := hs.o
  obtain ⟨hA, lR, each⟩ := hs.t
  refine ⟨_, rfl, x, CS, dx, _, _, rfl, ho, T.cl, T.nR, rfl, a, rfl, ⟨_, SqL.of hA⟩, for_list (K := K) (a := a) (xs := Rs.map V.ref) (fun i σ G => ∃ y z, σ = [some (.ref x), some (.int (waysOf T0 (allC m i) : Nat)), y, z] ∧ G = H) ⟨_, _, rfl, rfl⟩ (fun i σ G _ ⟨_, _, _, e⟩ => by rw [e]; exact SqL.of hA) ?_ ?_⟩
  · rintro i v σ G hv ⟨y, z, rfl, rfl⟩
    rw [List.getElem?_map] at hv
    cases er : Rs[i]? with
    | none => rw [er] at hv; cases hv
    | some r =>
      rw [er] at hv
      cases hv
      have li : i < T0.length := by rw [← lR]; exact (List.getElem?_eq_some_iff.mp er).1
      have hrow : T0[i]? = some T0[i] := List.getElem?_eq_getElem li
      have lw := gT.w _ (List.getElem_mem li)
      have hr0 := each i r _ er hrow
      refine ⟨_, rfl, r, rfl, ⟨_, SqL.of hr0⟩, for_list (K := K) (a := r) (xs := rowsV T0[i]) (fun i2 σ G2 => ∃ z, σ = [some (.ref x), some (.int (waysOf T0 (allC m i ++ rowC i2 i) : Nat)), some (.ref r), z] ∧ G2 = G) ⟨_, by rw [show rowC 0 i = [] from rfl, List.append_nil]; rfl, rfl⟩ (fun i2 σ G2 _ ⟨_, _, e⟩ => by rw [e]; exact SqL.of hr0) ?_ ?_⟩
      · rintro i2 v σ G2 hv2 ⟨z, rfl, rfl⟩
        obtain ⟨wd, hw0, rfl⟩ := rowsV_at hv2
        have okw := gT.ok _ (List.getElem_mem li) wd (List.mem_of_getElem? hw0)
        have eW : wordAt T0 ((i2 : Int), (i : Int)) = wd := wordAt_of ⟨_, hrow, hw0⟩
        refine ⟨_, rfl, _, rfl, S wd, rfl, by rw [len_S]; exact small_line (by have := okw.2.1; omega), ?_⟩
        rw [len_S]
        refine ⟨_, _, rfl, rfl, c27 okw.2.1, some (.str (S wd)), ?_, rfl⟩
        rw [rowC_succ, ← List.append_assoc, waysOf_append (cs := allC m i ++ rowC i2 i) (ds := [((i2 : Int), (i : Int))]), waysOf_one, eW, Int.natCast_mul]
        rfl
      · rintro σ G2 ⟨z, rfl, rfl⟩
        rw [rowsV_len, lw, ← allC_succ]
        exact ⟨_, _, rfl, rfl⟩
  · rintro σ G ⟨y, z, rfl, rfl⟩
    rw [List.length_map, lR, gT.h]
    exact ⟨_, rfl, k⟩
/-! the only picture of a sketch -/
def plainT (R : Rows) : Tab := R.map fun r => r.map fun c => [c]
theorem okW_one {c : Nat} (h : Good c) : okW [c] := by
  refine ⟨by simp, by show 1 ≤ 27; decide, fun d m => ?_, by simp, ascz_uniq (List.Perm.refl _) (by simp)⟩
  rw [List.mem_singleton.mp m]
  rcases h with e | e
  · exact .inl e
  · exact .inr e
theorem plain_ok {R : Rows} {n : Nat} (g : Grid R n) : TabOk (plainT R) n R.length := by
  refine ⟨List.length_map _, fun r mr => ?_, g.w1, g.w8, g.h1, g.h8, fun r mr w mw => ?_⟩
  · obtain ⟨z, mz, rfl⟩ := List.mem_map.mp mr
    rw [List.length_map, g.row z mz]
  · obtain ⟨z, mz, rfl⟩ := List.mem_map.mp mr
    obtain ⟨c, mc, rfl⟩ := List.mem_map.mp mw
    exact okW_one (g.sgn z mz c mc)
def spOf (C CS : Addr) : Sp := fun vs H Q _ => ∃ r R n, vs = [.ref CS, .ref r] ∧ PicAt C H r R ∧ Grid R n ∧ ∀ H' y a Rs, Same H H' → SkAt CS H' y a Rs (plainT R) n R.length → NewSk H y a Rs → Q (.ref y) H'
abbrev nOf : List Str := ["cls", "picture", "rows", "row"]
theorem scOf : FnScope nOf ["cls", "picture"] (defScope cSketchOf) := ⟨rfl, rfl, rfl, by decide +kernel, rfl, by decide +kernel, by decide +kernel⟩
theorem ok_of {f fI fL : Addr} {fd dI dL : FuncData} {ds : List Value} (F : Fun K "of" "Sketch.of" cSketchOf f fd) (L : LTxt K mg) (T : Kls K mg CS) (TC : PCls K C) (M : MkS P w K mg base CS fI dI ds)
    (OL : FnOk P w K mg base CX0 1 fL dL ["self"] (spLines C)) (mL : Meth K C "lines" fL) (bL : Binds K dL ["self"] []) : FnOk P w K mg base CX0 3 f fd ["cls", "picture"] (spOf C CS) := by
  refine F.ok scOf (fun vs H Q E h => ?_) (fun cdv A outer s H vs Q E hr h => ?_)
  · obtain ⟨r, R, n, rfl, _⟩ := h
    rfl
  obtain ⟨r, R, n, rfl, hp, g, k⟩ := h
  have hr1 : Room 1 _ := hr.mono (by decide)
  have hr2 : Room 2 _ := hr.mono (by decide)
  refine ⟨_, pss_cons (ps_setLc (i := 2) (own := [("row", 3)]) (g := gName 3) (tt := tYes) (te := tCB Lt.rListT (tCons (tVar 3) tNil)) rfl scOf.nd rfl rfl (sw_true rfl rfl rfl (by decide +kernel)) (pi_list (pe_meth0 (pv 1) TC.cl mL OL hr1 bL .nil pass0)) (blkOk_by (own := [("row", 3)]) (N := nOf) (sc := defScope cSketchOf) (by decide +kernel)) (fun _ _ _ _ _ => pg_name (i := 3) scOf.nd rfl (.inl rfl)) (fun _ _ _ _ _ => pts_nil)
      (fun _ _ _ _ _ => pe_callTy (Lt.call_list_txt rfl) (by rfl) L.lst (by decide +kernel) (pa_cons (pv 3) pa_nil)))
    (pss_one (ps_ret (pe_makeVN (i := 0) (n := 2) M.mkk M.OI hr2 rfl (.inl rfl) M.kb pass0 (pa_cons (pe_fld (pv 1) rfl) (pa_cons (pe_fld (pv 1) rfl) pa_nil)) (pk_cons (pv 2) pk_nil)))), ?_⟩
  have hp0 := hp
  obtain ⟨dr, l, h1, h2⟩ := hp
  refine ⟨_, rfl, r, dr, _, rfl, h1, rfl, r, R, rfl, hp0, fun p H1 s1 np hpR => ⟨p, rfl, ⟨_, SqL.of hpR⟩, fun D nD => ?_⟩⟩
  have h8 := g.h8
  refine lc_list (xs := rowsV R) (PvT H1 D (plainT R)) (pvT0 nD) (fun i G hi pv => SqL.of (pv.choose_spec.2.1 _ _ hpR)) (fun i v G hv pv => ?_) (fun G pv => ?_)
  · obtain ⟨z, hz, rfl⟩ := rowsV_at hv
    have li := (List.getElem?_eq_some_iff.mp hz).1
    have lz := g.row z (List.mem_of_getElem? hz)
    have w8 := g.w8
    refine ⟨rfl, tyes (iteT ⟨_, rfl, S z, rfl, ?_, fun q nq => ?_⟩)⟩
    · show (S z).length ≤ sizeLine
      rw [len_S]
      exact small_line (by omega)
    · refine pvTS pv (by omega) (z := z.map fun c => [c]) (by unfold plainT; rw [List.getElem?_map, hz]; rfl) (same_upd nq) nq ?_
      rw [upd_same, cpsS]
      unfold rowsV
      rw [List.map_map]
      rfl
  · have lP : (plainT R).length = R.length := List.length_map _
    rw [rowsV_len, ← lP] at pv
    obtain ⟨R', tT, nw, s0⟩ := pvTD pv
    have sH := s1.trans s0
    have eW := g.wide
    refine ⟨rfl, ⟨_, rfl, r, C, dr, _, _, rfl, sH _ _ h1, TC.cl, TC.nW, rfl, _, rfl, r, C, dr, _, _, rfl, sH _ _ h1, TC.cl, TC.nH, rfl, _, rfl, rfl, rfl, fun y dy ny ndy ne => ⟨y, dy, n, R.length, _, by rw [eW]; rfl, upd_same, g.w1, g.w8, g.h1, g.h8, .inr ⟨D, rfl, fun H' s' hx' => ⟨rfl, ?_⟩⟩⟩⟩⟩
    obtain ⟨q1, q2, q3⟩ := made_new s0 tT nw ny ndy ne s' hx'
    exact k _ y D R' (s1.trans q1) q2 ⟨q3.1, fun b mb => s1.free (q3.2 b mb)⟩
end
end Pm
/-! ### _law_stones, _law_at, _law_required, _law_within (written by gen_k22.py) -/
namespace Pm
open PySem PySem.Spec PyProof.Rows L2 SX Tr
theorem take_filter {p : Cell → Bool} {M : List Cell} {i : Nat} {c : Cell} (h : M[i]? = some c) : (M.take (i + 1)).filter p = (M.take i).filter p ++ (if p c = true then [c] else []) := by
  rw [List.take_add_one, h, List.filter_append]
  congr 1
  by_cases pc : p c = true
  · rw [if_pos pc]
    simp [pc]
  · rw [if_neg pc]
    simp [pc]
section
variable {P : Program} {w : World} {K : PySem.W.Frag} {mg : Str → Option Value} {base : Heap} {C CS CU CR : Addr}
def spStonesL : Sp := fun vs H Q _ => ∃ a R n, vs = [.ref a] ∧ H a = some (.lst (rowsV R)) ∧ Grid R n ∧ ∀ p ks H', Same H H' → H p = none → H' p = some (.lst (refs ks)) → Tups H' ks → cellsOf ks = stonesOf R n → Q (.ref p) H'
abbrev nStonesL : List Str := ["_law_rows", "_law_cell"]
theorem scStonesL : FnScope nStonesL ["_law_rows"] (defScope lStones) := ⟨rfl, rfl, rfl, by decide +kernel, rfl, by decide +kernel, by decide +kernel⟩
def ttStonesL (K : PySem.W.Frag) : TT := tTest (tOp rNe (tOp rIxS (tOp (rIxL K) (tVar 0) (tOp (rIxT K) (tVar 1) (tC (.int 1)))) (tOp (rIxT K) (tVar 1) (tC (.int 0)))) (tC (.str ".")))
theorem ok_stonesl {f fC : Addr} {fd dC' : FuncData} (F : Fun K "_law_stones" "_law_stones" lStones f fd) (cC : Cl P w K mg base CX0 1 "_law_cells" ["_law_rows"] spCellsOf fC dC') : FnOk P w K mg base CX0 2 f fd ["_law_rows"] spStonesL := by
  refine F.ok scStonesL (fun vs H Q E h => ?_) (fun cdv A outer s H vs Q E hr h => ?_)
  · obtain ⟨a, R, n, rfl, _⟩ := h
    rfl
  · obtain ⟨a, R, n, rfl, ha, g, k⟩ := h
    refine ⟨_, pss_one (ps_ret (pe_lc (own := [("_law_cell", 1)]) (g := gName 1) (tt := ttStonesL K) (te := tVar 1) rfl scStonesL.nd (pi_list (pe_call cC.ok hr (by rfl) cC.gl cC.kp cC.bd .nil pass0 (pa_cons (pv 0) pa_nil)))
        (blkOk_by (own := [("_law_cell", 1)]) (N := nStonesL) (sc := defScope lStones) (by decide +kernel)) (fun _ _ _ _ _ => pg_name (i := 1) scStonesL.nd rfl (Or.inl rfl)) (fun _ _ _ _ _ => by exact pts_one (by exact pt_cmpR op_ne (by exact pe_ix ix_str (by exact pe_ix ix_list (pv 0) (by exact pe_ix ix_tup (pv 1) pe_int (fun _ _ => rfl)) (fun _ _ => rfl)) (by exact pe_ix ix_tup (pv 1) pe_int (fun _ _ => rfl)) (fun _ _ => rfl)) pe_str (nomark _)))
        (fun _ _ _ _ _ => pv 1))), ?_⟩
    refine ⟨_, rfl, a, R, n, rfl, ha, g, fun p ks H1 sm1 np hpk hks eks => ?_⟩
    have lks : ks.length ≤ 64 := by
      have z := congrArg List.length eks
      rw [allC_len, show (cellsOf ks).length = ks.length from List.length_map _] at z
      have := Nat.mul_le_mul g.h8 g.w8
      omega
    have w8 := g.w8
    refine ⟨p, rfl, ⟨_, SqL.of hpk⟩, ?_⟩
    refine filt (K := K) (tt := ttStonesL K) (Q := Q) (i := 1) (σ := [some (.ref a), none]) (σx := fun x => [some (.ref a), some x]) (p := fun c => decide (signAt R c.1 c.2 ≠ [46]))
      (fun x G R h => h) (fun x => rfl) (fun x G R h => ⟨_, rfl, h⟩) hpk hks (by omega) (fun t c G Rr sm htc hc hR => ?_) fun D ms G sm nD hD hm em => ?_
    · have sG := sm1.trans sm
      rw [eks] at hc
      obtain ⟨xi, yj, hxi, hyj, rfl⟩ := allC_mem.mp hc
      obtain ⟨_, _, l1⟩ := g.at hyj
      have ge : (rowAt R yj)[xi]? = some ((rowAt R yj).getD xi 0) := by
        rw [List.getD_eq_getElem?_getD, List.getElem?_eq_getElem (by omega)]
        rfl
      have es : signAt R (xi : Int) (yj : Int) = [(rowAt R yj).getD xi 0] := by
        unfold signAt
        rw [if_pos (inB_in g (by omega) (by omega) (by omega) (by omega))]
        rfl
      generalize (rowAt R yj).getD xi 0 = d at ge es
      refine ⟨_, rfl, _, rfl, t, _, 1, _, rfl, rfl, SqT.of htc, rfl, a, _, (yj : Int), _, rfl, rfl, SqL.of (sG _ _ ha), atI_nat (rowsV_get g hyj), _, rfl, t, _, 0, _, rfl, rfl, SqT.of htc, rfl, S (rowAt R yj), (xi : Int), d, rfl, rfl, by rw [len_S, l1]; exact small_line (by omega), atI_nat ge, rfl, _, rfl, ?_⟩
      have hR : Rr (decide (signAt R (xi : Int) (yj : Int) ≠ [46])) G := hR
      rw [← str_ne, es] at hR
      exact hR
    · have sG := sm1.trans sm
      exact k D ms G sG (back sm1 nD) hD hm (by rw [em, eks]; rfl)
def spAtR : Sp := fun vs H Q _ => ∃ a t R n, ∃ i j : Nat, vs = [.ref a, .ref t] ∧ H a = some (.lst (rowsV R)) ∧ Grid R n ∧ H t = some (CellO ((i : Int), (j : Int))) ∧ i < n ∧ j < R.length ∧ Q (.str (S (signAt R (i : Int) (j : Int)))) H
def spAtT : Sp := fun vs H Q _ => ∃ a t Rs T m n, ∃ i j : Nat, vs = [.ref a, .ref t] ∧ TabAt H a Rs T ∧ TabOk T m n ∧ H t = some (CellO ((i : Int), (j : Int))) ∧ i < m ∧ j < n ∧ Q (.str (S (wordAt T ((i : Int), (j : Int))))) H
theorem ok_atR {f : Addr} {fd : FuncData} (F : Fun K "_law_at" "_law_at" lAt f fd) : FnOk P w K mg base CX0 1 f fd ["_law_table_here", "_law_cell"] spAtR := by
  refine F.ok scLAt (fun vs H Q E h => ?_) (fun cdv A outer s H vs Q E hr h => ?_)
  · obtain ⟨a, t, R, n, i, j, rfl, _⟩ := h
    rfl
  obtain ⟨a, t, R, n, i, j, rfl, ha, g, ht, hi, hj, k⟩ := h
  refine ⟨_, pss_cons (ps_set (i := 2) scLAt.nd rfl (.inl rfl) (pe_ix ix_list (pv 0) (pe_ix ix_tup (pv 1) pe_int (fun _ _ => rfl)) (fun _ _ => rfl)))
    (pss_one (ps_ret (pe_ix ix_str (pv 2) (pe_ix ix_tup (pv 1) pe_int (fun _ _ => rfl)) (fun _ _ => rfl)))), ?_⟩
  obtain ⟨_, _, l1⟩ := g.at hj
  obtain ⟨d, es, gd, ge⟩ := sign_at g hi hj
  have w8 := g.w8
  rw [es] at k
  exact ⟨_, rfl, _, rfl, t, _, 1, _, rfl, rfl, SqT.of ht, rfl, a, _, (j : Int), _, rfl, rfl, SqL.of ha, atI_nat (rowsV_get g hj), _, rfl, _, rfl, t, _, 0, _, rfl, rfl, SqT.of ht, rfl, S (rowAt R j), (i : Int), d, rfl, rfl, by rw [len_S, l1]; exact small_line (by omega), by rw [cpsS]; exact atI_nat ge, k⟩
theorem ok_atT {f : Addr} {fd : FuncData} (F : Fun K "_law_at" "_law_at" lAt f fd) : FnOk P w K mg base CX0 1 f fd ["_law_table_here", "_law_cell"] spAtT := by
  refine F.ok scLAt (fun vs H Q E h => ?_) (fun cdv A outer s H vs Q E hr h => ?_)
  · obtain ⟨a, t, Rs, T, m, n, i, j, rfl, _⟩ := h
    rfl
  obtain ⟨a, t, Rs, T, m, n, i, j, rfl, hT, g, ht, hi, hj, k⟩ := h
  refine ⟨_, pss_cons (ps_set (i := 2) scLAt.nd rfl (.inl rfl) (pe_ix ix_list (pv 0) (pe_ix ix_tup (pv 1) pe_int (fun _ _ => rfl)) (fun _ _ => rfl)))
    (pss_one (ps_ret (pe_ix ix_list (pv 2) (pe_ix ix_tup (pv 1) pe_int (fun _ _ => rfl)) (fun _ _ => rfl)))), ?_⟩
  obtain ⟨row, e1, e2⟩ := at_word g hi hj
  obtain ⟨hA, lR, each⟩ := hT
  have lj : j < Rs.length := by rw [lR, g.h]; exact hj
  have er : Rs[j]? = some Rs[j] := List.getElem?_eq_getElem lj
  have hr0 := each j _ _ er e1
  exact ⟨_, rfl, _, rfl, t, _, 1, _, rfl, rfl, SqT.of ht, rfl, a, _, (j : Int), .ref Rs[j], rfl, rfl, SqL.of hA, atI_nat (by rw [List.getElem?_map, er]; rfl), _, rfl, _, rfl, t, _, 0, _, rfl, rfl, SqT.of ht, rfl, Rs[j], _, (i : Int), .str (S (wordAt T ((i : Int), (j : Int)))), rfl, rfl, SqL.of hr0, atI_nat (by unfold rowsV; rw [List.getElem?_map, e2]; rfl), k⟩
/-! the pictures that fit -/
def spWithin : Sp := fun vs H Q _ => ∃ t Rs T a R n, vs = [.ref t, .ref a] ∧ TabAt H t Rs T ∧ TabOk T n R.length ∧ H a = some (.lst (rowsV R)) ∧ Grid R n ∧ ∀ H', Same H H' → Q (.bl (fitsB R T n)) H'
abbrev nWithin : List Str := ["_law_table_here", "_law_rows", "_law_cell"]
theorem scWithin : FnScope nWithin ["_law_table_here", "_law_rows"] (defScope lWithin) := ⟨rfl, rfl, rfl, by decide +kernel, rfl, by decide +kernel, by decide +kernel⟩
theorem ok_within {f a1 a2 : Addr} {fd b1 b2 : FuncData} (F : Fun K "_law_within" "_law_within" lWithin f fd) (cC : Cl P w K mg base CX0 1 "_law_cells" ["_law_rows"] spCellsOf a1 b1)
    (cR : Cl P w K mg base CX0 1 "_law_at" ["_law_table_here", "_law_cell"] spAtR a2 b2) (cT : Cl P w K mg base CX0 1 "_law_at" ["_law_table_here", "_law_cell"] spAtT a2 b2) : FnOk P w K mg base CX0 2 f fd ["_law_table_here", "_law_rows"] spWithin := by
  refine F.ok scWithin (fun vs H Q E h => ?_) (fun cdv A outer s H vs Q E hr h => ?_)
  · obtain ⟨t, Rs, T, a, R, n, rfl, _⟩ := h
    rfl
  obtain ⟨t, Rs, T, a, R, n, rfl, hT, gT, ha, g, k⟩ := h
  refine ⟨_, pss_cons (ps_for PassesOwn.never rfl (pi_list (pe_call cC.ok hr (by rfl) cC.gl cC.kp cC.bd .nil pass0 (pa_cons (pv 1) pa_nil))) (pg_name (i := 2) scWithin.nd rfl (.inl rfl))
      (pss_one (ps_if (pt_cmpR op_notIn_sign (pe_call cR.ok hr (by rfl) cR.gl cR.kp cR.bd .nil pass0 (pa_cons (pv 1) (pa_cons (pv 2) pa_nil))) (pe_call cT.ok hr (by rfl) cT.gl cT.kp cT.bd .nil pass0 (pa_cons (pv 0) (pa_cons (pv 2) pa_nil))) (by rfl)) (pss_one (ps_ret pe_bl)) pss_nil)))
    (pss_one (ps_ret pe_bl)), ?_⟩
  refine ⟨_, rfl, a, R, n, rfl, ha, g, fun p ks H1 s1 np hpk hks eks => ?_⟩
  refine ⟨p, rfl, ⟨_, SqL.of hpk⟩, for_list (K := K) (a := p) (xs := refs ks) (fun i σ G => ∃ y, σ = [some (.ref t), some (.ref a), y] ∧ G = H1 ∧ ((cellsOf ks).take i).all (inW R T) = true) ⟨_, rfl, rfl, rfl⟩ (fun i σ G _ ⟨_, _, e, _⟩ => by rw [e]; exact SqL.of hpk) ?_ ?_⟩
  · rintro i x σ G hx ⟨y, rfl, rfl, al⟩
    obtain ⟨q, c, hi, rfl⟩ := refs_at hx
    have htc := hks _ (List.mem_of_getElem? hi)
    have cj : (cellsOf ks)[i]? = some c := by
      unfold cellsOf
      rw [List.getElem?_map, hi]
      rfl
    have cm := List.mem_of_getElem? cj
    rw [eks] at cm
    obtain ⟨xi, yj, hxi, hyj, rfl⟩ := allC_mem.mp cm
    obtain ⟨d, es, gd, _⟩ := sign_at g hxi hyj
    refine ⟨_, rfl, _, rfl, a, q, R, n, xi, yj, rfl, s1 _ _ ha, g, htc, hxi, hyj, _, rfl, _, rfl, t, q, Rs, T, n, R.length, xi, yj, rfl, hT.up s1, gT, htc, hxi, hyj, ?_⟩
    rw [es]
    refine ⟨d, _, rfl, rfl, _, rfl, ?_⟩
    rw [cpsS, ← inW_eq (T := T) es]
    by_cases b : inW R T ((xi : Int), (yj : Int)) = true
    · refine iteFe (by rw [b]; rfl) ⟨_, rfl, rfl, ?_⟩
      rw [List.take_add_one, cj, List.all_append, al]
      simp [b]
    · have b : inW R T ((xi : Int), (yj : Int)) = false := by simpa using b
      refine iteTe (by rw [b]; rfl) ?_
      have e : fitsB R T n = false := by
        unfold fitsB
        exact List.all_eq_false.mpr ⟨_, cm, by rw [b]; decide⟩
      have y := k G s1
      rw [e] at y
      exact y
  · rintro σ G ⟨y, rfl, rfl, al⟩
    rw [show (refs ks).length = (cellsOf ks).length from by unfold refs cellsOf; rw [List.length_map, List.length_map], List.take_length, eks] at al
    have y := k G s1
    unfold fitsB at y
    rw [al] at y
    exact y
/-! the stones that don't -/
def spRequired : Sp := fun vs H Q _ => ∃ t Rs T a R n, vs = [.ref t, .ref a] ∧ TabAt H t Rs T ∧ TabOk T n R.length ∧ H a = some (.lst (rowsV R)) ∧ Grid R n ∧ ∀ p ks H', Same H H' → H' p = some (.lst (refs ks)) → Tups H' ks → cellsOf ks = needOf R T n → Q (.ref p) H'
abbrev nRequired : List Str := ["_law_table_here", "_law_rows", "_law_found", "_law_cell"]
theorem scRequired : FnScope nRequired ["_law_table_here", "_law_rows"] (defScope lRequired) := ⟨rfl, rfl, rfl, by decide +kernel, rfl, by decide +kernel, by decide +kernel⟩
theorem ok_required {f a1 a2 : Addr} {fd b1 b2 : FuncData} (F : Fun K "_law_required" "_law_required" lRequired f fd) (cC : Cl P w K mg base CX0 2 "_law_stones" ["_law_rows"] spStonesL a1 b1)
    (cR : Cl P w K mg base CX0 1 "_law_at" ["_law_table_here", "_law_cell"] spAtR a2 b2) (cT : Cl P w K mg base CX0 1 "_law_at" ["_law_table_here", "_law_cell"] spAtT a2 b2) : FnOk P w K mg base CX0 3 f fd ["_law_table_here", "_law_rows"] spRequired := by
  refine F.ok scRequired (fun vs H Q E h => ?_) (fun cdv A outer s H vs Q E hr h => ?_)
  · obtain ⟨t, Rs, T, a, R, n, rfl, _⟩ := h
    rfl
  obtain ⟨t, Rs, T, a, R, n, rfl, hT, gT, ha, g, k⟩ := h
  have hr1 : Room 1 _ := hr.mono (by decide)
  refine ⟨_, pss_cons (ps_set (i := 2) scRequired.nd rfl (.inl rfl) (pe_lst pa_nil)) (pss_cons (ps_for PassesOwn.never rfl (pi_list (pe_call cC.ok hr (by rfl) cC.gl cC.kp cC.bd .nil pass0 (pa_cons (pv 1) pa_nil))) (pg_name (i := 3) scRequired.nd rfl (.inl rfl))
      (pss_one (ps_if (pt_cmpR op_notIn_sign (pe_call cR.ok hr1 (by rfl) cR.gl cR.kp cR.bd .nil pass0 (pa_cons (pv 1) (pa_cons (pv 3) pa_nil))) (pe_call cT.ok hr1 (by rfl) cT.gl cT.kp cT.bd .nil pass0 (pa_cons (pv 0) (pa_cons (pv 3) pa_nil))) (by rfl)) (pss_one (ps_expr (pe_bm PySem.F.plainAttrs_list PySem.F.slot_list_append PySem.F.type_list_append mt_append (pv 2) (pa_cons (pv 3) pa_nil)))) pss_nil)))
    (pss_one (ps_ret (pv 2)))), ?_⟩
  refine ⟨small_line (by show 0 ≤ 1000; decide), fun D nD => ?_⟩
  have s2 := same_upd (o := .lst []) nD
  have hD0 : (upd H D (.lst [])) D = some (.lst []) := upd_same
  generalize upd H D (.lst []) = H0 at s2 hD0
  refine ⟨_, rfl, a, R, n, rfl, s2 _ _ ha, g, fun p ks H1 s1 np hpk hks eks => ?_⟩
  have s01 := s2.trans s1
  have lC : (cellsOf ks).length = ks.length := List.length_map _
  have lks : ks.length ≤ 64 := by rw [← lC, eks]; exact stones_le g
  let pr : Cell → Bool := fun c => !inW R T c
  have hT1 := hT.up s01
  have ha1 := s01 _ _ ha
  refine ⟨p, rfl, ⟨_, SqL.of hpk⟩, for_list (K := K) (a := p) (xs := refs ks) (fun i σ G => ∃ y, σ = [some (.ref t), some (.ref a), some (.ref D), y] ∧ SameBut D H1 G ∧ ∃ ms, G D = some (.lst (refs ms)) ∧ Tups G ms ∧ cellsOf ms = ((cellsOf ks).take i).filter pr) ⟨_, rfl, sb_refl D H1, [], s1 _ _ hD0, (fun q hq => nomatch hq), rfl⟩ (fun i σ G _ ⟨_, _, sb, _⟩ => SqL.of (sb _ _ (fun e => by rw [e, hD0] at np; cases np) hpk)) ?_ ?_⟩
  · rintro i x σ G hx ⟨y, rfl, sb, ms, hD, hm, em⟩
    obtain ⟨q, c, hi, rfl⟩ := refs_at hx
    have ckt := hks _ (List.mem_of_getElem? hi)
    have nqD : q ≠ D := fun e => by
      rw [e, s1 _ _ hD0] at ckt
      cases ckt
    have htc : G q = some (CellO c) := sb _ _ nqD ckt
    have cj : (cellsOf ks)[i]? = some c := by
      unfold cellsOf
      rw [List.getElem?_map, hi]
      rfl
    have cm := List.mem_of_getElem? cj
    rw [eks] at cm
    obtain ⟨xi, yj, hxi, hyj, rfl⟩ := allC_mem.mp (List.mem_filter.mp cm).1
    obtain ⟨d, es, gd, _⟩ := sign_at g hxi hyj
    have notD : ∀ b o, H b = some o → b ≠ D := fun b o e z => by rw [z, nD] at e; cases e
    have hTG : TabAt G t Rs T := hT.keep fun b o _ e => sb _ _ (notD b o e) (s01 _ _ e)
    refine ⟨_, rfl, _, rfl, a, q, R, n, xi, yj, rfl, sb _ _ (notD _ _ ha) ha1, g, htc, hxi, hyj, _, rfl, _, rfl, t, q, Rs, T, n, R.length, xi, yj, rfl, hTG, gT, htc, hxi, hyj, ?_⟩
    rw [es]
    refine ⟨d, _, rfl, rfl, _, rfl, ?_⟩
    rw [cpsS, ← inW_eq (T := T) es]
    have tk := take_filter (p := pr) cj
    by_cases pc : pr ((xi : Int), (yj : Int)) = true
    · rw [if_pos pc] at tk
      have lms : ms.length ≤ 64 := by
        have z := congrArg List.length em
        have y := List.length_filter_le pr ((cellsOf ks).take i)
        rw [List.length_take, show (cellsOf ks).length = ks.length from List.length_map _] at y
        rw [show (cellsOf ms).length = ms.length from List.length_map _] at z
        omega
      refine iteTe pc ⟨_, rfl, .inl ⟨rfl, _, SqL.of hD⟩, _, rfl, D, _, _, rfl, rfl, hD, by unfold refs; rw [List.length_map]; exact small1000 (by omega), _, rfl, fun o u no e => ?_, ms ++ [(q, ((xi : Int), (yj : Int)))], ?_, ?_, ?_⟩
      · rw [upd_ne no]
        exact sb _ _ no e
      · rw [upd_same]
        unfold refs
        rw [List.map_append]
        rfl
      · intro r hq
        rcases List.mem_append.mp hq with y | y
        · have z := hm r y
          rw [upd_ne (ne_of z hD (by intro q; cases q))]
          exact z
        · rw [List.mem_singleton.mp y, upd_ne nqD]
          exact htc
      · rw [tk, ← em]
        unfold cellsOf
        rw [List.map_append]
        rfl
    · rw [if_neg pc, List.append_nil] at tk
      have pc : pr ((xi : Int), (yj : Int)) = false := by simpa using pc
      exact iteFe pc ⟨_, rfl, sb, ms, hD, hm, by rw [tk]; exact em⟩
  · rintro σ G ⟨y, rfl, sb, ms, hD, hm, em⟩
    rw [show (refs ks).length = (cellsOf ks).length from by unfold refs cellsOf; rw [List.length_map, List.length_map], List.take_length, eks] at em
    refine ⟨_, rfl, k D ms G (fun b o e => sb _ _ (fun z => by rw [z, nD] at e; cases e) (s01 _ _ e)) hD hm em⟩
end
end Pm
/-! ### _law_agree -/
namespace Pm
open PySem PySem.Spec PyProof.Rows L2 SX Tr
section
variable {P : Program} {w : World} {K : PySem.W.Frag} {mg : Str → Option Value} {base : Heap} {C CS CU CR CI : Addr}
/-- the picture and the sketch that a test speaks of -/
structure StA (C CS : Addr) (G : Hp) (x xa : Addr) (Rs : List Addr) (t : Addr) (Us : List Addr) (T : Tab) (m n : Nat) (a : Addr) (R : Rows) (pic : Addr) : Prop where
  sk : SkAt CS G x xa Rs T m n
  tb : TabAt G t Us T
  rows : G a = some (.lst (rowsV R))
  pic : PicAt C G pic R
theorem StA.up {C CS : Addr} {G G' : Hp} {x xa : Addr} {Rs : List Addr} {t : Addr} {Us : List Addr} {T : Tab} {m n : Nat} {a : Addr} {R : Rows} {pic : Addr} (h : StA C CS G x xa Rs t Us T m n a R pic) (s : Same G G') : StA C CS G' x xa Rs t Us T m n a R pic := ⟨h.sk.up s, h.tb.up s, s _ _ h.rows, h.pic.same s⟩
def spAgree (CS : Addr) : Sp := fun vs H Q _ => ∃ x xa Rs t Us T m n a R n2, vs = [.ref x, .ref t, .ref a] ∧ SkAt CS H x xa Rs T m n ∧ TabAt H t Us T ∧ TabOk T m n ∧ H a = some (.lst (rowsV R)) ∧ Grid R n2 ∧ ∀ H', Same H H' → Q (.bl true) H'
abbrev nAgree : List Str := ["_law_sketch", "_law_table_here", "_law_rows", "_law_picture", "_law_refused", "_law_told"]
theorem scAgree : FnScope nAgree ["_law_sketch", "_law_table_here", "_law_rows"] (defScope lAgree) := ⟨rfl, rfl, rfl, by decide +kernel, rfl, by decide +kernel, by decide +kernel⟩
def tsAg : Addr → Value → Option Addr → TS := fun _ _ _ => tAsg (tOp (rI0 fun i j => .int (i + j)) (tVar 4) (tC (.int 1))) (gName 4)
def tbFit (C CS CU : Addr) (W : WX) : TS := tDrop (tMethE CS "fits" (spFits C CS CU) (WE W) (tVar 0) (tCons (tVar 3) tNil))
def tbNeed (C CS CU CR : Addr) (W : WX) : TS := tDrop (tCallS (spNeed C CS CU CR) (WE W) (tCons (tVar 0) (tCons (tVar 3) tNil)))
theorem ok_agree {f fI fF a1 a2 a3 a4 : Addr} {fd dI dF b1 b2 b3 b4 : FuncData} (F : Fun K "_law_agree" "_law_agree" lAgree f fd) (L : LTxt K mg) (hb : mg "bool" = none) (TC : PCls K C) (gC : mg "Picture" = some (.ref C)) (T : Kls K mg CS) (gU : mg "UnequalSize" = some (.ref CU)) (te : PySem.W.exmOne K (.ref CU) (.ref CU) = some true)
    (OI : FnOk P w K mg base (L2.CX P w) 5 fI dI ["self", "rows"] (spInit C CI)) (M : Mk K C fI) (bI : Binds K dI ["self", "rows"] [])
    (OF : FnOk P w K mg base (L2.CX P w) 4 fF dF ["self", "picture"] (spFits C CS CU)) (mF : Meth K CS "fits" fF) (bF : Binds K dF ["self", "picture"] [])
    (cN : Cl P w K mg base (L2.CX P w) 5 "required_cells" ["sketch", "picture"] (spNeed C CS CU CR) a1 b1) (cW : Cl P w K mg base CX0 2 "_law_within" ["_law_table_here", "_law_rows"] spWithin a2 b2)
    (cQ : Cl P w K mg base CX0 3 "_law_required" ["_law_table_here", "_law_rows"] spRequired a3 b3) (cR : Cl P w K mg base CX0 4 "_law_region_is" ["_law_region", "_law_due"] (spRegIs K CR) a4 b4) :
    FnOk P w K mg base CX0 7 f fd ["_law_sketch", "_law_table_here", "_law_rows"] (spAgree CS) := by
  refine F.ok scAgree (fun vs H Q E h => ?_) (fun cdv A outer s H vs Q E hr h => ?_)
  · obtain ⟨x, xa, Rs, t, Us, T0, m, n, a, R, n2, rfl, _⟩ := h
    rfl
  obtain ⟨x, xa, Rs, t, Us, T0, m, n, a, R, n2, rfl, hs, hT, gT, ha, g, k⟩ := h
  have hr2 : Room 2 _ := hr.mono (by decide)
  have hr3 : Room 3 _ := hr.mono (by decide)
  have hr4 : Room 4 _ := hr.mono (by decide)
  have hr5 : Room 5 _ := hr.mono (by decide)
  refine ⟨_, pss_cons (ps_set (i := 3) scAgree.nd rfl (.inl rfl) (pe_makeS (E := fun _ => E0) M OI hr (by rfl) gC bI (fun σ pins H s e s' I c => passF pins σ H s e s' I c) (pa_cons (pe_callTy call_list_of (by rfl) L.lst (by decide +kernel) (pa_cons (pv 2) pa_nil)) pa_nil)))
    (pss_cons (ps_if (PW.pt (pw_or (pt_cmpR op_ne (pe_callB call_len_seq (by rfl) L.len PySem.boot_len (pa_cons (pv 2) pa_nil)) (pe_callB call_len_seq (by rfl) L.len PySem.boot_len (pa_cons (pv 1) pa_nil)) (nomark _))
          (pw_or1 (pt_cmpR op_ne (pe_callB call_len_str (by rfl) L.len PySem.boot_len (pa_cons (pe_ix ix_list (pv 2) pe_int (fun _ _ => rfl)) pa_nil)) (pe_callB call_len_seq (by rfl) L.len PySem.boot_len (pa_cons (pe_ix ix_list (pv 1) pe_int (fun _ _ => rfl)) pa_nil)) (nomark _)))))
        (pss_cons (ps_set (i := 4) scAgree.nd rfl (.inl rfl) pe_int)
        (pss_cons (by exact ps_try_only (c := .ref CU) (tb := tbFit C CS CU) (ts := tsAg) (Wout := fun _ _ _ _ => False) rfl rfl ⟨rfl, by decide, .inl gU⟩ takes0 (fun W pn xe tk _ => pss_one (ps_expr (by exact pe_methE (pv 0) T.cl mF OF hr4 bF (fun σ => passAt tk σ) (pa_cons (pv 3) pa_nil)))) (fun a oe cls d pn hz hf => pss_one (ps_set (i := 4) scAgree.nd rfl (.inl rfl) (pe_op op_add (pv 4) pe_int))))
        (pss_cons (by exact ps_try_only (c := .ref CU) (tb := tbNeed C CS CU CR) (ts := tsAg) (Wout := fun _ _ _ _ => False) rfl rfl ⟨rfl, by decide, .inl gU⟩ takes0 (fun W pn xe tk _ => pss_one (ps_expr (by exact pe_callS cN.ok hr5 (by rfl) cN.gl cN.kp cN.bd (fun σ => passAt tk σ) (pa_cons (pv 0) (pa_cons (pv 3) pa_nil))))) (fun a oe cls d pn hz hf => pss_one (ps_set (i := 4) scAgree.nd rfl (.inl rfl) (pe_op op_add (pv 4) pe_int))))
        (pss_one (ps_ret (pe_cmpR op_eq (pv 4) pe_int (nomark _))))))) pss_nil)
    (pss_cons (ps_set (i := 5) scAgree.nd rfl (.inl rfl) (pe_methE (E := fun _ => E0) (pv 0) T.cl mF OF hr4 bF (fun σ pins H s e s' I c => passF pins σ H s e s' I c) (pa_cons (pv 3) pa_nil)))
    (pss_cons (ps_if (PW.pt (pw_or (pt_not (pt_val (pe_callB call_isi (by rfl) L.isi (by decide +kernel) (pa_cons (pv 5) (pa_cons (pe_bltn (v := .ty "bool") (by rfl) hb (by decide +kernel) rfl) pa_nil))))) (pw_or1 (pt_cmpR op_ne (pv 5) (pe_call cW.ok hr2 (by rfl) cW.gl cW.kp cW.bd .nil pass0 (pa_cons (pv 1) (pa_cons (pv 2) pa_nil))) (nomark _))))) (pss_one (ps_ret pe_bl)) pss_nil)
    (pss_one (ps_ret (pe_call cR.ok hr4 (by rfl) cR.gl cR.kp cR.bd .nil pass0 (pa_cons (pe_callS (E := fun _ => E0) cN.ok hr5 (by rfl) cN.gl cN.kp cN.bd (fun σ pins H s e s' I c => passF pins σ H s e s' I c) (pa_cons (pv 0) (pa_cons (pv 3) pa_nil))) (pa_cons (pe_call cQ.ok hr3 (by rfl) cQ.gl cQ.kp cQ.bd .nil pass0 (pa_cons (pv 1) (pa_cons (pv 2) pa_nil))) pa_nil)))))))), ?_⟩
  have h1 := g.h1
  have h8 := g.h8
  have w8 := g.w8
  have line0 := g.line
  refine ⟨_, rfl, a, _, rfl, .inl (SqL.of ha), fun q nq pic dx nx nd ne => ?_⟩
  refine ⟨pic, dx, q, R, rfl, upd_same, made_same nx nd _ _ upd_same, by omega, fun y m => by rw [g.row y m]; omega, gone (by rw [line0]; decide), fun _ G hpic sb => ⟨rfl, ?_⟩⟩
  have sG := (same_upd (o := .lst (rowsV R)) nq).trans (made_but nx nd sb)
  clear sb nx nd ne nq
  have A0 : StA C CS G x xa Rs t Us T0 m n a R pic := ⟨hs.up sG, hT.up sG, sG _ _ ha, hpic⟩
  clear hs hT ha hpic
  have r0 : atI (rowsV R) 0 = some (.str (S (rowAt R 0))) := atI_nat (j := 0) (rowsV_get g (by omega))
  have l0 : (rowAt R 0).length = n2 := (g.at (show 0 < R.length by omega)).2.2
  obtain ⟨hA, lR, each⟩ := A0.tb
  have lU : Us.length = n := by rw [lR, gT.h]
  have n1 := gT.n1
  have n8 := gT.n8
  have m8 := gT.m8
  refine ⟨_, rfl, a, _, rfl, .inl (SqL.of A0.rows), _, rfl, t, _, rfl, .inl (SqL.of hA), rfl, _, rfl, ?_⟩
  rw [rowsV_len, List.length_map, lU]
  by_cases el : n = R.length
  case neg =>
      have ne : ¬ (m = n2 ∧ n = R.length) := fun z => el z.2
      refine iteTe (by simp only [V.int.injEq]; rw [decide_eq_false (by omega)]; rfl) ?_
      obtain ⟨dx0, ho⟩ := A0.sk.o
      refine ⟨_, rfl, x, dx0, _, rfl, ho, rfl, _, rfl, x, xa, Rs, T0, m, n, pic, R, n2, rfl, A0.sk, gT, A0.pic, g, fun _ => ?_, fun e1 e2 => absurd ⟨e1, e2⟩ ne⟩
      refine ⟨true, te, fun _ b nb => ⟨_, rfl, _, _, rfl, rfl, ?_⟩, fun q => nomatch q⟩
      refine ⟨_, rfl, _, rfl, x, xa, Rs, T0, m, n, pic, R, n2, rfl, A0.sk, gT, A0.pic, g, fun _ => ?_, fun e1 e2 => absurd ⟨e1, e2⟩ ne⟩
      refine ⟨true, te, fun _ b nb => ⟨_, rfl, _, _, rfl, rfl, ?_⟩, fun q => nomatch q⟩
      exact ⟨_, rfl, rfl, k G sG⟩
  refine iteFe (by rw [el]; simp) ?_
  have lU0 : 0 < Us.length := by omega
  have lT0 : 0 < T0.length := by omega
  have eU : Us[0]? = some Us[0] := List.getElem?_eq_getElem lU0
  have eT : T0[0]? = some T0[0] := List.getElem?_eq_getElem lT0
  have hU0 := each 0 _ _ eU eT
  have lm : T0[0].length = m := gT.w _ (List.getElem_mem lT0)
  refine ⟨_, rfl, a, _, 0, _, rfl, rfl, SqL.of A0.rows, r0, _, rfl, by rw [len_S, l0]; exact small_line (by omega), _, rfl, t, _, 0, .ref Us[0], rfl, rfl, SqL.of hA, atI_nat (j := 0) (by rw [List.getElem?_map, eU]; rfl), Us[0], _, rfl, .inl (SqL.of hU0), rfl, _, rfl, ?_⟩
  rw [len_S, l0, rowsV_len, lm]
  by_cases en : m = n2
  case neg =>
      have ne : ¬ (m = n2 ∧ n = R.length) := fun z => en z.1
      refine iteTe (by simp only [V.int.injEq]; rw [decide_eq_false (by omega)]; rfl) ?_
      obtain ⟨dx0, ho⟩ := A0.sk.o
      refine ⟨_, rfl, x, dx0, _, rfl, ho, rfl, _, rfl, x, xa, Rs, T0, m, n, pic, R, n2, rfl, A0.sk, gT, A0.pic, g, fun _ => ?_, fun e1 e2 => absurd ⟨e1, e2⟩ ne⟩
      refine ⟨true, te, fun _ b nb => ⟨_, rfl, _, _, rfl, rfl, ?_⟩, fun q => nomatch q⟩
      refine ⟨_, rfl, _, rfl, x, xa, Rs, T0, m, n, pic, R, n2, rfl, A0.sk, gT, A0.pic, g, fun _ => ?_, fun e1 e2 => absurd ⟨e1, e2⟩ ne⟩
      refine ⟨true, te, fun _ b nb => ⟨_, rfl, _, _, rfl, rfl, ?_⟩, fun q => nomatch q⟩
      exact ⟨_, rfl, rfl, k G sG⟩
  refine iteFe (by rw [en]; simp) ?_
  clear eU eT hU0 lU0 lT0 lm lU hA lR each r0 l0
  subst en el
  obtain ⟨dx0, ho⟩ := A0.sk.o
  refine ⟨_, rfl, x, dx0, _, rfl, ho, rfl, _, rfl, x, xa, Rs, T0, m, R.length, pic, R, m, rfl, A0.sk, gT, A0.pic, g, fun z => absurd ⟨rfl, rfl⟩ z, fun _ _ G1 s1 => ?_⟩
  have A1 := A0.up s1
  refine ⟨_, rfl, .bl _, .ty "bool", .type "bool", .type "bool", true, rfl, .ty _, .base (.bl _), kit_ty (by decide +kernel), true, rfl, iteF ?_⟩
  refine ⟨_, rfl, _, rfl, _, rfl, t, Us, T0, a, R, m, rfl, A1.tb, gT, A1.rows, g, fun G2 s2 => ⟨rfl, _, rfl, iteFe (by simp) ?_⟩⟩
  have A2 := A1.up s2
  refine ⟨_, rfl, _, rfl, x, xa, Rs, T0, m, R.length, pic, R, m, rfl, A2.sk, gT, A2.pic, g, fun z => absurd ⟨rfl, rfl⟩ z, fun _ _ z0 G3 s3 nz hz => ?_⟩
  have A3 := A2.up s3
  refine ⟨_, rfl, _, rfl, t, Us, T0, a, R, m, rfl, A3.tb, gT, A3.rows, g, fun p ks G4 s4 hpk hks eks => ?_⟩
  exact ⟨z0, p, _, ks, rfl, hz.same s4, SqL.of hpk, hks, eks, fun G5 s5 => k G5 ((((sG.trans s1).trans s2).trans s3).trans (s4.trans s5))⟩
end
end Pm
/-! ### _law_allow_two -/
namespace Pm
open PySem PySem.Spec PyProof.Rows L2 SX Tr
theorem nodup_of_bef {cs : List Cell} (h : cs.Pairwise bef) : cs.Nodup := h.imp fun {a b} q e => by
  subst e
  rcases q with q | q
  · omega
  · omega
theorem ways_same {T U : Tab} : ∀ {cs : List Cell}, (∀ c ∈ cs, wordAt T c = wordAt U c) → waysOf T cs = waysOf U cs := fun {cs} h => by
  unfold waysOf
  congr 1
  exact List.map_congr_left fun c m => by rw [h c m]
theorem ways_put {T U : Tab} {c : Cell} : ∀ {cs : List Cell}, cs.Nodup → c ∈ cs → (∀ d ∈ cs, d ≠ c → wordAt T d = wordAt U d) → ∃ z, waysOf T cs = (wordAt T c).length * z ∧ waysOf U cs = (wordAt U c).length * z
  | [], _, m, _ => nomatch m
  | d :: cs, nd, m, h => by
    obtain ⟨n1, n2⟩ := List.nodup_cons.mp nd
    have e : ∀ V : Tab, waysOf V (d :: cs) = (wordAt V d).length * waysOf V cs := fun V => rfl
    by_cases q : d = c
    · subst q
      exact ⟨waysOf T cs, e T, by rw [e U, ways_same fun x mx => (h x (List.mem_cons_of_mem _ mx) fun z => n1 (z ▸ mx))]⟩
    · have mc : c ∈ cs := by
        rcases List.mem_cons.mp m with z | z
        · exact absurd z.symm q
        · exact z
      obtain ⟨z, h1, h2⟩ := ways_put n2 mc fun x mx => h x (List.mem_cons_of_mem _ mx)
      refine ⟨(wordAt T d).length * z, ?_, ?_⟩
      · rw [e T, h1, Nat.mul_left_comm]
      · rw [e U, h2, ← h d List.mem_cons_self q, Nat.mul_left_comm]
theorem word_put {T : Tab} {i j : Nat} {row : List (List Nat)} {y : List Nat} (hj : T[j]? = some row) (hi : i < row.length) : wordAt (T.set j (row.set i y)) ((i : Int), (j : Int)) = y := by
  have lj := (List.getElem?_eq_some_iff.mp hj).1
  exact wordAt_of ⟨row.set i y, List.getElem?_set_self (by simpa using lj), List.getElem?_set_self (by simpa using hi)⟩
theorem word_other {T : Tab} {i j i' j' : Nat} {row : List (List Nat)} {y : List Nat} (hj : T[j]? = some row) (ne : ¬ (i' = i ∧ j' = j)) : wordAt (T.set j (row.set i y)) ((i' : Int), (j' : Int)) = wordAt T ((i' : Int), (j' : Int)) := by
  have lj := (List.getElem?_eq_some_iff.mp hj).1
  unfold wordAt
  simp only [Int.toNat_natCast, List.getD_eq_getElem?_getD]
  by_cases e : j = j'
  · subst e
    have ni : i ≠ i' := fun z => ne ⟨z.symm, rfl⟩
    rw [List.getElem?_set_self (by simpa using lj), hj]
    show ((row.set i y)[i']?).getD [] = (row[i']?).getD []
    rw [List.getElem?_set_ne ni]
  · rw [List.getElem?_set_ne e]
theorem asc_z : asc [122, 46] = [46, 122] := ascz_uniq (List.Perm.swap _ _ _) (by simp)
theorem ok_zd : okZ [122, 46] := ⟨by decide, by decide, by decide, by decide⟩
section
variable {P : Program} {w : World} {K : PySem.W.Frag} {mg : Str → Option Value} {base : Heap} {C CS CU CR CI : Addr}
def spAllow2 (CS : Addr) : Sp := fun vs H Q _ => ∃ b l x a R t R2 T m n, vs = [.ref b, .ref x, .ref t, .int (waysOf T (allC m n) : Nat)] ∧ LawSt CS H H b l x a R t R2 T T m n ∧ (x :: a :: R ++ t :: R2).Nodup ∧
  ∀ T' G, LawSt CS H G b l x a R t R2 T' T' m n → Q (.int (waysOf T' (allC m n) : Nat)) G
abbrev pAllow2 : List Str := ["_law_bag_here", "_law_sketch", "_law_table_here", "_law_product"]
abbrev nAllow2 : List Str := ["_law_bag_here", "_law_sketch", "_law_table_here", "_law_product", "_law_cells_here", "_law_cell", "_law_line", "_law_rest"]
theorem scAllow2 : FnScope nAllow2 pAllow2 (defScope lAllowTwo) := ⟨rfl, rfl, rfl, by decide +kernel, rfl, by decide +kernel, by decide +kernel⟩
theorem ok_allow2 {f fA a1 a2 : Addr} {fd dA b1 b2 : FuncData} (F : Fun K "_law_allow_two" "_law_allow_two" lAllowTwo f fd) (L : LTxt K mg) (T : Kls K mg CS) (OA : FnOk P w K mg base CX0 4 fA dA nAllow (spAllow CS)) (mA : Meth K CS "allow" fA) (bA : Binds K dA nAllow [])
    (cT : Cl P w K mg base CX0 1 "_law_take" tkNames spTake a1 b1) (cC : Cl P w K mg base CX0 1 "_law_cells" ["_law_rows"] (spG K gTCells) a2 b2) : FnOk P w K mg base CX0 5 f fd pAllow2 (spAllow2 CS) := by
  refine F.ok scAllow2 (fun vs H Q E h => ?_) (fun cdv A outer s H vs Q E hr h => ?_)
  · obtain ⟨b, l, x, a, R, t, R2, T0, m, n, rfl, _⟩ := h
    rfl
  obtain ⟨b, l, x, a, R, t, R2, T', m, n, rfl, S1, nd, k⟩ := h
  have hr1 : Room 1 _ := hr.mono (by decide)
  refine ⟨_, pss_cons (ps_set (i := 4) scAllow2.nd rfl (.inl rfl) (pe_call cC.ok hr1 (by rfl) cC.gl cC.kp cC.bd .nil pass0 (pa_cons (pv 2) pa_nil)))
    (pss_cons (ps_set (i := 5) scAllow2.nd rfl (.inl rfl) (pe_ix ix_list (pv 4) (pe_call cT.ok hr1 (by rfl) cT.gl cT.kp cT.bd .nil pass0 (pa_cons (pv 0) (pa_cons (pe_callB call_len_seq (by rfl) L.len PySem.boot_len (pa_cons (pv 4) pa_nil)) pa_nil))) (fun _ _ => rfl)))
    (pss_cons (ps_set (i := 6) scAllow2.nd rfl (.inl rfl) (pe_ix ix_list (pv 2) (pe_ix ix_tup (pv 5) pe_int (fun _ _ => rfl)) (fun _ _ => rfl)))
    (pss_cons (ps_set (i := 7) scAllow2.nd rfl (.inl rfl) (pe_op op_fdiv (pv 3) (pe_callB call_len_str (by rfl) L.len PySem.boot_len (pa_cons (pe_ix ix_list (pv 6) (pe_ix ix_tup (pv 5) pe_int (fun _ _ => rfl)) (fun _ _ => rfl)) pa_nil))))
    (pss_cons (ps_asg pe_str (pg_sub (pv 6) (pe_ix ix_tup (pv 5) pe_int (fun _ _ => rfl)) set_list))
    (pss_cons (ps_expr (pe_meth (pv 1) T.cl mA OA hr bA .nil pass0 (pa_cons (pe_ix ix_tup (pv 5) pe_int (fun _ _ => rfl)) (pa_cons (pe_ix ix_tup (pv 5) pe_int (fun _ _ => rfl)) (pa_cons pe_str pa_nil)))))
    (pss_one (ps_ret (pe_op op_mul (pv 7) pe_int)))))))), ?_⟩
  refine ⟨_, rfl, [tabD T'], cellsD (allC m n), ⟨T', m, n, S1.ok, rfl, rfl⟩, H, Same.refl H, .cons S1.tb.rep .nil, fun v F1 G1 g1 f1 r1 => ?_⟩
  obtain ⟨cl, us, rfl, hcl, lus, each⟩ := cells_rep r1
  have S2 := S1.up g1.h
  have hcl1 := f1 _ _ hcl
  have lall : us.length = n * m := by rw [lus, allC_len]
  have p1 : 0 < us.length := by
    rw [lall]
    exact Nat.mul_pos S1.ok.n1 S1.ok.m1
  have p2 : us.length ≤ 8 * 8 := by
    rw [lall]
    exact Nat.mul_le_mul S1.ok.n8 S1.ok.m8
  have clb : cl ≠ b := fun e => by
    obtain ⟨ns, ii, pp, qq, e1, _, _⟩ := S2.bag
    rw [e, e1] at hcl1
    have := HO.lst.inj (Option.some.inj hcl1)
    subst this
    have l1 : 1 < (allC m n).length := by rw [← lus]; show 1 < 4; decide
    obtain ⟨q, eq, _⟩ := each 1 _ (List.getElem?_eq_getElem l1)
    cases eq
  refine ⟨_, rfl, _, rfl, _, rfl, cl, us, rfl, .inl (SqL.of hcl1), b, l, (us.length : Int), rfl, S2.bag, by omega, by omega, fun k1 G2 k0 k2 u2 b2 => ?_⟩
  have S3 := S2.draw (but_same u2) b2
  obtain ⟨kn, rfl⟩ : ∃ kn : Nat, k1 = (kn : Int) := ⟨k1.toNat, by omega⟩
  have lk : kn < (allC m n).length := by rw [← lus]; omega
  obtain ⟨q, hq0, hq1⟩ := each kn _ (List.getElem?_eq_getElem lk)
  have mem := List.getElem_mem lk
  obtain ⟨i', j, hi', hj, ec⟩ := allC_in mem
  rw [ec] at hq1 mem
  have qb : q ≠ b := fun e => by
    obtain ⟨xs, e2⟩ := bag_b S2.bag
    have := f1 _ _ hq1
    rw [e, e2] at this
    cases this
  have hq2 : G2 q = some (.tup [.int (i' : Int), .int (j : Int)]) := (u2 q qb).trans (f1 _ _ hq1)
  have lj : j < T'.length := by rw [S3.ok.h]; exact hj
  have hrow : T'[j]? = some T'[j] := List.getElem?_eq_getElem lj
  have ljR : j < R.length := by rw [S3.sk.t.2.1]; exact lj
  have hr0 : R[j]? = some R[j] := List.getElem?_eq_getElem ljR
  have ljR2 : j < R2.length := by rw [S3.tb.2.1]; exact lj
  have hr2' : R2[j]? = some R2[j] := List.getElem?_eq_getElem ljR2
  have hrow2 := S3.tb.2.2 j _ _ hr2' hrow
  have lrow : T'[j].length = m := S3.ok.w _ (List.getElem_mem lj)
  have lw : i' < T'[j].length := by rw [lrow]; exact hi'
  have hwd : T'[j][i']? = some T'[j][i'] := List.getElem?_eq_getElem lw
  have okw := S3.ok.ok _ (List.getElem_mem lj) _ (List.getElem_mem lw)
  have eW : wordAt T' ((i' : Int), (j : Int)) = T'[j][i'] := wordAt_of ⟨_, hrow, hwd⟩
  have w1 : 1 ≤ T'[j][i'].length := List.length_pos_iff.mpr okw.1
  have w27 := okw.2.1
  refine ⟨cl, us, (kn : Int), _, rfl, rfl, SqL.of ((u2 cl clb).trans hcl1), atI_nat hq0, ?_⟩
  refine ⟨_, rfl, _, rfl, q, _, 1, _, rfl, rfl, SqT.of hq2, rfl, t, _, (j : Int), .ref R2[j], rfl, rfl, SqL.of S3.tb.1, atI_nat (by rw [List.getElem?_map, hr2']; rfl), ?_⟩
  refine ⟨_, rfl, _, rfl, _, rfl, q, _, 0, _, rfl, rfl, SqT.of hq2, rfl, R2[j], _, (i' : Int), .str (S T'[j][i']), rfl, rfl, SqL.of hrow2, atI_nat (by unfold rowsV; rw [List.getElem?_map, hwd]; rfl), S T'[j][i'], rfl, by rw [len_S]; exact small_line (by omega), _, _, rfl, rfl, ⟨by rw [len_S]; omega, by rw [len_S]; omega⟩, ?_⟩
  refine ⟨_, rfl, _, rfl, q, _, 0, _, rfl, rfl, SqT.of hq2, rfl, R2[j], rowsV T'[j], (i' : Int), i', rfl, rfl, hrow2, ixN_nat (by rw [rowsV_len]; exact lw), ?_⟩
  have okD : okW [46, 122] := ⟨by decide, by decide, by decide, by decide, ascz_uniq (List.Perm.refl _) (by simp)⟩
  have S4 := S3.putT nd (i := i') (y := [46, 122]) (G' := upd G2 R2[j] (.lst (rowsV (T'[j].set i' [46, 122])))) hr2' hrow okD (fun c o ne e => by rw [upd_ne ne]; exact e) upd_same
  have e0 : (rowsV T'[j]).set i' (.str ".z") = rowsV (T'[j].set i' [46, 122]) := by
    rw [← rowsV_set]
    rw [show (S [46, 122] : Str) = ".z" from by decide +kernel]
  rw [e0]
  have hq4 : (upd G2 R2[j] (.lst (rowsV (T'[j].set i' [46, 122])))) q = some (.tup [.int (i' : Int), .int (j : Int)]) := by
    rw [upd_ne fun e => by rw [e, hrow2] at hq2; cases hq2]
    exact hq2
  generalize upd G2 R2[j] (.lst (rowsV (T'[j].set i' [46, 122]))) = G3 at S4 hq4 ⊢
  obtain ⟨dx, ho⟩ := S4.sk.o
  refine ⟨_, rfl, x, dx, _, rfl, ho, rfl, _, rfl, q, _, 0, _, rfl, rfl, SqT.of hq4, rfl, _, rfl, q, _, 1, _, rfl, rfl, SqT.of hq4, rfl, x, a, R, T', m, n, i', j, [122, 46], T'[j], R[j], by rw [show (S [122, 46] : Str) = "z." from by decide +kernel]; rfl, S4.sk, S4.ok, hi', ok_zd, hr0, hrow, fun G5 s5 e5 => ?_⟩
  rw [asc_z] at e5
  have S5 := S4.putS nd hr0 hrow okD s5 e5
  refine ⟨_, rfl, _, _, rfl, rfl, .inr ⟨by decide, by decide⟩, ?_⟩
  have y := k _ G5 S5
  obtain ⟨zz, h1, h2⟩ := ways_put (T := T') (U := T'.set j (T'[j].set i' [46, 122])) (nodup_of_bef (allC_asc m n)) mem fun d md ne => by
    obtain ⟨i2, j2, _, _, rfl⟩ := allC_mem.mp md
    exact (word_other hrow fun z => ne (by rw [z.1, z.2])).symm
  rw [word_put hrow lw] at h2
  rw [eW] at h1
  rw [h2] at y
  rw [h1]
  show Q (.int (((T'[j][i'].length * zz : Nat) : Int) / ((S T'[j][i']).length : Int) * 2)) G5
  have e : ((T'[j][i'].length * zz : Nat) : Int) / ((S T'[j][i']).length : Int) * 2 = ((([46, 122] : List Nat).length * zz : Nat) : Int) := by
    rw [len_S, Int.natCast_mul, Int.mul_ediv_cancel_left _ (by omega), Int.natCast_mul, Int.mul_comm]
    rfl
  rw [e]
  exact y
end
end Pm
/-! ### the law (written by gen_l22.py) -/
namespace Pm
open PySem PySem.Spec PyProof.Rows L2 SX Tr
/-- a row of signs, word by word -/
def tPlain (i : Nat) : TE := fun σ H Q => ∃ z, σ[i]? = some (some (.str (S z))) ∧ z.length ≤ 8 ∧ σ.length = 17 ∧ ∀ H' p, Same H H' → H p = none → H' p = some (.lst (rowsV (z.map fun c => [c]))) → Q (.ref p) H'
theorem seventeen {σ : L2.St} (h : σ.length = 17) : ∃ y0 y1 y2 y3 y4 y5 y6 y7 y8 y9 ya yb yc yd ye yf yg, σ = [y0, y1, y2, y3, y4, y5, y6, y7, y8, y9, ya, yb, yc, yd, ye, yf, yg] := by
  match σ, h with
  | [y0, y1, y2, y3, y4, y5, y6, y7, y8, y9, ya, yb, yc, yd, ye, yf, yg], _ => exact ⟨_, _, _, _, _, _, _, _, _, _, _, _, _, _, _, _, _, rfl⟩
/-- sketch, table, rows and what was drawn into them -/
structure St22 (CS : Addr) (G : Hp) (b l a : Addr) (R : Rows) (x xa : Addr) (Rs : List Addr) (t : Addr) (Us : List Addr) (T : Tab) (m n : Nat) (o : Addr) (Rf : Rows) : Prop where
  st : LawSt CS G G b l x xa Rs t Us T T m n
  rows : G a = some (.lst (rowsV R))
  fit : G o = some (.lst (rowsV Rf))
  na : a ∉ x :: xa :: Rs ++ t :: Us
  no : o ∉ x :: xa :: Rs ++ t :: Us
  gf : Grid Rf m
  lf : Rf.length = n
section
variable {CS b l a x xa t o : Addr} {Rs Us : List Addr} {R Rf : Rows} {T : Tab} {m n : Nat} {G G' : Hp}
theorem St22.own (S0 : St22 CS G b l a R x xa Rs t Us T m n o Rf) : ∀ c ∈ x :: xa :: Rs ++ t :: Us, ∃ v, G c = some v := fun c mc => by
  rcases List.mem_append.mp mc with mc | mc
  · exact own_some S0.st.sk c mc
  · exact tab_some S0.st.tb c mc
theorem St22.up (S0 : St22 CS G b l a R x xa Rs t Us T m n o Rf) (s : Same G G') : St22 CS G' b l a R x xa Rs t Us T m n o Rf := ⟨(S0.st.up s).base, s _ _ S0.rows, s _ _ S0.fit, S0.na, S0.no, S0.gf, S0.lf⟩
theorem St22.draw (S0 : St22 CS G b l a R x xa Rs t Us T m n o Rf) (s : SameBut b G G') (hb : BagL G' b l) : St22 CS G' b l a R x xa Rs t Us T m n o Rf :=
  ⟨(S0.st.draw s hb).base, s _ _ (rows_ne S0.st.bag S0.rows) S0.rows, s _ _ (rows_ne S0.st.bag S0.fit) S0.fit, S0.na, S0.no, S0.gf, S0.lf⟩
/-- another row set into what is drawn -/
theorem St22.fitted {o2 : Addr} {i j c : Nat} (S0 : St22 CS G b l a R x xa Rs t Us T m n o Rf) (s : Same G G') (no : G o2 = none) (h : G' o2 = some (.lst (rowsV (putR Rf i j [c])))) (hi : i < m) (hj : j < n) (hc : Good c) : St22 CS G' b l a R x xa Rs t Us T m n o2 (putR Rf i j [c]) :=
  ⟨(S0.st.up s).base, s _ _ S0.rows, h, S0.na, fun mc => (by
    obtain ⟨v, e⟩ := S0.own _ mc
    rw [e] at no
    cases no), S0.gf.put hi (by rw [S0.lf]; exact hj) hc, by unfold putR; rw [List.length_set]; exact S0.lf⟩
theorem St22.two {T' : Tab} (S0 : St22 CS G b l a R x xa Rs t Us T m n o Rf) (s : LawSt CS G G' b l x xa Rs t Us T' T' m n) : St22 CS G' b l a R x xa Rs t Us T' m n o Rf :=
  ⟨s.base, s.fr _ _ (rows_ne S0.st.bag S0.rows) S0.na S0.rows, s.fr _ _ (rows_ne S0.st.bag S0.fit) S0.no S0.fit, S0.na, S0.no, S0.gf, S0.lf⟩
end
theorem prodL_ones : ∀ {l : List Nat}, (∀ a ∈ l, a = 1) → prodL l = 1
  | [], _ => rfl
  | a :: l, h => by
    show a * prodL l = 1
    rw [h a List.mem_cons_self, prodL_ones fun b m => h b (List.mem_cons_of_mem _ m)]
theorem ways_plain {R : Rows} {n : Nat} (g : Grid R n) : waysOf (plainT R) (allC n R.length) = 1 := prodL_ones fun k mk => by
  obtain ⟨c, mc, rfl⟩ := List.mem_map.mp mk
  obtain ⟨i, j, hi, hj, rfl⟩ := allC_mem.mp mc
  obtain ⟨r, e1, e2⟩ := at_word (plain_ok g) hi hj
  unfold plainT at e1
  rw [List.getElem?_map] at e1
  cases hz : R[j]? with
  | none => rw [hz] at e1; cases e1
  | some z =>
    rw [hz] at e1
    cases e1
    rw [List.getElem?_map] at e2
    cases hc : z[i]? with
    | none => rw [hc] at e2; cases e2
    | some c =>
      rw [hc] at e2
      have := Option.some.inj e2
      rw [← this]
      rfl
section
variable {P : Program} {w : World} {K : PySem.W.Frag} {mg : Str → Option Value} {base : Heap} {C CS CU CR CI : Addr}
def spLaw (K : PySem.W.Frag) : Sp := fun vs H Q _ => ∃ (a : Addr) (ns : List Int), vs = [.ref a] ∧ SqL K H a (ns.map V.int) ∧ ns.length ≤ 63 ∧ ∀ H', Q (.bl true) H'
abbrev nLaw : List Str := ["_law_script", "_law_bag_here", "_law_palette_here", "_law_rows", "_law_table_here", "_law_sketch", "_law_product", "_law_fitted", "_law_cell", "_law_signs", "_law_told", "_law_k", "_law_cells_here", "_law_exact", "_law_plain", "_law_row_here", "_law_sign"]
theorem scLaw : FnScope nLaw ["_law_script"] (defScope lLaw) := ⟨rfl, rfl, rfl, by decide +kernel, rfl, by decide +kernel, by decide +kernel⟩
theorem ok_law {fI fR fO fW a1 a2 a3 a4 a5 a6 a7 a8 a9 aA aB aC aD aE aF f : Addr} {fd dI dR dO dW b1 b2 b3 b4 b5 b6 b7 b8 b9 bA bB bC bD bE bF : FuncData} {mc : Value} {pR pO : Addr} (F : Fun K "law" "law" lLaw f fd) (L : LTxt K mg) (T : Kls K mg CS) (gC : mg "Picture" = some (.ref C))
    (cBag : Cl P w K mg base CX0 1 "_law_bag" ["_law_script"] (spBag K) a1 b1) (cPal : Cl P w K mg base CX0 2 "_law_palette" ["_law_bag_here"] spPal a2 b2) (cTake : Cl P w K mg base CX0 1 "_law_take" tkNames spTake a3 b3)
    (cIs : Cl P w K mg base CX0 5 "_law_sketch_is" ["_law_sketch", "_law_table_here"] (spG K (gSkIs CS)) a4 b4) (cGrid : Cl P w K mg base CX0 3 "_law_grid" ["_law_bag_here", "_law_palette_here"] spGrid a5 b5) (cBig : Cl P w K mg base CX0 3 "_law_big_grid" ["_law_bag_here", "_law_palette_here"] spGrid a6 b6)
    (cTab : Cl P w K mg base CX0 3 "_law_table" ["_law_bag_here", "_law_palette_here", "_law_rows"] spTable a7 b7) (cTx : Cl P w K mg base CX0 1 "_law_sketch_text" ["_law_table_here"] (spG K gLText) a8 b8)
    (cC : Cl P w K mg base CX0 1 "_law_cells" ["_law_rows"] spCellsOf a9 b9) (cAt : Cl P w K mg base CX0 1 "_law_at" ["_law_table_here", "_law_cell"] spAtT aA bA) (cPut : Cl P w K mg base CX0 1 "_law_put" ["_law_rows", "_law_cx", "_law_cy", "_law_sign"] spPut aB bB)
    (cII : Cl P w K mg base CX0 1 "_law_is_int" ["_law_value"] spIsInt aC bC) (cA : Cl P w K mg base CX0 7 "_law_agree" ["_law_sketch", "_law_table_here", "_law_rows"] (spAgree CS) aD bD) (cRow : Cl P w K mg base CX0 2 "_law_row" ["_law_bag_here", "_law_palette_here", "_law_wide"] spRow aE bE)
    (cTwo : Cl P w K mg base CX0 5 "_law_allow_two" pAllow2 (spAllow2 CS) aF bF) (OW : FnOk P w K mg base CX0 1 fW dW ["self"] (spWays CS)) (mW : Meth K CS "ways" fW) (bW : Binds K dW ["self"] [])
    (OI : FnOk P w K mg base (L2.CX P w) 5 fI dI ["self", "rows"] (spInit C CI)) (M : Mk K C fI) (bI : Binds K dI ["self", "rows"] [])
    (crd : ClX.CRead K CS mc) (OR : FnOk P w K mg base CX0 6 fR dR ["cls", "text"] (spRead CS)) (cm : ClX.CMet K CS mc "read" pR fR) (bR : Binds K dR ["cls", "text"] [])
    (OO : FnOk P w K mg base CX0 3 fO dO ["cls", "picture"] (spOf C CS)) (cmO : ClX.CMet K CS mc "of" pO fO) (bO : Binds K dO ["cls", "picture"] []) :
    FnOk P w K mg base CX0 8 f fd ["_law_script"] (spLaw K) := by
  refine F.ok scLaw (fun vs H Q E h => ?_) (fun cdv A outer s H vs Q E hr h => ?_)
  · obtain ⟨a, ns, rfl, _⟩ := h
    rfl
  obtain ⟨sa, ns, rfl, ha, few, k⟩ := h
  have hr1 : Room 1 _ := hr.mono (by decide)
  have hr2 : Room 2 _ := hr.mono (by decide)
  have hr3 : Room 3 _ := hr.mono (by decide)
  have hr5 : Room 5 _ := hr.mono (by decide)
  have hr6 : Room 6 _ := hr.mono (by decide)
  refine ⟨_, (pss_cons (ps_set (i := 1) scLaw.nd rfl (.inl rfl) (pe_call cBag.ok hr1 (by rfl) cBag.gl cBag.kp cBag.bd .nil pass0 (pa_cons (pv 0) pa_nil)))
    (pss_cons (ps_set (i := 2) scLaw.nd rfl (.inl rfl) (pe_call cPal.ok hr2 (by rfl) cPal.gl cPal.kp cPal.bd .nil pass0 (pa_cons (pv 1) pa_nil)))
    (pss_cons (ps_set (i := 3) scLaw.nd rfl (.inl rfl) (pe_call cGrid.ok hr3 (by rfl) cGrid.gl cGrid.kp cGrid.bd .nil pass0 (pa_cons (pv 1) (pa_cons (pv 2) pa_nil))))
    (pss_cons (ps_if (pt_cmpR op_eq (pe_call cTake.ok hr1 (by rfl) cTake.gl cTake.kp cTake.bd .nil pass0 (pa_cons (pv 1) (pa_cons pe_int pa_nil))) pe_int (nomark _)) (pss_one (ps_set (i := 3) scLaw.nd rfl (.inl rfl) (pe_call cBig.ok hr3 (by rfl) cBig.gl cBig.kp cBig.bd .nil pass0 (pa_cons (pv 1) (pa_cons (pv 2) pa_nil))))) pss_nil)
    (pss_cons (ps_set (i := 4) scLaw.nd rfl (.inl rfl) (pe_call cTab.ok hr3 (by rfl) cTab.gl cTab.kp cTab.bd .nil pass0 (pa_cons (pv 1) (pa_cons (pv 2) (pa_cons (pv 3) pa_nil)))))
    (pss_cons (ps_set (i := 5) scLaw.nd rfl (.inl rfl) (ClX.pe_cmeth (pe_glob (v := .ref CS) (by rfl) T.gS rfl) crd cm (raw0 OR bR) hr6 pass0 (pa_cons (pe_call cTx.ok hr1 (by rfl) cTx.gl cTx.kp cTx.bd .nil pass0 (pa_cons (pv 4) pa_nil)) pa_nil)))
    (pss_cons (ps_set (i := 6) scLaw.nd rfl (.inl rfl) pe_int)
    (pss_cons (ps_set (i := 7) scLaw.nd rfl (.inl rfl) (pv 3))
    (pss_cons (ps_for PassesOwn.never rfl (pi_list (pe_call cC.ok hr1 (by rfl) cC.gl cC.kp cC.bd .nil pass0 (pa_cons (pv 3) pa_nil))) (pg_name (i := 8) scLaw.nd rfl (.inl rfl)) (pss_cons (ps_set (i := 9) scLaw.nd rfl (.inl rfl) (pe_call cAt.ok hr1 (by rfl) cAt.gl cAt.kp cAt.bd .nil pass0 (pa_cons (pv 4) (pa_cons (pv 8) pa_nil))))
    (pss_cons (ps_set (i := 6) scLaw.nd rfl (.inl rfl) (pe_op op_mul (pv 6) (pe_callB call_len_str (by rfl) L.len PySem.boot_len (pa_cons (pv 9) pa_nil))))
    (pss_one (ps_set (i := 7) scLaw.nd rfl (.inl rfl) (pe_call cPut.ok hr1 (by rfl) cPut.gl cPut.kp cPut.bd .nil pass0 (pa_cons (pv 7) (pa_cons (pe_ix ix_tup (pv 8) pe_int (fun _ _ => rfl)) (pa_cons (pe_ix ix_tup (pv 8) pe_int (fun _ _ => rfl)) (pa_cons (pe_ix ix_str (pv 9) (pe_call cTake.ok hr1 (by rfl) cTake.gl cTake.kp cTake.bd .nil pass0 (pa_cons (pv 1) (pa_cons (pe_callB call_len_str (by rfl) L.len PySem.boot_len (pa_cons (pv 9) pa_nil)) pa_nil))) (fun _ _ => rfl)) pa_nil))))))))))
    (pss_cons (ps_set (i := 10) scLaw.nd rfl (.inl rfl) (pe_meth0 (pv 5) T.cl mW OW hr1 bW .nil pass0))
    (pss_cons (ps_if (PW.pt (pw_or (pt_not (pt_val (pe_call cII.ok hr1 (by rfl) cII.gl cII.kp cII.bd .nil pass0 (pa_cons (pv 10) pa_nil)))) (pw_or (pt_cmpR op_ne (pv 10) (pv 6) (nomark _)) (pw_or1 (pt_not (pt_val (pe_call cA.ok hr (by rfl) cA.gl cA.kp cA.bd .nil pass0 (pa_cons (pv 5) (pa_cons (pv 4) (pa_cons (pv 7) pa_nil)))))))))) (pss_one (ps_ret pe_bl)) pss_nil)
    (pss_cons (ps_for PassesOwn.never rfl (pi_range1 (by rfl) L.rng (pa_cons (pe_call cTake.ok hr1 (by rfl) cTake.gl cTake.kp cTake.bd .nil pass0 (pa_cons (pv 1) (pa_cons pe_int pa_nil))) pa_nil)) (pg_name (i := 11) scLaw.nd rfl (.inl rfl)) (pss_cons (ps_set (i := 12) scLaw.nd rfl (.inl rfl) (pe_call cC.ok hr1 (by rfl) cC.gl cC.kp cC.bd .nil pass0 (pa_cons (pv 3) pa_nil)))
    (pss_cons (ps_set (i := 8) scLaw.nd rfl (.inl rfl) (pe_ix ix_list (pv 12) (pe_call cTake.ok hr1 (by rfl) cTake.gl cTake.kp cTake.bd .nil pass0 (pa_cons (pv 1) (pa_cons (pe_callB call_len_seq (by rfl) L.len PySem.boot_len (pa_cons (pv 12) pa_nil)) pa_nil))) (fun _ _ => rfl)))
    (pss_one (ps_set (i := 7) scLaw.nd rfl (.inl rfl) (pe_call cPut.ok hr1 (by rfl) cPut.gl cPut.kp cPut.bd .nil pass0 (pa_cons (pv 7) (pa_cons (pe_ix ix_tup (pv 8) pe_int (fun _ _ => rfl)) (pa_cons (pe_ix ix_tup (pv 8) pe_int (fun _ _ => rfl)) (pa_cons (pe_call cRow.ok hr2 (by rfl) cRow.gl cRow.kp cRow.bd .nil pass0 (pa_cons (pv 1) (pa_cons (pv 2) (pa_cons pe_int pa_nil)))) pa_nil))))))))))
    (pss_cons (ps_if (PW.pt (pw_or (pt_not (pt_val (pe_call cA.ok hr (by rfl) cA.gl cA.kp cA.bd .nil pass0 (pa_cons (pv 5) (pa_cons (pv 4) (pa_cons (pv 7) pa_nil)))))) (pw_or1 (pt_not (pt_val (pe_call cA.ok hr (by rfl) cA.gl cA.kp cA.bd .nil pass0 (pa_cons (pv 5) (pa_cons (pv 4) (pa_cons (pv 3) pa_nil))))))))) (pss_one (ps_ret pe_bl)) pss_nil)
    (pss_cons (ps_if (pt_not (pt_val (pe_call cA.ok hr (by rfl) cA.gl cA.kp cA.bd .nil pass0 (pa_cons (pv 5) (pa_cons (pv 4) (pa_cons (pe_call cGrid.ok hr3 (by rfl) cGrid.gl cGrid.kp cGrid.bd .nil pass0 (pa_cons (pv 1) (pa_cons (pv 2) pa_nil))) pa_nil)))))) (pss_one (ps_ret pe_bl)) pss_nil)
    (pss_cons (ps_set (i := 6) scLaw.nd rfl (.inl rfl) (pe_call cTwo.ok hr5 (by rfl) cTwo.gl cTwo.kp cTwo.bd .nil pass0 (pa_cons (pv 1) (pa_cons (pv 5) (pa_cons (pv 4) (pa_cons (pv 6) pa_nil))))))
    (pss_cons (ps_if (PW.pt (pw_or (pt_cmpR op_ne (pe_meth0 (pv 5) T.cl mW OW hr1 bW .nil pass0) (pv 6) (nomark _)) (pw_or1 (pt_not (pt_val (pe_call cA.ok hr (by rfl) cA.gl cA.kp cA.bd .nil pass0 (pa_cons (pv 5) (pa_cons (pv 4) (pa_cons (pv 3) pa_nil))))))))) (pss_one (ps_ret pe_bl)) pss_nil)
    (pss_cons (ps_set (i := 13) scLaw.nd rfl (.inl rfl) (ClX.pe_cmeth (pe_glob (v := .ref CS) (by rfl) T.gS rfl) crd cmO (raw0 OO bO) hr3 pass0 (pa_cons (pe_makeS (E := fun _ => E0) M OI hr6 (by rfl) gC bI (fun σ pins H s e s' I c => passF pins σ H s e s' I c) (pa_cons (pe_callTy call_list_of (by rfl) L.lst (by decide +kernel) (pa_cons (pv 3) pa_nil)) pa_nil)) pa_nil)))
    (pss_cons (ps_setLc (i := 14) (own := [("_law_row_here", 15)]) (g := gName 15) (tt := tYes) (te := tPlain 15) rfl scLaw.nd rfl rfl (sw_true rfl rfl rfl (by decide +kernel)) (pi_list (pv 3)) (blkOk_by (own := [("_law_row_here", 15)]) (N := nLaw) (sc := defScope lLaw) (by decide +kernel)) (fun _ _ _ _ _ => pg_name (i := 15) scLaw.nd rfl (.inl rfl)) (fun _ _ _ _ _ => pts_nil) (fun _ _ _ _ _ => ?_))
    (pss_cons (ps_if (PW.pt (pw_or (pt_not (pt_val (pe_call cIs.ok hr5 (by rfl) cIs.gl cIs.kp cIs.bd .nil pass0 (pa_cons (pv 13) (pa_cons (pv 14) pa_nil))))) (pw_or1 (pt_cmpR op_ne (pe_meth0 (pv 13) T.cl mW OW hr1 bW .nil pass0) pe_int (nomark _))))) (pss_one (ps_ret pe_bl)) pss_nil)
    (pss_one (ps_ret (pe_and (pe_call cA.ok hr (by rfl) cA.gl cA.kp cA.bd .nil pass0 (pa_cons (pv 13) (pa_cons (pv 14) (pa_cons (pv 7) pa_nil)))) (pe_and (pe_call cA.ok hr (by rfl) cA.gl cA.kp cA.bd .nil pass0 (pa_cons (pv 13) (pa_cons (pv 14) (pa_cons (pv 3) pa_nil)))) (pe_one (pe_call cIs.ok hr5 (by rfl) cIs.gl cIs.kp cIs.bd .nil pass0 (pa_cons (pv 5) (pa_cons (pv 4) pa_nil))))))))))))))))))))))))))), ?_⟩
  · refine PE.weak (pe_lc (own := [("_law_sign", 16)]) (g := (gName 16)) (tt := tYes) (te := tVar 16) rfl scLaw.nd (pi_str (pv 15)) (blkOk_by (own := [("_law_sign", 16)]) (N := nLaw) (sc := cutScope [(".0", .local), ("_law_row_here", .local)]) (by decide +kernel)) (fun _ _ _ _ _ => (pg_name (i := 16) scLaw.nd rfl (.inl rfl))) (fun _ _ _ _ _ => pts_nil) (fun _ _ _ _ _ => pv 16)) (fun σ H Q ⟨z, e, l8, l17, q⟩ => ?_)
    obtain ⟨y0, y1, y2, y3, y4, y5, y6, y7, y8, y9, ya, yb, yc, yd, ye, yf, yg, rfl⟩ := seventeen l17
    refine ⟨_, e, S z, rfl, fun D nD => lc_it walk_str (fun i G => Same H G ∧ G D = some (.lst (rowsV ((z.take i).map fun c => [c])))) ⟨same_upd nD, upd_same⟩ (fun _ _ _ _ => trivial) ?_ ?_⟩
    · rintro i x G G' hi ⟨sG, hD⟩ ⟨rfl, d, gd, rfl⟩
      have gd2 : z[i]? = some d := by
        have y : z.toArray[i]? = some d := gd
        rwa [List.getElem?_toArray] at y
      refine ⟨rfl, tyes (iteT ⟨_, rfl, _, hD, ?_, ?_, ?_⟩)⟩
      · rw [rowsV_len, List.length_map, List.length_take]
        exact small1000 (by omega)
      · exact fun b o e => by
          rw [upd_ne (ne_of_none e nD)]
          exact sG b o e
      · rw [upd_same, List.take_add_one, gd2]
        unfold rowsV
        rw [List.map_append, List.map_append]
        rfl
    · rintro G ⟨sG, hD⟩
      have e1 : (S z).cps.size = z.length := by simp
      rw [e1, List.take_of_length_le (Nat.le_refl _)] at hD
      exact q G D sG nD hD
  refine ⟨_, rfl, sa, ns, rfl, ha, few, fun b l H1 s1 nb hb => ?_⟩
  refine ⟨_, rfl, b, l, rfl, hb, fun z H2 hz u2 b2 => ?_⟩
  refine ⟨_, rfl, _, rfl, b, l, z, rfl, b2, hz, fun a0 R0 m0 H3 g0 s3 b3 na0 ha0 => ?_⟩
  refine setG ?_
  dsimp only
  clear ha s1 nb hb u2 b2 s3 na0
  refine joinW (fun σ G => ∃ a R m, σ = [some (.ref sa), some (.ref b), some (.str (S z)), some (.ref a), none, none, none, none, none, none, none, none, none, none, none, none, none] ∧ BagL G b l ∧ Grid R m ∧ G a = some (.lst (rowsV R))) (fun nx hnx => ?_) ?_
  · refine ⟨_, rfl, b, l, 4, rfl, b3, by decide, by decide, fun k1 G1 k0 k2 u1 b4 => ⟨rfl, _, rfl, ite2 (fun e => ?_) (fun e => ?_)⟩⟩
    · refine ⟨_, rfl, _, rfl, b, l, z, rfl, b4, hz, fun a R m G2 g s5 b5 np hp => ?_⟩
      exact hnx _ _ ⟨a, R, m, rfl, b5, g, hp⟩
    · exact hnx _ _ ⟨a0, R0, m0, rfl, b4, g0, (u1 a0 (rows_ne b3 ha0)).trans ha0⟩
  clear ha0 b3 g0
  rintro σ G ⟨a, R, m, rfl, bG, g, hR⟩
  refine ⟨_, rfl, _, rfl, _, rfl, b, l, z, a, R, m, rfl, bG, hz, g, hR, fun t Us T0 H4 okT tB => ?_⟩
  refine ⟨rfl, _, rfl, [tabD T0], .tx (tabT (starT T0)), ⟨T0, m, R.length, okT, rfl, rfl⟩, _, Same.refl _, .cons tB.tb.rep .nil, fun v F1 Ga ga fa ra => ?_⟩
  cases ra
  obtain ⟨wS, eS⟩ := read_star okT
  refine ⟨starT T0, m, R.length, rfl, wS, fun Gb x xa Rs sb sk nk => ?_⟩
  rw [eS] at sk
  have aT : a ∉ t :: Us := fun mc => by
    have := tB.nw.2 _ mc
    rw [hR] at this
    cases this
  have hR4 := tB.sb a _ (rows_ne bG hR) hR
  have aS : a ∉ x :: xa :: Rs := fun mc => by
    have := nk.2 _ mc
    rw [ga.h _ _ hR4] at this
    cases this
  have nd : (x :: xa :: Rs ++ t :: Us).Nodup := by
    refine List.nodup_append.mpr ⟨nk.1, tB.nw.1, fun c m1 d m2 e => ?_⟩
    subst e
    obtain ⟨o, eo⟩ := tab_some tB.tb c m2
    have := nk.2 _ m1
    rw [ga.h _ _ eo] at this
    cases this
  have up := ga.h.trans sb
  have nA : a ∉ x :: xa :: Rs ++ t :: Us := fun mc => (List.mem_append.mp mc).elim aS aT
  have S0 : St22 CS Gb b l a R x xa Rs t Us T0 m R.length a R := ⟨⟨bag_same tB.bag up, sk, tB.tb.up up, okT, okT, fun _ _ _ _ e => e⟩, up _ _ hR4, up _ _ hR4, nA, nA, g, rfl⟩
  clear up nA aS aT hR4 sk sb ga fa wS eS nk tB hR bG
  refine setG ?_
  dsimp only
  refine setG ?_
  dsimp only
  refine ⟨_, rfl, ?_⟩
  refine setG ?_
  dsimp only
  -- the drawn fit
  have h8 := g.h8
  have w8 := g.w8
  have h1 := g.h1
  have w1 := g.w1
  refine ⟨_, rfl, a, R, m, rfl, S0.rows, g, fun p ks G1 s1 np hpk hks eks => ?_⟩
  have S1 := S0.up s1
  have pb : p ≠ b := fun e => by
    obtain ⟨xs, e2⟩ := bag_b S0.st.bag
    rw [e, e2] at np
    cases np
  clear S0 s1 np
  refine ⟨p, rfl, ⟨_, SqL.of hpk⟩, for_list (K := K) (a := p) (xs := refs ks) (fun i σ G => ∃ o Rf y8 y9, σ = [some (.ref sa), some (.ref b), some (.str (S z)), some (.ref a), some (.ref t), some (.ref x), some (.int (waysOf T0 ((cellsOf ks).take i) : Nat)), some (.ref o), y8, y9, none, none, none, none, none, none, none] ∧ St22 CS G b l a R x xa Rs t Us T0 m R.length o Rf ∧ SameBut b G1 G) ⟨a, R, _, _, rfl, S1, sb_refl b G1⟩ (fun i σ G _ ⟨_, _, _, _, _, _, sb⟩ => SqL.of (sb _ _ pb hpk)) ?_ ?_⟩
  · rintro i v σ G hx ⟨o, Rf, y8, y9, rfl, S2, sb⟩
    obtain ⟨q, c, hi, rfl⟩ := refs_at hx
    have hq1 := hks _ (List.mem_of_getElem? hi)
    have qb : q ≠ b := fun e => by
      obtain ⟨xs, e2⟩ := bag_b S1.st.bag
      have hq1 : G1 q = some (CellO c) := hq1
      rw [e, e2] at hq1
      cases hq1
    have htc : G q = some (CellO c) := sb _ _ qb hq1
    have cj : (cellsOf ks)[i]? = some c := by
      unfold cellsOf
      rw [List.getElem?_map, hi]
      rfl
    have cm := List.mem_of_getElem? cj
    rw [eks] at cm
    obtain ⟨xi, yj, hxi, hyj, rfl⟩ := allC_mem.mp cm
    obtain ⟨row, e1, e2⟩ := at_word okT hxi hyj
    have okw := okT.ok row (List.mem_of_getElem? e1) _ (List.mem_of_getElem? e2)
    have ww1 : 1 ≤ (wordAt T0 ((xi : Int), (yj : Int))).length := List.length_pos_iff.mpr okw.1
    have w27 := okw.2.1
    have eW : waysOf T0 ((cellsOf ks).take (i + 1)) = waysOf T0 ((cellsOf ks).take i) * (wordAt T0 ((xi : Int), (yj : Int))).length := by
      rw [List.take_add_one, cj, waysOf_append]
      congr 1
      exact waysOf_one
    refine ⟨_, rfl, _, rfl, t, q, Us, T0, m, R.length, xi, yj, rfl, S2.st.tb, okT, htc, hxi, hyj, ?_⟩
    generalize wordAt T0 ((xi : Int), (yj : Int)) = wd at okw ww1 w27 eW ⊢
    refine ⟨_, rfl, _, rfl, S wd, rfl, by rw [len_S]; exact small_line (by omega), _, _, rfl, rfl, by rw [len_S]; exact c27 w27, ?_⟩
    refine ⟨_, rfl, _, rfl, q, _, 0, _, rfl, rfl, SqT.of htc, rfl, _, rfl, q, _, 1, _, rfl, rfl, SqT.of htc, rfl, _, rfl, _, rfl, _, rfl, S wd, rfl, by rw [len_S]; exact small_line (by omega), b, l, _, rfl, S2.st.bag, by rw [len_S]; omega, by rw [len_S]; omega, fun k1 G2 k0 k2 u2 b2 => ?_⟩
    rw [len_S] at k2
    obtain ⟨k1, rfl⟩ : ∃ k1' : Nat, k1 = k1' := ⟨k1.toNat, by omega⟩
    have lk : k1 < wd.length := by omega
    have hc : Good wd[k1] := by
      rcases okw.2.2.1 _ (List.getElem_mem lk) with e | e
      · exact .inl e
      · exact .inr e
    have S3 := S2.draw (but_same u2) b2
    refine ⟨S wd, (k1 : Int), wd[k1], rfl, rfl, by rw [len_S]; exact small_line (by omega), by rw [cpsS]; exact atI_nat (List.getElem?_eq_getElem lk), ?_⟩
    refine ⟨o, Rf, m, xi, yj, [wd[k1]], rfl, S3.fit, S3.gf, hxi, by rw [S3.lf]; exact hyj, by show 1 ≤ 2; decide, fun o2 G3 s3 no2 ho2 => ?_⟩
    refine ⟨o2, _, some (.ref q), some (.str (S wd)), ?_, S3.fitted s3 no2 ho2 hxi hyj hc, sb_trans (sb_trans sb (but_same u2)) (same_sb s3)⟩
    rw [eW, len_S, Int.natCast_mul]
    rfl
  rintro σ G ⟨o, Rf, y8, y9, rfl, S2, _⟩
  rw [show (refs ks).length = (cellsOf ks).length from by unfold refs cellsOf; rw [List.length_map, List.length_map], List.take_length, eks]
  clear S1 pb hpk hks eks
  obtain ⟨dx, ho⟩ := S2.st.sk.o
  refine ⟨_, rfl, x, dx, _, rfl, ho, rfl, x, xa, Rs, T0, m, R.length, rfl, S2.st.sk, okT, ?_⟩
  refine setG ?_
  dsimp only
  refine ⟨_, rfl, _, rfl, _, rfl, iteF ?_⟩
  refine ⟨_, rfl, _, rfl, rfl, _, rfl, iteFe (by simp) ?_⟩
  refine ⟨_, rfl, _, rfl, _, rfl, x, xa, Rs, t, Us, T0, m, R.length, o, Rf, m, rfl, S2.st.sk, S2.st.tb, okT, S2.fit, S2.gf, fun G4 s4 => ⟨_, rfl, iteF ?_⟩⟩
  have S4 := S2.up s4
  clear S2 s4 ho
  -- signs drawn again
  refine ⟨_, rfl, b, l, 3, rfl, S4.st.bag, by decide, by decide, fun mm G5 m0 m1 v1 c1 => ⟨_, rfl, by omega, by omega, ?_⟩⟩
  have S5 := S4.draw (but_same v1) c1
  clear S4 v1 c1
  refine for_range (lo := 0) (n := mm.toNat) (fun i σ G => ∃ o Rf y8 y11 y12, σ = [some (.ref sa), some (.ref b), some (.str (S z)), some (.ref a), some (.ref t), some (.ref x), some (.int (waysOf T0 (allC m R.length) : Nat)), some (.ref o), y8, y9, some (.int (waysOf T0 (allC m R.length) : Nat)), y11, y12, none, none, none, none] ∧ St22 CS G b l a R x xa Rs t Us T0 m R.length o Rf) ⟨o, Rf, _, _, _, rfl, S5⟩ ?_ ?_
  · rintro i σ G hi ⟨o, Rf, y8, y11, y12, rfl, S6⟩
    refine ⟨_, rfl, a, R, m, rfl, S6.rows, g, fun q ks G2 s2 nq hq hks eks => ?_⟩
    have lk : ks.length = R.length * m := by
      have z := congrArg List.length eks
      rw [allC_len, show (cellsOf ks).length = ks.length from List.length_map _] at z
      exact z
    have lk1 : 1 ≤ ks.length := by
      rw [lk]
      exact Nat.mul_pos h1 w1
    have lk64 : ks.length ≤ 64 := by
      rw [lk]
      exact Nat.mul_le_mul h8 w8
    have lrk : (refs ks).length = ks.length := List.length_map _
    have S7 := S6.up s2
    refine ⟨_, rfl, _, rfl, _, rfl, q, _, rfl, .inl (SqL.of hq), b, l, _, rfl, S7.st.bag, by rw [lrk]; omega, by rw [lrk]; omega, fun j G3 j0 j1 v3 b4 => ?_⟩
    rw [lrk] at j1
    obtain ⟨j, rfl⟩ : ∃ j' : Nat, j = (j' : Int) := ⟨j.toNat, by omega⟩
    have hj : j < ks.length := by omega
    have gj : ks[j]? = some ks[j] := List.getElem?_eq_getElem hj
    have mj : ks[j] ∈ ks := List.getElem_mem hj
    have gr : (refs ks)[j]? = some (V.ref ks[j].1) := by
      unfold refs
      rw [List.getElem?_map, gj]
      rfl
    have cm : ks[j].2 ∈ allC m R.length := by
      rw [← eks]
      exact List.mem_map.mpr ⟨_, mj, rfl⟩
    have htc := hks _ mj
    generalize ks[j] = tc at gj mj gr cm htc
    obtain ⟨u, c⟩ := tc
    obtain ⟨xi, yj, hxi, hyj, rfl⟩ := allC_mem.mp cm
    have nqb : q ≠ b := fun e => by
      obtain ⟨xs, e2⟩ := bag_b S6.st.bag
      rw [e, e2] at nq
      cases nq
    have nub : u ≠ b := fun e => by
      obtain ⟨xs, e2⟩ := bag_b S7.st.bag
      have htc : G2 u = some (CellO ((xi : Int), (yj : Int))) := htc
      rw [e, e2] at htc
      cases htc
    have hq3 := (v3 q nqb).trans hq
    have hu3 : G3 u = some (CellO ((xi : Int), (yj : Int))) := (v3 u nub).trans htc
    have S8 := S7.draw (but_same v3) b4
    refine ⟨q, _, (j : Int), _, rfl, rfl, SqL.of hq3, atI_nat gr, ?_⟩
    refine ⟨_, rfl, _, rfl, u, _, 0, _, rfl, rfl, SqT.of hu3, rfl, _, rfl, u, _, 1, _, rfl, rfl, SqT.of hu3, rfl, _, rfl, _, rfl, b, l, z, 1, rfl, S8.st.bag, hz, by decide, by decide, fun r G4 lr gr4 v4 b5 => ?_⟩
    have S9 := S8.draw (but_same v4) b5
    obtain ⟨c, rfl⟩ : ∃ c, r = [c] := len_one (by omega)
    refine ⟨o, Rf, m, xi, yj, [c], rfl, S9.fit, S9.gf, hxi, by rw [S9.lf]; exact hyj, by show 1 ≤ 2; decide, fun o2 G5 s5 no2 ho5 => ?_⟩
    exact ⟨o2, _, _, _, _, rfl, S9.fitted s5 no2 ho5 hxi hyj (gr4 c List.mem_cons_self)⟩
  rintro σ G ⟨o, Rf, y8, y11, y12, rfl, S6⟩
  clear S5 m0 m1
  refine ⟨_, rfl, _, rfl, _, rfl, x, xa, Rs, t, Us, T0, m, R.length, o, Rf, m, rfl, S6.st.sk, S6.st.tb, okT, S6.fit, S6.gf, fun G1 s1 => ⟨_, rfl, iteF ?_⟩⟩
  have S7 := S6.up s1
  refine ⟨_, rfl, _, rfl, _, rfl, x, xa, Rs, t, Us, T0, m, R.length, a, R, m, rfl, S7.st.sk, S7.st.tb, okT, S7.rows, g, fun G2 s2 => ⟨_, rfl, iteF ?_⟩⟩
  have S8 := S7.up s2
  clear S6 S7 s1 s2
  refine ⟨_, rfl, _, rfl, _, rfl, _, rfl, b, l, z, rfl, S8.st.bag, hz, fun p3 R3 n3 G3 g3 s3 b4 np3 hp3 => ?_⟩
  have S9 := S8.draw s3 b4
  refine ⟨x, xa, Rs, t, Us, T0, m, R.length, p3, R3, n3, rfl, S9.st.sk, S9.st.tb, okT, hp3, g3, fun G4 s4 => ⟨_, rfl, iteF ?_⟩⟩
  have S10 := S9.up s4
  clear S8 S9 s3 s4 np3 hp3 g3 b4
  -- one cell is allowed two signs
  refine ⟨_, rfl, _, rfl, _, rfl, _, rfl, b, l, x, xa, Rs, t, Us, T0, m, R.length, rfl, S10.st, nd, fun T1 G5 L5 => ?_⟩
  have S11 := S10.two L5
  have ok1 := L5.ok
  clear S10 L5
  refine setG ?_
  dsimp only
  obtain ⟨dx, ho⟩ := S11.st.sk.o
  refine ⟨_, rfl, x, dx, _, rfl, ho, rfl, x, xa, Rs, T1, m, R.length, rfl, S11.st.sk, ok1, _, rfl, rfl, _, rfl, iteFe (by simp) ?_⟩
  refine ⟨_, rfl, _, rfl, _, rfl, x, xa, Rs, t, Us, T1, m, R.length, a, R, m, rfl, S11.st.sk, S11.st.tb, ok1, S11.rows, g, fun G6 s6 => ⟨_, rfl, iteF ?_⟩⟩
  have S12 := S11.up s6
  clear S11 s6 ho
  -- the sketch of one picture
  have line0 := g.line
  refine ⟨rfl, _, rfl, a, _, rfl, .inl (SqL.of S12.rows), fun q nq pic dx nx nd ne => ?_⟩
  refine ⟨pic, dx, q, R, rfl, upd_same, made_same nx nd _ _ upd_same, by omega, fun y m => by rw [g.row y m]; omega, gone (by rw [line0]; decide), fun _ G7 hpic sb => ⟨rfl, ?_⟩⟩
  have sG := (same_upd (o := .lst (rowsV R)) nq).trans (made_but nx nd sb)
  clear sb nx nd ne nq
  have S13 := S12.up sG
  clear S12 sG
  refine ⟨pic, R, m, rfl, hpic, g, fun G8 y ya Ry s8 sky nky => ?_⟩
  have S14 := S13.up s8
  clear S13 s8 hpic nky
  refine setG ?_
  dsimp only
  refine ⟨_, rfl, a, rfl, ⟨_, SqL.of S14.rows⟩, fun D nD => ?_⟩
  refine lc_list (xs := rowsV R) (PvT G8 D (plainT R)) (pvT0 nD) (fun i G hi pv => SqL.of (pv.choose_spec.2.1 _ _ S14.rows)) (fun i v G hv pv => ?_) (fun G pv => ?_)
  · obtain ⟨w, hw, rfl⟩ := rowsV_at hv
    have li := (List.getElem?_eq_some_iff.mp hw).1
    have lw := g.row w (List.mem_of_getElem? hw)
    refine ⟨rfl, tyes (iteT ⟨w, rfl, by omega, rfl, fun G' p sG np hp => ?_⟩)⟩
    exact pvTS pv (by omega) (by unfold plainT; rw [List.getElem?_map, hw]; rfl) sG np hp
  rw [rowsV_len, ← show (plainT R).length = R.length from List.length_map _] at pv
  obtain ⟨Rp, tT, _, s9⟩ := pvTD pv
  have S15 := S14.up s9
  have sky := sky.up s9
  have okp := plain_ok g
  clear pv S14 s9
  refine ⟨_, rfl, _, rfl, [skD CS (plainT R) m R.length, tabD (plainT R)], .bl true, ⟨plainT R, m, R.length, okp, rfl, rfl⟩, _, Same.refl _, .cons sky.rep (.cons tT.rep .nil), fun v F1 Gg gg fg rg => ?_⟩
  cases rg
  have S16 := S15.up gg.h
  have sky := sky.up gg.h
  have tT := tT.up gg.h
  clear S15 gg fg
  refine ⟨_, rfl, iteF ?_⟩
  obtain ⟨dy, hoy⟩ := sky.o
  refine ⟨_, rfl, y, dy, _, rfl, hoy, rfl, y, ya, Ry, plainT R, m, R.length, rfl, sky, okp, rfl, _, rfl, iteFe (by rw [ways_plain g]; rfl) ?_⟩
  refine ⟨_, rfl, _, rfl, _, rfl, y, ya, Ry, D, Rp, plainT R, m, R.length, o, Rf, m, rfl, sky, tT, okp, S16.fit, S16.gf, fun Gh sh => ⟨_, rfl, iteT ?_⟩⟩
  have S17 := S16.up sh
  refine ⟨_, rfl, _, rfl, _, rfl, y, ya, Ry, D, Rp, plainT R, m, R.length, a, R, m, rfl, sky.up sh, tT.up sh, okp, S17.rows, g, fun Gi si => ⟨_, rfl, iteT ?_⟩⟩
  have S18 := S17.up si
  refine ⟨_, rfl, _, rfl, [skD CS T1 m R.length, tabD T1], .bl true, ⟨T1, m, R.length, ok1, rfl, rfl⟩, _, Same.refl _, .cons S18.st.sk.rep (.cons S18.st.tb.rep .nil), fun v F1 Gj gj fj rj => ?_⟩
  cases rj
  exact k Gj
end
end Pm
/-! ### what the top has left, told by a Hook: the defs, and any Bools of the part of the heap that the names reach -/
namespace Hm
open PySem PySem.Spec PyProof.Rows L2 He
abbrev Fr := PySem.W.Frag
/-- a def: where it stands, what it is, its closure, its keyword-only defaults -/
structure DefM where
  at_ : Fr → Addr
  name : Str
  qual : Str
  params : Arguments
  body : List Stmt
  scope : Scope
  clo : Fr → List (Str × Addr) := fun _ => []
  kwd : List (Str × Dv) := []
abbrev FnM : Type := Option (Str × Str × Arguments × FuncBody × Scope × Addr × Addr)
def fnM (K : Fr) (a : Addr) : FnM := match K.lookup a with
  | some ⟨_, _, .func fd, _⟩ => some (fd.name, fd.qualname, fd.params, fd.body, fd.scope, fd.globals, fd.builtins)
  | _ => none
def DefM.val (d : DefM) : FnM := some (d.name, d.qual, d.params, .stmts d.body, d.scope, mainGlobals, builtinsNs)
def noDfl : Value → Bool
  | .none => true
  | _ => false
def DefM.kws (K : Fr) (d : DefM) : List (Str × V) := d.kwd.map fun q => (q.1, q.2.v K)
def DefM.ok (K : Fr) (d : DefM) : Bool := match K.lookup (d.at_ K) with
  | some ⟨_, _, .func fd, _⟩ => PySem.W.codeIn K fd.code d.qual && (decide (fd.closure = d.clo K) && (noDfl fd.defaults && kwdB K fd.kwdefaults (d.kws K)))
  | _ => false
theorem noDfl_ok {v : Value} (h : noDfl v = true) : v = .none := by
  cases v with
  | none => rfl
  | _ => cases h
theorem DefM.there {K : Fr} {d : DefM} (e : fnM K (d.at_ K) = d.val) (c : d.ok K = true) :
    ∃ oc od osl kV doc pm an cdv ct, K.lookup (d.at_ K) = some ⟨oc, od, .func (PySem.W.fnX d.name d.qual d.params d.body d.scope (d.clo K) .none kV doc pm an cdv ct), osl⟩ ∧ PySem.W.codeIn K cdv d.qual = true ∧ KwdV K kV (d.kws K) := by
  unfold DefM.ok at c
  unfold fnM at e
  cases q : K.lookup (d.at_ K) with
  | none =>
    rw [q] at c
    cases c
  | some o =>
    obtain ⟨oc, od, dt, osl⟩ := o
    rw [q] at c e
    cases dt with
    | func fd =>
      obtain ⟨n1, n2, n3, n4, n5, n6, n7, n8, n9, n10, n11, n12, n13, n14, n15⟩ := fd
      have e2 : (some (n1, n2, n3, n4, n5, n6, n15) : FnM) = some (d.name, d.qual, d.params, .stmts d.body, d.scope, mainGlobals, builtinsNs) := e
      simp only [Option.some.injEq, Prod.mk.injEq] at e2
      obtain ⟨h1, h2, h3, h4, h5, h6, h7⟩ := e2
      subst h1 h2 h3 h4 h5 h6 h7
      have c2 : (PySem.W.codeIn K n13 d.qual && (decide (n7 = d.clo K) && (noDfl n8 && kwdB K n9 (d.kws K)))) = true := c
      obtain ⟨k1, k⟩ := ba c2
      obtain ⟨k2, k⟩ := ba k
      obtain ⟨k3, k4⟩ := ba k
      have e7 : n7 = d.clo K := of_decide_eq_true k2
      have e8 := noDfl_ok k3
      subst e7 e8
      exact ⟨oc, od, osl, n9, n10, n11, n12, n13, n14, rfl, k1, kwdB_ok k4⟩
    | _ => cases c
/-! ### pieces of facts -/
/-- a global's value -/
def globB (K : Fr) (x : Str) (v : V) : Bool := match PySem.W.nsIn K mainGlobals x with
  | some (some u) => relB v u
  | _ => false
theorem globB_ok {K : Fr} {x : Str} {v : V} (h : globB K x v = true) : ∃ u, PySem.W.nsIn K mainGlobals x = some (some u) ∧ RelV v u := by
  unfold globB at h
  cases e : PySem.W.nsIn K mainGlobals x with
  | none => rw [e] at h; cases h
  | some r =>
    rw [e] at h
    cases r with
    | none => cases h
    | some u => exact ⟨u, rfl, relB_ok h⟩
/-- a constant that a class is asked for -/
def cvalB (K : Fr) (C : Addr) (f : Str) (v : V) : Bool := match PySem.W.findCls K (.ref C) (.type "type") f with
  | some (.val u) => relB v u
  | _ => false
theorem cvalB_ok {K : Fr} {C : Addr} {f : Str} {v : V} (h : cvalB K C f v = true) : ∃ u, PySem.W.findCls K (.ref C) (.type "type") f = some (.val u) ∧ RelV v u := by
  unfold cvalB at h
  cases e : PySem.W.findCls K (.ref C) (.type "type") f with
  | none => rw [e] at h; cases h
  | some r =>
    rw [e] at h
    cases r with
    | val u => exact ⟨u, rfl, relB_ok h⟩
    | _ => cases h
/-- a constant of a class that its instance is asked for -/
def ivalB (K : Fr) (C : Addr) (f : Str) (v : V) : Bool := match PySem.W.findIn K (.ref C) f with
  | some (some u) => relB v u && eqO (PySem.W.specialIn K u "__get__") (some none)
  | _ => false
theorem ivalB_ok {K : Fr} {C : Addr} {f : Str} {v : V} (h : ivalB K C f v = true) : ∃ u, PySem.W.findIn K (.ref C) f = some (some u) ∧ RelV v u ∧ PySem.W.specialIn K u "__get__" = some none := by
  unfold ivalB at h
  cases e : PySem.W.findIn K (.ref C) f with
  | none => rw [e] at h; cases h
  | some r =>
    rw [e] at h
    cases r with
    | none => cases h
    | some u =>
      obtain ⟨h1, h2⟩ := ba h
      exact ⟨u, rfl, relB_ok h1, eqO_ok h2⟩
def clsB (K : Fr) (C : Addr) : Bool := (PySem.W.clsIn K C).isSome
theorem clsB_ok {K : Fr} {C : Addr} (h : clsB K C = true) : ∃ cd, PySem.W.clsIn K C = some cd := Option.isSome_iff_exists.mp h
/-- an error's class with an own __init__ -/
def excB (K : Fr) (C : Addr) : Bool := match K.lookup C with
  | some ⟨.type "type", _, .cls cd, sl⟩ => (match cd.mro, sl.toList with
    | .ref C' :: bm, [_, _, _, _, some (.builtin n), _] => C' == C && (n == "ValueError.__new__" && (!cd.hasDel && (cd.hasDict && PySem.HandSPX.refsVE bm)))
    | _, _ => false)
  | _ => false
theorem excB_ok {K : Fr} {C : Addr} (h : excB K C = true) : ∃ nm q N bs bm sn sub ab col dd k0 k1 k2 k3 k5, K.lookup C = some (excClassObj nm q C N bs bm true sn sub ab col dd k0 k1 k2 k3 k5 "ValueError.__new__") ∧ PySem.HandSPX.refsVE bm = true := by
  unfold excB at h
  split at h
  · rename_i dd cd sl ho
    split at h
    · rename_i C' bm k0 k1 k2 k3 n k5 hm hs
      obtain ⟨h1, h⟩ := ba h
      obtain ⟨h2, h⟩ := ba h
      obtain ⟨h3, h⟩ := ba h
      obtain ⟨h4, h5⟩ := ba h
      have e1 := beq_iff_eq.mp h1
      have e2 : n = "ValueError.__new__" := beq_iff_eq.mp h2
      obtain ⟨nm, bs, mro, ns, qn, hd, sn, sub, ab, col, del⟩ := cd
      dsimp only at hm h3 h4
      have e3 : del = false := by simpa using h3
      subst e1 e2 hm h4 e3
      have hsl : sl = #[k0, k1, k2, k3, some (.builtin "ValueError.__new__"), k5] := by
        obtain ⟨l⟩ := sl
        simp only at hs
        rw [hs]
      subst hsl
      exact ⟨nm, qn, ns, bs, bm, sn, sub, ab, col, dd, k0, k1, k2, k3, k5, ho, h5⟩
    · cases h
  · cases h
/-- what super() wants of a method's closure cell and code object -/
def cloOf (at_ : Fr → Addr) (K : Fr) : Addr := match K.lookup (at_ K) with
  | some ⟨_, _, .func fd, _⟩ => (match fd.closure with
    | (_, a) :: _ => a
    | _ => 0)
  | _ => 0
def cellB (K : Fr) (c C : Addr) : Bool := match K.lookup c with
  | some ⟨_, _, .cell (some (.ref D)), _⟩ => D == C
  | _ => false
theorem cellB_ok {K : Fr} {c C : Addr} (h : cellB K c C = true) : ∃ o d s, K.lookup c = some ⟨o, d, .cell (some (.ref C)), s⟩ := by
  unfold cellB at h
  split at h
  · rename_i o d D s e
    have := beq_iff_eq.mp h
    subst this
    exact ⟨o, d, s, e⟩
  · cases h
def fileB (K : Fr) (f : Addr) (file : Str) : Bool := match K.lookup f with
  | some ⟨_, _, .func fd, _⟩ => (match fd.code with
    | .ref c => (match K.lookup c with
      | some ⟨_, _, .fields vs, _⟩ => (match (vs[2]? : Option Value) with
        | some (.str x _) => decide (file = x)
        | _ => false)
      | _ => false)
    | _ => false)
  | _ => false
theorem fileB_ok {K : Fr} {f : Addr} {file : Str} {oc : Value} {od : Option Addr} {fd : FuncData} {osl : Array (Option Value)} (h : fileB K f file = true) (l : K.lookup f = some ⟨oc, od, .func fd, osl⟩) :
    ∃ c ccl cdd vs ccs t, fd.code = .ref c ∧ K.lookup c = some ⟨ccl, cdd, .fields vs, ccs⟩ ∧ vs[2]? = some (.str file t) := by
  unfold fileB at h
  rw [l] at h
  dsimp only at h
  cases e : fd.code with
  | ref c =>
    rw [e] at h
    dsimp only at h
    cases e2 : K.lookup c with
    | none => rw [e2] at h; cases h
    | some o =>
      obtain ⟨ccl, cdd, dt, ccs⟩ := o
      rw [e2] at h
      cases dt with
      | fields vs =>
        dsimp only at h
        cases e3 : vs[2]? with
        | none => rw [e3] at h; cases h
        | some v =>
          rw [e3] at h
          cases v with
          | str x t =>
            have : file = x := of_decide_eq_true h
            subst this
            exact ⟨c, ccl, cdd, vs, ccs, t, rfl, e2, e3⟩
          | _ => cases h
      | _ => cases h
  | _ =>
    rw [e] at h
    cases h
/-- the def that a property holds -/
def recF (K : Fr) (p : Addr) (T : String) : Addr := match PySem.W.recIn K p T with
  | some (.ref f :: _) => f
  | _ => 0
def recB (K : Fr) (p : Addr) (T : String) : Bool := match PySem.W.recIn K p T with
  | some (.ref _ :: _) => true
  | _ => false
theorem recB_ok {K : Fr} {p : Addr} {T : String} (h : recB K p T = true) : ∃ rest, PySem.W.recIn K p T = some (.ref (recF K p T) :: rest) := by
  unfold recB at h
  unfold recF
  split at h
  · rename_i f rest e
    exact ⟨rest, by rw [e]⟩
  · cases h
/-! ### the Hook -/
abbrev AlM : Type := Bool × List FnM
def obsM (fn : List DefM) (ex : List (Fr → Bool)) (K : Fr) : AlM := ((fn.all fun d => d.ok K) && ex.all fun b => b K, fn.map fun d => fnM K (d.at_ K))
def valM (fn : List DefM) : AlM := (true, fn.map DefM.val)
def SaysM (fn : List DefM) (ex : List (Fr → Bool)) (K : Fr) : Prop := obsM fn ex K = valM fn
/-- as: the addresses that K is to have -/
def obsMG (as : List Addr) (fn : List DefM) (ex : List (Fr → Bool)) (g : Addr → Option Obj) : AlM := obsM fn ex (frG g as)
def hookM (as : List Addr) (fn : List DefM) (ex : List (Fr → Bool)) : PySem.W.Hook where
  α := AlM
  obs := fun s => obsMG as fn ex s.heap.get?
  val := fun _ => valM fn
  says := fun _ h => ∃ K : Fr, K.In h ∧ SaysM fn ex K
  of := fun _ _ e => ⟨_, frG_in, e⟩
  keeps := fun _ _ _ ⟨K, hK, c⟩ k => ⟨K, PySem.W.Frag.In.keeps hK k, c⟩
theorem obsMG_eq {as : List Addr} {fn : List DefM} {ex : List (Fr → Bool)} {g : Addr → Option Obj} {s : Shared} (h : ∀ a, g a = s.heap.get? a) : obsMG as fn ex g = (hookM as fn ex).obs s := by
  have e : g = s.heap.get? := funext h
  rw [e] <;> rfl
section
variable {fns : List DefM} {exs : List (Fr → Bool)} {K : Fr}
theorem SaysM.ex (c : SaysM fns exs K) {b : Fr → Bool} (h : b ∈ exs) : b K = true := by
  have c1 := (ba (show ((fns.all fun d => d.ok K) && exs.all fun b => b K) = true from congrArg (fun z : AlM => z.1) c)).2
  exact List.all_eq_true.mp c1 b h
theorem SaysM.fn (c : SaysM fns exs K) (i : Nat) {d : DefM} (h : fns[i]? = some d) :
    ∃ oc od osl kV doc pm an cdv ct, K.lookup (d.at_ K) = some ⟨oc, od, .func (PySem.W.fnX d.name d.qual d.params d.body d.scope (d.clo K) .none kV doc pm an cdv ct), osl⟩ ∧ PySem.W.codeIn K cdv d.qual = true ∧ KwdV K kV (d.kws K) := by
  have c2 := (ba (show ((fns.all fun d => d.ok K) && exs.all fun b => b K) = true from congrArg (fun z : AlM => z.1) c)).1
  have e : fns.map (fun d => fnM K (d.at_ K)) = fns.map DefM.val := congrArg (fun z : AlM => z.2) c
  have e2 : (fns.map fun d => fnM K (d.at_ K))[i]? = (fns.map DefM.val)[i]? := by rw [e]
  rw [List.getElem?_map, List.getElem?_map, h] at e2
  exact DefM.there (Option.some.inj e2) (List.all_eq_true.mp c2 d (List.mem_of_getElem? h))
end
end Hm
namespace Pm
open PySem PySem.Spec PyProof.Rows L2 SX Tr
theorem kit_cls {K : PySem.W.Frag} {D S : Addr} {cd : ClassData} {b : Bool} (ne : (D == S) = false) (c : PySem.W.clsIn K S = some cd) (t : PySem.W.typeIn K (.ref S) = some (.type "type")) (sub : PySem.W.subIn K (.ref D) (.ref S) = some b) : PySem.W.kitOne K (.ref D) (.ref S) = some b := by
  unfold PySem.W.kitOne
  rw [if_neg (by simpa using ne)]
  show (if ((PySem.W.clsIn K S).isSome && PySem.W.typeIn K (.ref S) == some (.type "type")) = true then PySem.W.subIn K (.ref D) (.ref S) else none) = some b
  rw [if_pos (by rw [c, t]; rfl), sub]
theorem kit_val {K : PySem.W.Frag} {D : Addr} (sub : PySem.W.subIn K (.ref D) (.type "ValueError") = some true) : PySem.W.kitOne K (.ref D) (.type "ValueError") = some true := by
  unfold PySem.W.kitOne
  rw [if_neg (by simp)]
  show (if PySem.W.kitMeta "ValueError" = true then PySem.W.subIn K (.ref D) (.type "ValueError") else none) = some true
  rw [if_pos (by decide +kernel), sub]
theorem exm_self {K : PySem.W.Frag} {D : Addr} (a : PySem.W.subIn K (.ref D) (.type "BaseException") = some true) (b : PySem.W.isClsIn K D = true) (c : PySem.W.typeIn K (.ref D) = some (.type "type")) (d : PySem.W.subIn K (.ref D) (.ref D) = some true) : PySem.W.exmOne K (.ref D) (.ref D) = some true := by
  have b2 : (PySem.W.clsIn K D).isSome = true := b
  show (if (PySem.W.subIn K (.ref D) (.type "BaseException") == some true) = true then _ else none) = some true
  rw [if_pos (by rw [a]; rfl)]
  show (if ((PySem.W.clsIn K D).isSome && PySem.W.typeIn K (.ref D) == some (.type "type")) = true then PySem.W.subIn K (.ref D) (.ref D) else none) = some true
  rw [if_pos (by rw [b2, c]; rfl), d]
theorem exm_cls {K : PySem.W.Frag} {D S : Addr} {b : Bool} (a : PySem.W.subIn K (.ref S) (.type "BaseException") = some true) (s1 : PySem.W.isClsIn K S = true) (c : PySem.W.typeIn K (.ref S) = some (.type "type")) (d : PySem.W.subIn K (.ref D) (.ref S) = some b) : PySem.W.exmOne K (.ref D) (.ref S) = some b := by
  have b2 : (PySem.W.clsIn K S).isSome = true := s1
  show (if (PySem.W.subIn K (.ref S) (.type "BaseException") == some true) = true then _ else none) = some b
  rw [if_pos (by rw [a]; rfl)]
  show (if ((PySem.W.clsIn K S).isSome && PySem.W.typeIn K (.ref S) == some (.type "type")) = true then PySem.W.subIn K (.ref D) (.ref S) else none) = some b
  rw [if_pos (by rw [b2, c]; rfl), d]

theorem kit_self {K : PySem.W.Frag} {C : Addr} : PySem.W.kitOne K (.ref C) (.ref C) = some true := by
  unfold PySem.W.kitOne
  rw [if_pos (by simp)]
/-! ### what the top has left -/
theorem all_mk {l : PySem.W.OpenLaw} {w : World} {K : PySem.W.Frag} {h : Heap} {mg : Str → Option Value} {fa C fPI fPL fPC fPE fPG fPS CR fRI fRc CS fI fRd pRd fOf pOf CI fEi CU fAw fTx fCk fGi fFt fWy fIs fSo fDf fAs fAl fRw fCz fNd fBb fBm fBa fBl fBag fTake fIi fIc fIz fOnce fPal fRow fGrid fBig fCe fSl fPt fRi fAd fTb fLt fLa fRq fWi fLi fAg fTw fLaw fAny : Addr} {cdtCS : ClassData} {restRd : List Value} {restOf : List Value} {nmCI qnCI : Str} {nsCI : Addr} {bsCI bmCI sbCI : List Value} {snCI : List Str} {abCI : Bool} {coCI : Option Bool} {ddCI : Option Addr} {x0CI x1CI x2CI x3CI x5CI : Option Value} {cdtCI : ClassData} {cdtCU : ClassData} (X : K.In h) (G : h.Ns mainGlobals mg) (hfa : mg "law" = some (.ref fa))
    {odPI anPI odPL anPL odPC anPC odPE anPE odPG anPG odPS anPS odRI anRI odRc anRc odI anI odRd anRd odOf anOf odEi anEi odAw anAw odTx anTx odCk anCk odGi anGi odFt anFt odWy anWy odIs anIs odSo anSo odDf anDf odAs anAs odAl anAl odRw anRw odCz anCz odNd anNd odBb anBb odBm anBm odBa anBa odBl anBl odBag anBag odTake anTake odIi anIi odIc anIc odIz anIz odOnce anOnce odPal anPal odRow anRow odGrid anGrid odBig anBig odCe anCe odSl anSl odPt anPt odRi anRi odAd anAd odTb anTb odLt anLt odLa anLa odRq anRq odWi anWi odLi anLi odAg anAg odTw anTw odLaw anLaw odAny anAny : Option Addr}
    {slPI slPL slPC slPE slPG slPS slRI slRc slI slRd slOf slEi slAw slTx slCk slGi slFt slWy slIs slSo slDf slAs slAl slRw slCz slNd slBb slBm slBa slBl slBag slTake slIi slIc slIz slOnce slPal slRow slGrid slBig slCe slSl slPt slRi slAd slTb slLt slLa slRq slWi slLi slAg slTw slLaw slAny : Array (Option Value)}
    {uHo uEd uHg uEg ocPI kVPI dcPI pmPI cdPI ctPI ocPL kVPL dcPL pmPL cdPL ctPL ocPC kVPC dcPC pmPC cdPC ctPC ocPE kVPE dcPE pmPE cdPE ctPE ocPG kVPG dcPG pmPG cdPG ctPG ocPS kVPS dcPS pmPS cdPS ctPS ocRI kVRI dcRI pmRI cdRI ctRI ocRc kVRc dcRc pmRc cdRc ctRc uAn uAv ocI kVI dcI pmI cdI ctI ocRd kVRd dcRd pmRd cdRd ctRd ocOf kVOf dcOf pmOf cdOf ctOf ocEi kVEi dcEi pmEi cdEi ctEi ocAw kVAw dcAw pmAw cdAw ctAw ocTx kVTx dcTx pmTx cdTx ctTx ocCk kVCk dcCk pmCk cdCk ctCk ocGi kVGi dcGi pmGi cdGi ctGi ocFt kVFt dcFt pmFt cdFt ctFt ocWy kVWy dcWy pmWy cdWy ctWy uSt uMo uWd ocIs kVIs dcIs pmIs cdIs ctIs ocSo kVSo dcSo pmSo cdSo ctSo ocDf kVDf dcDf pmDf cdDf ctDf ocAs kVAs dcAs pmAs cdAs ctAs ocAl kVAl dcAl pmAl cdAl ctAl ocRw kVRw dcRw pmRw cdRw ctRw ocCz kVCz dcCz pmCz cdCz ctCz ocNd kVNd dcNd pmNd cdNd ctNd ocBb kVBb dcBb pmBb cdBb ctBb ocBm kVBm dcBm pmBm cdBm ctBm ocBa kVBa dcBa pmBa cdBa ctBa ocBl kVBl dcBl pmBl cdBl ctBl ocBag kVBag dcBag pmBag cdBag ctBag ocTake kVTake dcTake pmTake cdTake ctTake ocIi kVIi dcIi pmIi cdIi ctIi ocIc kVIc dcIc pmIc cdIc ctIc ocIz kVIz dcIz pmIz cdIz ctIz ocOnce kVOnce dcOnce pmOnce cdOnce ctOnce ocPal kVPal dcPal pmPal cdPal ctPal ocRow kVRow dcRow pmRow cdRow ctRow ocGrid kVGrid dcGrid pmGrid cdGrid ctGrid ocBig kVBig dcBig pmBig cdBig ctBig ocCe kVCe dcCe pmCe cdCe ctCe ocSl kVSl dcSl pmSl cdSl ctSl ocPt kVPt dcPt pmPt cdPt ctPt ocRi kVRi dcRi pmRi cdRi ctRi ocAd kVAd dcAd pmAd cdAd ctAd ocTb kVTb dcTb pmTb cdTb ctTb ocLt kVLt dcLt pmLt cdLt ctLt ocLa kVLa dcLa pmLa cdLa ctLa ocRq kVRq dcRq pmRq cdRq ctRq ocWi kVWi dcWi pmWi cdWi ctWi ocLi kVLi dcLi pmLi cdLi ctLi ocAg kVAg dcAg pmAg cdAg ctAg ocTw kVTw dcTw pmTw cdTw ctTw ocLaw kVLaw dcLaw pmLaw cdLaw ctLaw ocAny kVAny dcAny pmAny cdAny ctAny : Value}
    (cn : PySem.W.specialIn K (.builtin "object.__class__") "__get__" = some (some (.builtin "getset_descriptor.__get__")))
    (ct : PySem.W.takesIn K (.builtin "object.__class__") = some true)
    (gC : PySem.W.nsIn K mainGlobals "Picture" = some (some (.ref C)))
    (pgC : PySem.W.plainGet K C Str.empty = true)
    (hdC : PySem.W.hasDictIn K C = true)
    (poC : PySem.W.plainOver K C = true)
    (saC : PySem.W.findIn K (.ref C) "__setattr__" = some (some (.builtin "object.__setattr__")))
    (mkC : PySem.W.makesIn K C = true)
    (kpC : PySem.W.keepIn K (.ref C) = true)
    (nC_rows : PySem.W.findIn K (.ref C) "_rows" = some none)
    (nC_width : PySem.W.findIn K (.ref C) "width" = some none)
    (nC_height : PySem.W.findIn K (.ref C) "height" = some none)
    (rdC : PySem.W.readsIn K C (.type "type") = true)
    (gaC : PySem.W.specialIn K (.ref C) "__getattribute__" = some (some (.builtin "type.__getattribute__")))
    (aHo : PySem.W.findCls K (.ref C) (.type "type") "HOLE" = some (.val uHo))
    (rlHo : L2.RelV (.str ".") uHo)
    (aEd : PySem.W.findCls K (.ref C) (.type "type") "EDGE" = some (.val uEd))
    (rlEd : L2.RelV (.str "#") uEd)
    (aHg : PySem.W.findIn K (.ref C) "HOLE" = some (some uHg))
    (rlHg : L2.RelV (.str ".") uHg)
    (ggHg : PySem.W.specialIn K uHg "__get__" = some none)
    (aEg : PySem.W.findIn K (.ref C) "EDGE" = some (some uEg))
    (rlEg : L2.RelV (.str "#") uEg)
    (ggEg : PySem.W.specialIn K uEg "__get__" = some none)
    (aPI : PySem.W.findIn K (.ref C) "__init__" = some (some (.ref fPI)))
    (iPI : PySem.W.isFn K (.ref fPI) = true)
    (lPI : K.lookup fPI = some ⟨ocPI, odPI, .func (PySem.W.fnOf "__init__" "Picture.__init__" (defArgs cPictureInit) (defBody cPictureInit) (defScope cPictureInit) .none kVPI dcPI pmPI anPI cdPI ctPI), slPI⟩)
    (cPI : PySem.W.codeIn K cdPI "Picture.__init__" = true)
    (kPI : PySem.W.keepIn K (.ref fPI) = true)
    (aPL : PySem.W.findIn K (.ref C) "lines" = some (some (.ref fPL)))
    (iPL : PySem.W.isFn K (.ref fPL) = true)
    (lPL : K.lookup fPL = some ⟨ocPL, odPL, .func (PySem.W.fnOf "lines" "Picture.lines" (defArgs cPictureLines) (defBody cPictureLines) (defScope cPictureLines) .none kVPL dcPL pmPL anPL cdPL ctPL), slPL⟩)
    (cPL : PySem.W.codeIn K cdPL "Picture.lines" = true)
    (kPL : PySem.W.keepIn K (.ref fPL) = true)
    (aPC : PySem.W.findIn K (.ref C) "contains" = some (some (.ref fPC)))
    (iPC : PySem.W.isFn K (.ref fPC) = true)
    (lPC : K.lookup fPC = some ⟨ocPC, odPC, .func (PySem.W.fnOf "contains" "Picture.contains" (defArgs cPictureContains) (defBody cPictureContains) (defScope cPictureContains) .none kVPC dcPC pmPC anPC cdPC ctPC), slPC⟩)
    (cPC : PySem.W.codeIn K cdPC "Picture.contains" = true)
    (kPC : PySem.W.keepIn K (.ref fPC) = true)
    (aPE : PySem.W.findIn K (.ref C) "every_cell" = some (some (.ref fPE)))
    (iPE : PySem.W.isFn K (.ref fPE) = true)
    (lPE : K.lookup fPE = some ⟨ocPE, odPE, .func (PySem.W.fnOf "every_cell" "Picture.every_cell" (defArgs cPictureEveryCell) (defBody cPictureEveryCell) (defScope cPictureEveryCell) .none kVPE dcPE pmPE anPE cdPE ctPE), slPE⟩)
    (cPE : PySem.W.codeIn K cdPE "Picture.every_cell" = true)
    (kPE : PySem.W.keepIn K (.ref fPE) = true)
    (aPG : PySem.W.findIn K (.ref C) "__getitem__" = some (some (.ref fPG)))
    (iPG : PySem.W.isFn K (.ref fPG) = true)
    (lPG : K.lookup fPG = some ⟨ocPG, odPG, .func (PySem.W.fnOf "__getitem__" "Picture.__getitem__" (defArgs cPictureGetitem) (defBody cPictureGetitem) (defScope cPictureGetitem) .none kVPG dcPG pmPG anPG cdPG ctPG), slPG⟩)
    (cPG : PySem.W.codeIn K cdPG "Picture.__getitem__" = true)
    (kPG : PySem.W.keepIn K (.ref fPG) = true)
    (fiPG : PySem.W.fnIn K fPG = true)
    (aPS : PySem.W.findIn K (.ref C) "stones" = some (some (.ref fPS)))
    (iPS : PySem.W.isFn K (.ref fPS) = true)
    (lPS : K.lookup fPS = some ⟨ocPS, odPS, .func (PySem.W.fnOf "stones" "Picture.stones" (defArgs cPictureStones) (defBody cPictureStones) (defScope cPictureStones) .none kVPS dcPS pmPS anPS cdPS ctPS), slPS⟩)
    (cPS : PySem.W.codeIn K cdPS "Picture.stones" = true)
    (kPS : PySem.W.keepIn K (.ref fPS) = true)
    (gCR : PySem.W.nsIn K mainGlobals "Region" = some (some (.ref CR)))
    (pgCR : PySem.W.plainGet K CR Str.empty = true)
    (hdCR : PySem.W.hasDictIn K CR = true)
    (poCR : PySem.W.plainOver K CR = true)
    (saCR : PySem.W.findIn K (.ref CR) "__setattr__" = some (some (.builtin "object.__setattr__")))
    (mkCR : PySem.W.makesIn K CR = true)
    (kpCR : PySem.W.keepIn K (.ref CR) = true)
    (nCR_members : PySem.W.findIn K (.ref CR) "_members" = some none)
    (caCR : PySem.W.findIn K (.ref CR) "__class__" = some (some (.builtin "object.__class__")))
    (cmCR : PySem.W.mroIn K CR (.type "object") = some true)
    (aRI : PySem.W.findIn K (.ref CR) "__init__" = some (some (.ref fRI)))
    (iRI : PySem.W.isFn K (.ref fRI) = true)
    (lRI : K.lookup fRI = some ⟨ocRI, odRI, .func (PySem.W.fnOf "__init__" "Region.__init__" (defArgs cRegionInit) (defBody cRegionInit) (defScope cRegionInit) .none kVRI dcRI pmRI anRI cdRI ctRI), slRI⟩)
    (cRI : PySem.W.codeIn K cdRI "Region.__init__" = true)
    (kRI : PySem.W.keepIn K (.ref fRI) = true)
    (aRc : PySem.W.findIn K (.ref CR) "cells" = some (some (.ref fRc)))
    (iRc : PySem.W.isFn K (.ref fRc) = true)
    (lRc : K.lookup fRc = some ⟨ocRc, odRc, .func (PySem.W.fnOf "cells" "Region.cells" (defArgs cRegionCells) (defBody cRegionCells) (defScope cRegionCells) .none kVRc dcRc pmRc anRc cdRc ctRc), slRc⟩)
    (cRc : PySem.W.codeIn K cdRc "Region.cells" = true)
    (kRc : PySem.W.keepIn K (.ref fRc) = true)
    (gCS : PySem.W.nsIn K mainGlobals "Sketch" = some (some (.ref CS)))
    (cxCS : PySem.W.clsIn K CS = some cdtCS)
    (tyCS : PySem.W.typeIn K (.ref CS) = some (.type "type"))
    (pgCS : PySem.W.plainGet K CS Str.empty = true)
    (hdCS : PySem.W.hasDictIn K CS = true)
    (poCS : PySem.W.plainOver K CS = true)
    (saCS : PySem.W.findIn K (.ref CS) "__setattr__" = some (some (.builtin "object.__setattr__")))
    (mkCS : PySem.W.makesIn K CS = true)
    (kpCS : PySem.W.keepIn K (.ref CS) = true)
    (nCS_width : PySem.W.findIn K (.ref CS) "width" = some none)
    (nCS_height : PySem.W.findIn K (.ref CS) "height" = some none)
    (nCS_rows : PySem.W.findIn K (.ref CS) "_rows" = some none)
    (rdCS : PySem.W.readsIn K CS (.type "type") = true)
    (gaCS : PySem.W.specialIn K (.ref CS) "__getattribute__" = some (some (.builtin "type.__getattribute__")))
    (aAn : PySem.W.findIn K (.ref CS) "ANY" = some (some uAn))
    (rlAn : L2.RelV (.str ".abcdefghijklmnopqrstuvwxyz") uAn)
    (ggAn : PySem.W.specialIn K uAn "__get__" = some none)
    (aAv : PySem.W.findCls K (.ref CS) (.type "type") "ANY" = some (.val uAv))
    (rlAv : L2.RelV (.str ".abcdefghijklmnopqrstuvwxyz") uAv)
    (aI : PySem.W.findIn K (.ref CS) "__init__" = some (some (.ref fI)))
    (iI : PySem.W.isFn K (.ref fI) = true)
    (lI : K.lookup fI = some ⟨ocI, odI, .func (PySem.W.fnOf "__init__" "Sketch.__init__" (defArgs cSketchInit) (defBody cSketchInit) (defScope cSketchInit) .none kVI dcI pmI anI cdI ctI), slI⟩)
    (cI : PySem.W.codeIn K cdI "Sketch.__init__" = true)
    (kI : PySem.W.keepIn K (.ref fI) = true)
    (wI : L2.KwdV K kVI [("_rows", .non)])
    (aRd : PySem.W.findCls K (.ref CS) (.type "type") "read" = some (.get (.builtin "classmethod.__get__") (.ref pRd) .none (.ref CS)))
    (rRd : PySem.W.recIn K pRd "classmethod" = some (.ref fRd :: restRd))
    (iRd : PySem.W.fnIn K fRd = true)
    (lRd : K.lookup fRd = some ⟨ocRd, odRd, .func (PySem.W.fnOf "read" "Sketch.read" (defArgs cSketchRead) (defBody cSketchRead) (defScope cSketchRead) .none kVRd dcRd pmRd anRd cdRd ctRd), slRd⟩)
    (cRd : PySem.W.codeIn K cdRd "Sketch.read" = true)
    (kRd : PySem.W.keepIn K (.ref fRd) = true)
    (aOf : PySem.W.findCls K (.ref CS) (.type "type") "of" = some (.get (.builtin "classmethod.__get__") (.ref pOf) .none (.ref CS)))
    (rOf : PySem.W.recIn K pOf "classmethod" = some (.ref fOf :: restOf))
    (iOf : PySem.W.fnIn K fOf = true)
    (lOf : K.lookup fOf = some ⟨ocOf, odOf, .func (PySem.W.fnOf "of" "Sketch.of" (defArgs cSketchOf) (defBody cSketchOf) (defScope cSketchOf) .none kVOf dcOf pmOf anOf cdOf ctOf), slOf⟩)
    (cOf : PySem.W.codeIn K cdOf "Sketch.of" = true)
    (kOf : PySem.W.keepIn K (.ref fOf) = true)
    (gCI : PySem.W.nsIn K mainGlobals "InvalidPicture" = some (some (.ref CI)))
    (lkCI : K.lookup CI = some (excClassObj nmCI qnCI CI nsCI bsCI bmCI true snCI sbCI abCI coCI ddCI x0CI x1CI x2CI x3CI x5CI "ValueError.__new__"))
    (vbCI : PySem.HandSPX.refsVE bmCI = true)
    (atCI : PySem.W.findIn K (.ref CI) "__init__" = some (some (.ref fEi)))
    (ftCI : PySem.W.typeIn K (.ref fEi) = some (.type "function"))
    (lEi : K.lookup fEi = some ⟨ocEi, odEi, .func (PySem.W.fnOf "__init__" "InvalidPicture.__init__" (defArgs cInvalidPictureInit) (defBody cInvalidPictureInit) (defScope cInvalidPictureInit) .none kVEi dcEi pmEi anEi cdEi ctEi), slEi⟩)
    (cEi : PySem.W.codeIn K cdEi "InvalidPicture.__init__" = true)
    (kEi : PySem.W.keepIn K (.ref fEi) = true)
    (cxCI : PySem.W.clsIn K CI = some cdtCI)
    (tyCI : PySem.W.typeIn K (.ref CI) = some (.type "type"))
    (hgCI : PySem.W.findIn K (.ref CI) "__getattribute__" = some (some (.builtin "BaseException.__getattribute__")))
    (hkCI : PySem.W.findIn K (.ref CI) "__getattr__" = some none)
    (svCI : PySem.W.subIn K (.ref CI) (.type "BaseException") = some true)
    (sxCI : PySem.W.subIn K (.ref CI) (.ref CI) = some true)
    (icCI : PySem.W.isClsIn K CI = true)
    (haCI : PySem.W.findIn K (.ref CI) "__class__" = some (some (.builtin "object.__class__")))
    (hmCI : PySem.W.mroIn K CI (.type "object") = some true)
    (hdCI : PySem.W.hasDictIn K CI = true)
    (kpCI : PySem.W.keepIn K (.ref CI) = true)
    (nCI_line : PySem.W.findIn K (.ref CI) "line" = some none)
    (saCI : PySem.W.findIn K (.ref CI) "__setattr__" = some (some (.builtin "object.__setattr__")))
    (gCU : PySem.W.nsIn K mainGlobals "UnequalSize" = some (some (.ref CU)))
    (cxCU : PySem.W.clsIn K CU = some cdtCU)
    (tyCU : PySem.W.typeIn K (.ref CU) = some (.type "type"))
    (hgCU : PySem.W.findIn K (.ref CU) "__getattribute__" = some (some (.builtin "BaseException.__getattribute__")))
    (hkCU : PySem.W.findIn K (.ref CU) "__getattr__" = some none)
    (svCU : PySem.W.subIn K (.ref CU) (.type "BaseException") = some true)
    (sxCU : PySem.W.subIn K (.ref CU) (.ref CU) = some true)
    (icCU : PySem.W.isClsIn K CU = true)
    (haCU : PySem.W.findIn K (.ref CU) "__class__" = some (some (.builtin "object.__class__")))
    (hmCU : PySem.W.mroIn K CU (.type "object") = some true)
    (hdCU : PySem.W.hasDictIn K CU = true)
    (kpCU : PySem.W.keepIn K (.ref CU) = true)
    (xU : PySem.W.excIn K CU [.type "ValueError", .type "Exception", .type "BaseException", .type "object"] "ValueError.__new__" = true)
    (aAw : PySem.W.findIn K (.ref CS) "allow" = some (some (.ref fAw)))
    (iAw : PySem.W.isFn K (.ref fAw) = true)
    (lAw : K.lookup fAw = some ⟨ocAw, odAw, .func (PySem.W.fnOf "allow" "Sketch.allow" (defArgs cSketchAllow) (defBody cSketchAllow) (defScope cSketchAllow) .none kVAw dcAw pmAw anAw cdAw ctAw), slAw⟩)
    (cAw : PySem.W.codeIn K cdAw "Sketch.allow" = true)
    (kAw : PySem.W.keepIn K (.ref fAw) = true)
    (aTx : PySem.W.findIn K (.ref CS) "text" = some (some (.ref fTx)))
    (iTx : PySem.W.isFn K (.ref fTx) = true)
    (lTx : K.lookup fTx = some ⟨ocTx, odTx, .func (PySem.W.fnOf "text" "Sketch.text" (defArgs cSketchText) (defBody cSketchText) (defScope cSketchText) .none kVTx dcTx pmTx anTx cdTx ctTx), slTx⟩)
    (cTx : PySem.W.codeIn K cdTx "Sketch.text" = true)
    (kTx : PySem.W.keepIn K (.ref fTx) = true)
    (aCk : PySem.W.findIn K (.ref CS) "_check_cell" = some (some (.ref fCk)))
    (iCk : PySem.W.isFn K (.ref fCk) = true)
    (lCk : K.lookup fCk = some ⟨ocCk, odCk, .func (PySem.W.fnOf "_check_cell" "Sketch._check_cell" (defArgs cSketchCheckCell) (defBody cSketchCheckCell) (defScope cSketchCheckCell) .none kVCk dcCk pmCk anCk cdCk ctCk), slCk⟩)
    (cCk : PySem.W.codeIn K cdCk "Sketch._check_cell" = true)
    (kCk : PySem.W.keepIn K (.ref fCk) = true)
    (aGi : PySem.W.findIn K (.ref CS) "__getitem__" = some (some (.ref fGi)))
    (iGi : PySem.W.isFn K (.ref fGi) = true)
    (lGi : K.lookup fGi = some ⟨ocGi, odGi, .func (PySem.W.fnOf "__getitem__" "Sketch.__getitem__" (defArgs cSketchGetitem) (defBody cSketchGetitem) (defScope cSketchGetitem) .none kVGi dcGi pmGi anGi cdGi ctGi), slGi⟩)
    (cGi : PySem.W.codeIn K cdGi "Sketch.__getitem__" = true)
    (kGi : PySem.W.keepIn K (.ref fGi) = true)
    (fiGi : PySem.W.fnIn K fGi = true)
    (aFt : PySem.W.findIn K (.ref CS) "fits" = some (some (.ref fFt)))
    (iFt : PySem.W.isFn K (.ref fFt) = true)
    (lFt : K.lookup fFt = some ⟨ocFt, odFt, .func (PySem.W.fnOf "fits" "Sketch.fits" (defArgs cSketchFits) (defBody cSketchFits) (defScope cSketchFits) .none kVFt dcFt pmFt anFt cdFt ctFt), slFt⟩)
    (cFt : PySem.W.codeIn K cdFt "Sketch.fits" = true)
    (kFt : PySem.W.keepIn K (.ref fFt) = true)
    (aWy : PySem.W.findIn K (.ref CS) "ways" = some (some (.ref fWy)))
    (iWy : PySem.W.isFn K (.ref fWy) = true)
    (lWy : K.lookup fWy = some ⟨ocWy, odWy, .func (PySem.W.fnOf "ways" "Sketch.ways" (defArgs cSketchWays) (defBody cSketchWays) (defScope cSketchWays) .none kVWy dcWy pmWy anWy cdWy ctWy), slWy⟩)
    (cWy : PySem.W.codeIn K cdWy "Sketch.ways" = true)
    (kWy : PySem.W.keepIn K (.ref fWy) = true)
    (aSt : PySem.W.nsIn K mainGlobals "STONES" = some (some uSt))
    (rlSt : L2.RelV (.str alphaS) uSt)
    (aMo : PySem.W.nsIn K mainGlobals "MOST" = some (some uMo))
    (rlMo : L2.RelV (.int 8) uMo)
    (aWd : PySem.W.nsIn K mainGlobals "_ANY_WORD" = some (some uWd))
    (rlWd : L2.RelV (.str "*") uWd)
    (aIs : PySem.W.nsIn K mainGlobals "is_stone" = some (some (.ref fIs)))
    (lIs : K.lookup fIs = some ⟨ocIs, odIs, .func (PySem.W.fnOf "is_stone" "is_stone" (defArgs gIsStone) (defBody gIsStone) (defScope gIsStone) .none kVIs dcIs pmIs anIs cdIs ctIs), slIs⟩)
    (cIs : PySem.W.codeIn K cdIs "is_stone" = true)
    (kIs : PySem.W.keepIn K (.ref fIs) = true)
    (aSo : PySem.W.nsIn K mainGlobals "is_stone_or_hole" = some (some (.ref fSo)))
    (lSo : K.lookup fSo = some ⟨ocSo, odSo, .func (PySem.W.fnOf "is_stone_or_hole" "is_stone_or_hole" (defArgs gIsStoneOrHole) (defBody gIsStoneOrHole) (defScope gIsStoneOrHole) .none kVSo dcSo pmSo anSo cdSo ctSo), slSo⟩)
    (cSo : PySem.W.codeIn K cdSo "is_stone_or_hole" = true)
    (kSo : PySem.W.keepIn K (.ref fSo) = true)
    (aDf : PySem.W.nsIn K mainGlobals "are_different_signs" = some (some (.ref fDf)))
    (lDf : K.lookup fDf = some ⟨ocDf, odDf, .func (PySem.W.fnOf "are_different_signs" "are_different_signs" (defArgs gAreDifferentSigns) (defBody gAreDifferentSigns) (defScope gAreDifferentSigns) .none kVDf dcDf pmDf anDf cdDf ctDf), slDf⟩)
    (cDf : PySem.W.codeIn K cdDf "are_different_signs" = true)
    (kDf : PySem.W.keepIn K (.ref fDf) = true)
    (aAs : PySem.W.nsIn K mainGlobals "in_ascii_order" = some (some (.ref fAs)))
    (lAs : K.lookup fAs = some ⟨ocAs, odAs, .func (PySem.W.fnOf "in_ascii_order" "in_ascii_order" (defArgs gInAsciiOrder) (defBody gInAsciiOrder) (defScope gInAsciiOrder) .none kVAs dcAs pmAs anAs cdAs ctAs), slAs⟩)
    (cAs : PySem.W.codeIn K cdAs "in_ascii_order" = true)
    (kAs : PySem.W.keepIn K (.ref fAs) = true)
    (aAl : PySem.W.nsIn K mainGlobals "_are_allowed_signs" = some (some (.ref fAl)))
    (lAl : K.lookup fAl = some ⟨ocAl, odAl, .func (PySem.W.fnOf "_are_allowed_signs" "_are_allowed_signs" (defArgs gAreAllowedSigns) (defBody gAreAllowedSigns) (defScope gAreAllowedSigns) .none kVAl dcAl pmAl anAl cdAl ctAl), slAl⟩)
    (cAl : PySem.W.codeIn K cdAl "_are_allowed_signs" = true)
    (kAl : PySem.W.keepIn K (.ref fAl) = true)
    (aRw : PySem.W.nsIn K mainGlobals "_read_word" = some (some (.ref fRw)))
    (lRw : K.lookup fRw = some ⟨ocRw, odRw, .func (PySem.W.fnOf "_read_word" "_read_word" (defArgs gReadWord) (defBody gReadWord) (defScope gReadWord) .none kVRw dcRw pmRw anRw cdRw ctRw), slRw⟩)
    (cRw : PySem.W.codeIn K cdRw "_read_word" = true)
    (kRw : PySem.W.keepIn K (.ref fRw) = true)
    (aCz : PySem.W.nsIn K mainGlobals "_check_sizes" = some (some (.ref fCz)))
    (lCz : K.lookup fCz = some ⟨ocCz, odCz, .func (PySem.W.fnOf "_check_sizes" "_check_sizes" (defArgs gCheckSizes) (defBody gCheckSizes) (defScope gCheckSizes) .none kVCz dcCz pmCz anCz cdCz ctCz), slCz⟩)
    (cCz : PySem.W.codeIn K cdCz "_check_sizes" = true)
    (kCz : PySem.W.keepIn K (.ref fCz) = true)
    (aNd : PySem.W.nsIn K mainGlobals "required_cells" = some (some (.ref fNd)))
    (lNd : K.lookup fNd = some ⟨ocNd, odNd, .func (PySem.W.fnOf "required_cells" "required_cells" (defArgs gRequiredCells) (defBody gRequiredCells) (defScope gRequiredCells) .none kVNd dcNd pmNd anNd cdNd ctNd), slNd⟩)
    (cNd : PySem.W.codeIn K cdNd "required_cells" = true)
    (kNd : PySem.W.keepIn K (.ref fNd) = true)
    (aBb : PySem.W.nsIn K mainGlobals "is_bad_row_pictures" = some (some (.ref fBb)))
    (lBb : K.lookup fBb = some ⟨ocBb, odBb, .func (PySem.W.fnOf "_is_bad_row" "_is_bad_row" (defArgs gIsBadRow) (defBody gIsBadRow) (defScope gIsBadRow) .none kVBb dcBb pmBb anBb cdBb ctBb), slBb⟩)
    (cBb : PySem.W.codeIn K cdBb "_is_bad_row" = true)
    (kBb : PySem.W.keepIn K (.ref fBb) = true)
    (aBm : PySem.W.nsIn K mainGlobals "bad_line_pictures" = some (some (.ref fBm)))
    (lBm : K.lookup fBm = some ⟨ocBm, odBm, .func (PySem.W.fnOf "_bad_line" "_bad_line" (defArgs gBadLine) (defBody gBadLine) (defScope gBadLine) .none kVBm dcBm pmBm anBm cdBm ctBm), slBm⟩)
    (cBm : PySem.W.codeIn K cdBm "_bad_line" = true)
    (kBm : PySem.W.keepIn K (.ref fBm) = true)
    (aBa : PySem.W.nsIn K mainGlobals "is_bad_row_sketches" = some (some (.ref fBa)))
    (lBa : K.lookup fBa = some ⟨ocBa, odBa, .func (PySem.W.fnOf "_is_bad_row" "_is_bad_row" (defArgs gIsBadRowSketches) (defBody gIsBadRowSketches) (defScope gIsBadRowSketches) .none kVBa dcBa pmBa anBa cdBa ctBa), slBa⟩)
    (cBa : PySem.W.codeIn K cdBa "_is_bad_row" = true)
    (kBa : PySem.W.keepIn K (.ref fBa) = true)
    (aBl : PySem.W.nsIn K mainGlobals "bad_line_sketches" = some (some (.ref fBl)))
    (lBl : K.lookup fBl = some ⟨ocBl, odBl, .func (PySem.W.fnOf "_bad_line" "_bad_line" (defArgs gBadLineSketches) (defBody gBadLineSketches) (defScope gBadLineSketches) .none kVBl dcBl pmBl anBl cdBl ctBl), slBl⟩)
    (cBl : PySem.W.codeIn K cdBl "_bad_line" = true)
    (kBl : PySem.W.keepIn K (.ref fBl) = true)
    (aBag : PySem.W.nsIn K mainGlobals "_law_bag" = some (some (.ref fBag)))
    (lBag : K.lookup fBag = some ⟨ocBag, odBag, .func (PySem.W.fnOf "_law_bag" "_law_bag" (defArgs lBag) (defBody lBag) (defScope lBag) .none kVBag dcBag pmBag anBag cdBag ctBag), slBag⟩)
    (cBag : PySem.W.codeIn K cdBag "_law_bag" = true)
    (kBag : PySem.W.keepIn K (.ref fBag) = true)
    (aTake : PySem.W.nsIn K mainGlobals "_law_take" = some (some (.ref fTake)))
    (lTake : K.lookup fTake = some ⟨ocTake, odTake, .func (PySem.W.fnOf "_law_take" "_law_take" (defArgs lTake) (defBody lTake) (defScope lTake) .none kVTake dcTake pmTake anTake cdTake ctTake), slTake⟩)
    (cTake : PySem.W.codeIn K cdTake "_law_take" = true)
    (kTake : PySem.W.keepIn K (.ref fTake) = true)
    (aIi : PySem.W.nsIn K mainGlobals "_law_is_int" = some (some (.ref fIi)))
    (lIi : K.lookup fIi = some ⟨ocIi, odIi, .func (PySem.W.fnOf "_law_is_int" "_law_is_int" (defArgs lIsInt) (defBody lIsInt) (defScope lIsInt) .none kVIi dcIi pmIi anIi cdIi ctIi), slIi⟩)
    (cIi : PySem.W.codeIn K cdIi "_law_is_int" = true)
    (kIi : PySem.W.keepIn K (.ref fIi) = true)
    (aIc : PySem.W.nsIn K mainGlobals "_law_is_cell" = some (some (.ref fIc)))
    (lIc : K.lookup fIc = some ⟨ocIc, odIc, .func (PySem.W.fnOf "_law_is_cell" "_law_is_cell" (defArgs lIsCell) (defBody lIsCell) (defScope lIsCell) .none kVIc dcIc pmIc anIc cdIc ctIc), slIc⟩)
    (cIc : PySem.W.codeIn K cdIc "_law_is_cell" = true)
    (kIc : PySem.W.keepIn K (.ref fIc) = true)
    (aIz : PySem.W.nsIn K mainGlobals "_law_is_cells" = some (some (.ref fIz)))
    (lIz : K.lookup fIz = some ⟨ocIz, odIz, .func (PySem.W.fnOf "_law_is_cells" "_law_is_cells" (defArgs lIsCells) (defBody lIsCells) (defScope lIsCells) .none kVIz dcIz pmIz anIz cdIz ctIz), slIz⟩)
    (cIz : PySem.W.codeIn K cdIz "_law_is_cells" = true)
    (kIz : PySem.W.keepIn K (.ref fIz) = true)
    (aOnce : PySem.W.nsIn K mainGlobals "_law_once" = some (some (.ref fOnce)))
    (lOnce : K.lookup fOnce = some ⟨ocOnce, odOnce, .func (PySem.W.fnOf "_law_once" "_law_once" (defArgs lOnce) (defBody lOnce) (defScope lOnce) .none kVOnce dcOnce pmOnce anOnce cdOnce ctOnce), slOnce⟩)
    (cOnce : PySem.W.codeIn K cdOnce "_law_once" = true)
    (kOnce : PySem.W.keepIn K (.ref fOnce) = true)
    (aPal : PySem.W.nsIn K mainGlobals "_law_palette" = some (some (.ref fPal)))
    (lPal : K.lookup fPal = some ⟨ocPal, odPal, .func (PySem.W.fnOf "_law_palette" "_law_palette" (defArgs lPalette) (defBody lPalette) (defScope lPalette) .none kVPal dcPal pmPal anPal cdPal ctPal), slPal⟩)
    (cPal : PySem.W.codeIn K cdPal "_law_palette" = true)
    (kPal : PySem.W.keepIn K (.ref fPal) = true)
    (aRow : PySem.W.nsIn K mainGlobals "_law_row" = some (some (.ref fRow)))
    (lRow : K.lookup fRow = some ⟨ocRow, odRow, .func (PySem.W.fnOf "_law_row" "_law_row" (defArgs lRow) (defBody lRow) (defScope lRow) .none kVRow dcRow pmRow anRow cdRow ctRow), slRow⟩)
    (cRow : PySem.W.codeIn K cdRow "_law_row" = true)
    (kRow : PySem.W.keepIn K (.ref fRow) = true)
    (aGrid : PySem.W.nsIn K mainGlobals "_law_grid" = some (some (.ref fGrid)))
    (lGrid : K.lookup fGrid = some ⟨ocGrid, odGrid, .func (PySem.W.fnOf "_law_grid" "_law_grid" (defArgs lGrid) (defBody lGrid) (defScope lGrid) .none kVGrid dcGrid pmGrid anGrid cdGrid ctGrid), slGrid⟩)
    (cGrid : PySem.W.codeIn K cdGrid "_law_grid" = true)
    (kGrid : PySem.W.keepIn K (.ref fGrid) = true)
    (aBig : PySem.W.nsIn K mainGlobals "_law_big_grid" = some (some (.ref fBig)))
    (lBig : K.lookup fBig = some ⟨ocBig, odBig, .func (PySem.W.fnOf "_law_big_grid" "_law_big_grid" (defArgs lBigGrid) (defBody lBigGrid) (defScope lBigGrid) .none kVBig dcBig pmBig anBig cdBig ctBig), slBig⟩)
    (cBig : PySem.W.codeIn K cdBig "_law_big_grid" = true)
    (kBig : PySem.W.keepIn K (.ref fBig) = true)
    (aCe : PySem.W.nsIn K mainGlobals "_law_cells" = some (some (.ref fCe)))
    (lCe : K.lookup fCe = some ⟨ocCe, odCe, .func (PySem.W.fnOf "_law_cells" "_law_cells" (defArgs lCells) (defBody lCells) (defScope lCells) .none kVCe dcCe pmCe anCe cdCe ctCe), slCe⟩)
    (cCe : PySem.W.codeIn K cdCe "_law_cells" = true)
    (kCe : PySem.W.keepIn K (.ref fCe) = true)
    (aSl : PySem.W.nsIn K mainGlobals "_law_stones" = some (some (.ref fSl)))
    (lSl : K.lookup fSl = some ⟨ocSl, odSl, .func (PySem.W.fnOf "_law_stones" "_law_stones" (defArgs lStones) (defBody lStones) (defScope lStones) .none kVSl dcSl pmSl anSl cdSl ctSl), slSl⟩)
    (cSl : PySem.W.codeIn K cdSl "_law_stones" = true)
    (kSl : PySem.W.keepIn K (.ref fSl) = true)
    (aPt : PySem.W.nsIn K mainGlobals "_law_put" = some (some (.ref fPt)))
    (lPt : K.lookup fPt = some ⟨ocPt, odPt, .func (PySem.W.fnOf "_law_put" "_law_put" (defArgs lPut) (defBody lPut) (defScope lPut) .none kVPt dcPt pmPt anPt cdPt ctPt), slPt⟩)
    (cPt : PySem.W.codeIn K cdPt "_law_put" = true)
    (kPt : PySem.W.keepIn K (.ref fPt) = true)
    (aRi : PySem.W.nsIn K mainGlobals "_law_region_is" = some (some (.ref fRi)))
    (lRi : K.lookup fRi = some ⟨ocRi, odRi, .func (PySem.W.fnOf "_law_region_is" "_law_region_is" (defArgs lRegionIs) (defBody lRegionIs) (defScope lRegionIs) .none kVRi dcRi pmRi anRi cdRi ctRi), slRi⟩)
    (cRi : PySem.W.codeIn K cdRi "_law_region_is" = true)
    (kRi : PySem.W.keepIn K (.ref fRi) = true)
    (aAd : PySem.W.nsIn K mainGlobals "_law_allowed" = some (some (.ref fAd)))
    (lAd : K.lookup fAd = some ⟨ocAd, odAd, .func (PySem.W.fnOf "_law_allowed" "_law_allowed" (defArgs lAllowed) (defBody lAllowed) (defScope lAllowed) .none kVAd dcAd pmAd anAd cdAd ctAd), slAd⟩)
    (cAd : PySem.W.codeIn K cdAd "_law_allowed" = true)
    (kAd : PySem.W.keepIn K (.ref fAd) = true)
    (aTb : PySem.W.nsIn K mainGlobals "_law_table" = some (some (.ref fTb)))
    (lTb : K.lookup fTb = some ⟨ocTb, odTb, .func (PySem.W.fnOf "_law_table" "_law_table" (defArgs lTable) (defBody lTable) (defScope lTable) .none kVTb dcTb pmTb anTb cdTb ctTb), slTb⟩)
    (cTb : PySem.W.codeIn K cdTb "_law_table" = true)
    (kTb : PySem.W.keepIn K (.ref fTb) = true)
    (aLt : PySem.W.nsIn K mainGlobals "_law_sketch_text" = some (some (.ref fLt)))
    (lLt : K.lookup fLt = some ⟨ocLt, odLt, .func (PySem.W.fnOf "_law_sketch_text" "_law_sketch_text" (defArgs lSketchText) (defBody lSketchText) (defScope lSketchText) .none kVLt dcLt pmLt anLt cdLt ctLt), slLt⟩)
    (cLt : PySem.W.codeIn K cdLt "_law_sketch_text" = true)
    (kLt : PySem.W.keepIn K (.ref fLt) = true)
    (aLa : PySem.W.nsIn K mainGlobals "_law_at" = some (some (.ref fLa)))
    (lLa : K.lookup fLa = some ⟨ocLa, odLa, .func (PySem.W.fnOf "_law_at" "_law_at" (defArgs lAt) (defBody lAt) (defScope lAt) .none kVLa dcLa pmLa anLa cdLa ctLa), slLa⟩)
    (cLa : PySem.W.codeIn K cdLa "_law_at" = true)
    (kLa : PySem.W.keepIn K (.ref fLa) = true)
    (aRq : PySem.W.nsIn K mainGlobals "_law_required" = some (some (.ref fRq)))
    (lRq : K.lookup fRq = some ⟨ocRq, odRq, .func (PySem.W.fnOf "_law_required" "_law_required" (defArgs lRequired) (defBody lRequired) (defScope lRequired) .none kVRq dcRq pmRq anRq cdRq ctRq), slRq⟩)
    (cRq : PySem.W.codeIn K cdRq "_law_required" = true)
    (kRq : PySem.W.keepIn K (.ref fRq) = true)
    (aWi : PySem.W.nsIn K mainGlobals "_law_within" = some (some (.ref fWi)))
    (lWi : K.lookup fWi = some ⟨ocWi, odWi, .func (PySem.W.fnOf "_law_within" "_law_within" (defArgs lWithin) (defBody lWithin) (defScope lWithin) .none kVWi dcWi pmWi anWi cdWi ctWi), slWi⟩)
    (cWi : PySem.W.codeIn K cdWi "_law_within" = true)
    (kWi : PySem.W.keepIn K (.ref fWi) = true)
    (aLi : PySem.W.nsIn K mainGlobals "_law_sketch_is" = some (some (.ref fLi)))
    (lLi : K.lookup fLi = some ⟨ocLi, odLi, .func (PySem.W.fnOf "_law_sketch_is" "_law_sketch_is" (defArgs lSketchIs) (defBody lSketchIs) (defScope lSketchIs) .none kVLi dcLi pmLi anLi cdLi ctLi), slLi⟩)
    (cLi : PySem.W.codeIn K cdLi "_law_sketch_is" = true)
    (kLi : PySem.W.keepIn K (.ref fLi) = true)
    (aAg : PySem.W.nsIn K mainGlobals "_law_agree" = some (some (.ref fAg)))
    (lAg : K.lookup fAg = some ⟨ocAg, odAg, .func (PySem.W.fnOf "_law_agree" "_law_agree" (defArgs lAgree) (defBody lAgree) (defScope lAgree) .none kVAg dcAg pmAg anAg cdAg ctAg), slAg⟩)
    (cAg : PySem.W.codeIn K cdAg "_law_agree" = true)
    (kAg : PySem.W.keepIn K (.ref fAg) = true)
    (aTw : PySem.W.nsIn K mainGlobals "_law_allow_two" = some (some (.ref fTw)))
    (lTw : K.lookup fTw = some ⟨ocTw, odTw, .func (PySem.W.fnOf "_law_allow_two" "_law_allow_two" (defArgs lAllowTwo) (defBody lAllowTwo) (defScope lAllowTwo) .none kVTw dcTw pmTw anTw cdTw ctTw), slTw⟩)
    (cTw : PySem.W.codeIn K cdTw "_law_allow_two" = true)
    (kTw : PySem.W.keepIn K (.ref fTw) = true)
    (aLaw : PySem.W.nsIn K mainGlobals "law" = some (some (.ref fLaw)))
    (lLaw : K.lookup fLaw = some ⟨ocLaw, odLaw, .func (PySem.W.fnOf "law" "law" (defArgs lLaw) (defBody lLaw) (defScope lLaw) .none kVLaw dcLaw pmLaw anLaw cdLaw ctLaw), slLaw⟩)
    (cLaw : PySem.W.codeIn K cdLaw "law" = true)
    (kLaw : PySem.W.keepIn K (.ref fLaw) = true)
    (aAny : PySem.W.nsIn K mainGlobals "_law_any" = some (some (.ref fAny)))
    (lAny : K.lookup fAny = some ⟨ocAny, odAny, .func (PySem.W.fnOf "_law_any" "_law_any" (defArgs lAny) (defBody lAny) (defScope lAny) .none kVAny dcAny pmAny anAny cdAny ctAny), slAny⟩)
    (cAny : PySem.W.codeIn K cdAny "_law_any" = true)
    (kAny : PySem.W.keepIn K (.ref fAny) = true)
    (zisinstance : PySem.W.nsIn K mainGlobals "isinstance" = some none)
    (zint : PySem.W.nsIn K mainGlobals "int" = some none)
    (zbool : PySem.W.nsIn K mainGlobals "bool" = some none)
    (ztuple : PySem.W.nsIn K mainGlobals "tuple" = some none)
    (zlist : PySem.W.nsIn K mainGlobals "list" = some none)
    (zlen : PySem.W.nsIn K mainGlobals "len" = some none)
    (zrange : PySem.W.nsIn K mainGlobals "range" = some none)
    (zall : PySem.W.nsIn K mainGlobals "all" = some none)
    (zenumerate : PySem.W.nsIn K mainGlobals "enumerate" = some none)
    (zstr : PySem.W.nsIn K mainGlobals "str" = some none)
    (zset : PySem.W.nsIn K mainGlobals "set" = some none)
    (zsorted : PySem.W.nsIn K mainGlobals "sorted" = some none) :
    ∃ fd : FuncData, (∀ (s : Shared) (v : Value), BindsTo s fd ⟨[v], []⟩ [("_law_script", v)]) ∧ ∀ base : Heap, K.In base → base.Ns mainGlobals mg → FnOk l.prog w K mg base CX0 8 fa fd ["_law_script"] (spLaw K) := by
  have e := hfa.symm.trans (PySem.W.mg_of X G aLaw)
  cases e
  have g : ∀ {x : Str} {u : Value}, PySem.W.nsIn K mainGlobals x = some (some u) → mg x = some u := fun z => PySem.W.mg_of X G z
  have n : ∀ {x : Str}, PySem.W.nsIn K mainGlobals x = some none → mg x = none := fun z => PySem.W.mg_none_of X G z
  have clC : L2.Cls K C := ⟨pgC, hdC, poC, saC⟩
  have FPI := fun_mk (st := Pm.cPictureInit) lPI cPI kPI
  have bPI := FPI.binds (ps := ["self", "rows"]) fun _ _ _ _ _ _ us hl => match us, hl with | [_, _], _ => rfl
  have FPL := fun_mk (st := Pm.cPictureLines) lPL cPL kPL
  have bPL := FPL.binds (ps := ["self"]) fun _ _ _ _ _ _ us hl => match us, hl with | [_], _ => rfl
  have FPC := fun_mk (st := Pm.cPictureContains) lPC cPC kPC
  have bPC := FPC.binds (ps := ["self", "x", "y"]) fun _ _ _ _ _ _ us hl => match us, hl with | [_, _, _], _ => rfl
  have FPE := fun_mk (st := Pm.cPictureEveryCell) lPE cPE kPE
  have bPE := FPE.binds (ps := ["self"]) fun _ _ _ _ _ _ us hl => match us, hl with | [_], _ => rfl
  have FPG := fun_mk (st := Pm.cPictureGetitem) lPG cPG kPG
  have bPG := FPG.binds (ps := ["self", "at"]) fun _ _ _ _ _ _ us hl => match us, hl with | [_, _], _ => rfl
  have FPS := fun_mk (st := Pm.cPictureStones) lPS cPS kPS
  have bPS := FPS.binds (ps := ["self"]) fun _ _ _ _ _ _ us hl => match us, hl with | [_], _ => rfl
  have clCR : L2.Cls K CR := ⟨pgCR, hdCR, poCR, saCR⟩
  have FRI := fun_mk (st := Pm.cRegionInit) lRI cRI kRI
  have bRI := FRI.binds (ps := ["self", "cells"]) fun _ _ _ _ _ _ us hl => match us, hl with | [_, _], _ => rfl
  have FRc := fun_mk (st := Pm.cRegionCells) lRc cRc kRc
  have bRc := FRc.binds (ps := ["self"]) fun _ _ _ _ _ _ us hl => match us, hl with | [_], _ => rfl
  have clCS : L2.Cls K CS := ⟨pgCS, hdCS, poCS, saCS⟩
  have FI : FunD K "__init__" "Sketch.__init__" (defArgs cSketchInit) (defBody cSketchInit) (defScope cSketchInit) [] [("_rows", .non)] fI (PySem.W.fnOf "__init__" "Sketch.__init__" (defArgs cSketchInit) (defBody cSketchInit) (defScope cSketchInit) .none kVI dcI pmI anI cdI ctI) := ⟨⟨_, _, _, _, _, _, _, _, _, _, rfl, lI, cI, .inl ⟨rfl, rfl⟩, wI⟩, kI⟩
  have kbI : KBn K (PySem.W.fnOf "__init__" "Sketch.__init__" (defArgs cSketchInit) (defBody cSketchInit) (defScope cSketchInit) .none kVI dcI pmI anI cdI ctI) nIn4 3 ["_rows"] (fun us ws => us ++ ws) (fun vs zs => vs ++ zs) := ⟨fun s us ws _ l1 l2 => match us, ws, l1, l2 with | [_, _, _], [_], _, _ => .of_eq rfl, fun r1 r2 => r1.append r2⟩
  obtain ⟨dsI, dvI, bI⟩ := FI.binds0 (ps := nIn4) 3 (by decide) rfl fun _ _ _ _ _ _ us ks l1 l2 => match us, ks, l1, l2 with | [_, _, _], [_], _, _ => ⟨_, _, _, _, _, _, rfl, rfl, rfl⟩
  have FRd := fun_mk (st := Pm.cSketchRead) lRd cRd kRd
  have bRd := FRd.binds (ps := ["cls", "text"]) fun _ _ _ _ _ _ us hl => match us, hl with | [_, _], _ => rfl
  have MRd : ClX.CMet K CS (.type "type") "read" pRd fRd := ⟨aRd, ⟨_, rRd⟩, iRd⟩
  have FOf := fun_mk (st := Pm.cSketchOf) lOf cOf kOf
  have bOf := FOf.binds (ps := ["cls", "picture"]) fun _ _ _ _ _ _ us hl => match us, hl with | [_, _], _ => rfl
  have MOf : ClX.CMet K CS (.type "type") "of" pOf fOf := ⟨aOf, ⟨_, rOf⟩, iOf⟩
  have FEi := fun_mk (st := Pm.cInvalidPictureInit) lEi cEi kEi
  have bEi := FEi.binds (ps := ["self", "line"]) fun _ _ _ _ _ _ us hl => match us, hl with | [_, _], _ => rfl
  have erCI : ErrC K CI := ⟨by rw [cxCI]; rfl, hgCI, hkCI, svCI, haCI, cn, ct, hmCI, hdCI⟩
  have teCI : PySem.W.exmOne K (.ref CI) (.ref CI) = some true := exm_self svCI icCI tyCI sxCI
  have oxCI : OexC K CI := ⟨⟨nmCI, qnCI, nsCI, bsCI, bmCI, snCI, sbCI, abCI, coCI, ddCI, x0CI, x1CI, x2CI, x3CI, x5CI, lkCI, vbCI⟩, saCI, svCI, tyCI, kpCI⟩
  have erCU : ErrC K CU := ⟨by rw [cxCU]; rfl, hgCU, hkCU, svCU, haCU, cn, ct, hmCU, hdCU⟩
  have teCU : PySem.W.exmOne K (.ref CU) (.ref CU) = some true := exm_self svCU icCU tyCU sxCU
  have FAw := fun_mk (st := Pm.cSketchAllow) lAw cAw kAw
  have bAw := FAw.binds (ps := ["self", "x", "y", "signs"]) fun _ _ _ _ _ _ us hl => match us, hl with | [_, _, _, _], _ => rfl
  have FTx := fun_mk (st := Pm.cSketchText) lTx cTx kTx
  have bTx := FTx.binds (ps := ["self"]) fun _ _ _ _ _ _ us hl => match us, hl with | [_], _ => rfl
  have FCk := fun_mk (st := Pm.cSketchCheckCell) lCk cCk kCk
  have bCk := FCk.binds (ps := ["self", "x", "y"]) fun _ _ _ _ _ _ us hl => match us, hl with | [_, _, _], _ => rfl
  have FGi := fun_mk (st := Pm.cSketchGetitem) lGi cGi kGi
  have bGi := FGi.binds (ps := ["self", "at"]) fun _ _ _ _ _ _ us hl => match us, hl with | [_, _], _ => rfl
  have FFt := fun_mk (st := Pm.cSketchFits) lFt cFt kFt
  have bFt := FFt.binds (ps := ["self", "picture"]) fun _ _ _ _ _ _ us hl => match us, hl with | [_, _], _ => rfl
  have FWy := fun_mk (st := Pm.cSketchWays) lWy cWy kWy
  have bWy := FWy.binds (ps := ["self"]) fun _ _ _ _ _ _ us hl => match us, hl with | [_], _ => rfl
  have FIs := fun_mk (st := Pm.gIsStone) lIs cIs kIs
  have bIs := FIs.binds (ps := ["sign"]) fun _ _ _ _ _ _ us hl => match us, hl with | [_], _ => rfl
  have FSo := fun_mk (st := Pm.gIsStoneOrHole) lSo cSo kSo
  have bSo := FSo.binds (ps := ["sign"]) fun _ _ _ _ _ _ us hl => match us, hl with | [_], _ => rfl
  have FDf := fun_mk (st := Pm.gAreDifferentSigns) lDf cDf kDf
  have bDf := FDf.binds (ps := ["signs", "besides"]) fun _ _ _ _ _ _ us hl => match us, hl with | [_, _], _ => rfl
  have FAs := fun_mk (st := Pm.gInAsciiOrder) lAs cAs kAs
  have bAs := FAs.binds (ps := ["signs"]) fun _ _ _ _ _ _ us hl => match us, hl with | [_], _ => rfl
  have FAl := fun_mk (st := Pm.gAreAllowedSigns) lAl cAl kAl
  have bAl := FAl.binds (ps := ["signs"]) fun _ _ _ _ _ _ us hl => match us, hl with | [_], _ => rfl
  have FRw := fun_mk (st := Pm.gReadWord) lRw cRw kRw
  have bRw := FRw.binds (ps := ["word"]) fun _ _ _ _ _ _ us hl => match us, hl with | [_], _ => rfl
  have FCz := fun_mk (st := Pm.gCheckSizes) lCz cCz kCz
  have bCz := FCz.binds (ps := ["sketch", "other"]) fun _ _ _ _ _ _ us hl => match us, hl with | [_, _], _ => rfl
  have FNd := fun_mk (st := Pm.gRequiredCells) lNd cNd kNd
  have bNd := FNd.binds (ps := ["sketch", "picture"]) fun _ _ _ _ _ _ us hl => match us, hl with | [_, _], _ => rfl
  have FBb := fun_mk (st := Pm.gIsBadRow) lBb cBb kBb
  have bBb := FBb.binds (ps := ["row", "width"]) fun _ _ _ _ _ _ us hl => match us, hl with | [_, _], _ => rfl
  have FBm := fun_mk (st := Pm.gBadLine) lBm cBm kBm
  have bBm := FBm.binds (ps := ["rows"]) fun _ _ _ _ _ _ us hl => match us, hl with | [_], _ => rfl
  have FBa := fun_mk (st := Pm.gIsBadRowSketches) lBa cBa kBa
  have bBa := FBa.binds (ps := ["words", "width"]) fun _ _ _ _ _ _ us hl => match us, hl with | [_, _], _ => rfl
  have FBl := fun_mk (st := Pm.gBadLineSketches) lBl cBl kBl
  have bBl := FBl.binds (ps := ["rows"]) fun _ _ _ _ _ _ us hl => match us, hl with | [_], _ => rfl
  have FBag := fun_mk (st := Pm.lBag) lBag cBag kBag
  have bBag := FBag.binds (ps := ["_law_script"]) fun _ _ _ _ _ _ us hl => match us, hl with | [_], _ => rfl
  have FTake := fun_mk (st := Pm.lTake) lTake cTake kTake
  have bTake := FTake.binds (ps := ["_law_bag_here", "_law_size"]) fun _ _ _ _ _ _ us hl => match us, hl with | [_, _], _ => rfl
  have FIi := fun_mk (st := Pm.lIsInt) lIi cIi kIi
  have bIi := FIi.binds (ps := ["_law_value"]) fun _ _ _ _ _ _ us hl => match us, hl with | [_], _ => rfl
  have FIc := fun_mk (st := Pm.lIsCell) lIc cIc kIc
  have bIc := FIc.binds (ps := ["_law_value"]) fun _ _ _ _ _ _ us hl => match us, hl with | [_], _ => rfl
  have FIz := fun_mk (st := Pm.lIsCells) lIz cIz kIz
  have bIz := FIz.binds (ps := ["_law_value"]) fun _ _ _ _ _ _ us hl => match us, hl with | [_], _ => rfl
  have FOnce := fun_mk (st := Pm.lOnce) lOnce cOnce kOnce
  have bOnce := FOnce.binds (ps := ["_law_cells_here"]) fun _ _ _ _ _ _ us hl => match us, hl with | [_], _ => rfl
  have FPal := fun_mk (st := Pm.lPalette) lPal cPal kPal
  have bPal := FPal.binds (ps := ["_law_bag_here"]) fun _ _ _ _ _ _ us hl => match us, hl with | [_], _ => rfl
  have FRow := fun_mk (st := Pm.lRow) lRow cRow kRow
  have bRow := FRow.binds (ps := ["_law_bag_here", "_law_palette_here", "_law_wide"]) fun _ _ _ _ _ _ us hl => match us, hl with | [_, _, _], _ => rfl
  have FGrid := fun_mk (st := Pm.lGrid) lGrid cGrid kGrid
  have bGrid := FGrid.binds (ps := ["_law_bag_here", "_law_palette_here"]) fun _ _ _ _ _ _ us hl => match us, hl with | [_, _], _ => rfl
  have FBig := fun_mk (st := Pm.lBigGrid) lBig cBig kBig
  have bBig := FBig.binds (ps := ["_law_bag_here", "_law_palette_here"]) fun _ _ _ _ _ _ us hl => match us, hl with | [_, _], _ => rfl
  have FCe := fun_mk (st := Pm.lCells) lCe cCe kCe
  have bCe := FCe.binds (ps := ["_law_rows"]) fun _ _ _ _ _ _ us hl => match us, hl with | [_], _ => rfl
  have FSl := fun_mk (st := Pm.lStones) lSl cSl kSl
  have bSl := FSl.binds (ps := ["_law_rows"]) fun _ _ _ _ _ _ us hl => match us, hl with | [_], _ => rfl
  have FPt := fun_mk (st := Pm.lPut) lPt cPt kPt
  have bPt := FPt.binds (ps := ["_law_rows", "_law_cx", "_law_cy", "_law_sign"]) fun _ _ _ _ _ _ us hl => match us, hl with | [_, _, _, _], _ => rfl
  have FRi := fun_mk (st := Pm.lRegionIs) lRi cRi kRi
  have bRi := FRi.binds (ps := ["_law_region", "_law_due"]) fun _ _ _ _ _ _ us hl => match us, hl with | [_, _], _ => rfl
  have FAd := fun_mk (st := Pm.lAllowed) lAd cAd kAd
  have bAd := FAd.binds (ps := ["_law_bag_here", "_law_palette_here", "_law_sign"]) fun _ _ _ _ _ _ us hl => match us, hl with | [_, _, _], _ => rfl
  have FTb := fun_mk (st := Pm.lTable) lTb cTb kTb
  have bTb := FTb.binds (ps := ["_law_bag_here", "_law_palette_here", "_law_rows"]) fun _ _ _ _ _ _ us hl => match us, hl with | [_, _, _], _ => rfl
  have FLt := fun_mk (st := Pm.lSketchText) lLt cLt kLt
  have bLt := FLt.binds (ps := ["_law_table_here"]) fun _ _ _ _ _ _ us hl => match us, hl with | [_], _ => rfl
  have FLa := fun_mk (st := Pm.lAt) lLa cLa kLa
  have bLa := FLa.binds (ps := ["_law_table_here", "_law_cell"]) fun _ _ _ _ _ _ us hl => match us, hl with | [_, _], _ => rfl
  have FRq := fun_mk (st := Pm.lRequired) lRq cRq kRq
  have bRq := FRq.binds (ps := ["_law_table_here", "_law_rows"]) fun _ _ _ _ _ _ us hl => match us, hl with | [_, _], _ => rfl
  have FWi := fun_mk (st := Pm.lWithin) lWi cWi kWi
  have bWi := FWi.binds (ps := ["_law_table_here", "_law_rows"]) fun _ _ _ _ _ _ us hl => match us, hl with | [_, _], _ => rfl
  have FLi := fun_mk (st := Pm.lSketchIs) lLi cLi kLi
  have bLi := FLi.binds (ps := ["_law_sketch", "_law_table_here"]) fun _ _ _ _ _ _ us hl => match us, hl with | [_, _], _ => rfl
  have FAg := fun_mk (st := Pm.lAgree) lAg cAg kAg
  have bAg := FAg.binds (ps := ["_law_sketch", "_law_table_here", "_law_rows"]) fun _ _ _ _ _ _ us hl => match us, hl with | [_, _, _], _ => rfl
  have FTw := fun_mk (st := Pm.lAllowTwo) lTw cTw kTw
  have bTw := FTw.binds (ps := ["_law_bag_here", "_law_sketch", "_law_table_here", "_law_product"]) fun _ _ _ _ _ _ us hl => match us, hl with | [_, _, _, _], _ => rfl
  have FLaw := fun_mk (st := Pm.lLaw) lLaw cLaw kLaw
  have FAny := fun_mk (st := Pm.lAny) lAny cAny kAny
  have bAny : L2.Binds K _ [] [] := FAny.binds (ps := []) fun _ _ _ _ _ _ us hl => match us, hl with | [], _ => rfl
  refine ⟨PySem.W.fnOf "law" "law" (defArgs Pm.lLaw) (defBody Pm.lLaw) (defScope Pm.lLaw) .none kVLaw dcLaw pmLaw anLaw cdLaw ctLaw, fun s v => .of_eq rfl, fun base _ _ => ?_⟩
  have L : LTxt K mg := ⟨n zisinstance, n zint, n zlist, n zlen, n zrange⟩
  have B : BTxt K mg := ⟨n zisinstance, n zbool, n ztuple, n zint, n zlist, n zlen⟩
  have R : STxt K mg := ⟨n zset, n zsorted⟩
  have TP : PTxt K mg C := ⟨g gC, ⟨_, ⟨rdC, gaC⟩, ⟨_, aHo, rlHo⟩, ⟨_, aEd, rlEd⟩⟩, ⟨_, g aSt, rlSt⟩, ⟨_, g aMo, rlMo⟩, n zall, n zenumerate⟩
  have TC : PCls K C := ⟨clC, nC_rows, nC_width, nC_height⟩
  have TR : RCTxt K mg CR := ⟨⟨clCR, nCR_members, g gCR, n zsorted, n zlist⟩, n zisinstance, caCR, cn, ct, cmCR, kit_self⟩
  have MP : Mk K C fPI := ⟨mkC, aPI, iPI, kpC⟩
  have MR : Mk K CR fRI := ⟨mkCR, aRI, iRI, kpCR⟩
  have T : Kls K mg CS := ⟨clCS, nCS_width, nCS_height, nCS_rows, ⟨_, aAn, rlAn, ggAn, by decide⟩, g gCS, ⟨_, g aWd, rlWd⟩⟩
  have M : MkS l.prog w K mg base CS fI _ dsI := ⟨⟨mkCS, aI, iI, kpCS⟩, ok_skInit FI L TP T, kbI, bI, dvI⟩
  have cIs : Cl l.prog w K mg base CX0 1 "is_stone" ["sign"] spStone fIs _ := ⟨ok_stone FIs L TP, kIs, bIs, g aIs⟩
  have cSo : Cl l.prog w K mg base CX0 2 "is_stone_or_hole" ["sign"] spSoh fSo _ := ⟨ok_soh FSo cIs TP, kSo, bSo, g aSo⟩
  have cBb : Cl l.prog w K mg base CX0 3 "is_bad_row_pictures" ["row", "width"] spBad fBb _ := ⟨ok_bad FBb cSo L TP, kBb, bBb, g aBb⟩
  have cBm : Cl l.prog w K mg base CX0 4 "bad_line_pictures" ["rows"] spLine fBm _ := ⟨ok_line FBm cBb L TP, kBm, bBm, g aBm⟩
  have xI : EMk l.prog w K mg base CI "InvalidPicture" ["self", "line"] (spE1 CI "line") fEi _ := ⟨oxCI, atCI, ftCI, okEInvalidPicture FEi oxCI nCI_line, bEi, g gCI⟩
  have OPI := ok_init FPI cBm xI L TC
  have OPL := ok_lines (P := l.prog) (w := w) (mg := mg) (base := base) FPL L TC
  have OPC := ok_contains (P := l.prog) (w := w) (mg := mg) (base := base) FPC TC
  have OPE := ok_every (P := l.prog) (w := w) (mg := mg) (base := base) FPE L TC
  have OPG := ok_item FPG TC OPC ⟨aPC, iPC, kPC⟩ bPC ⟨aEg, rlEg, ggEg, by decide⟩
  have OR := ok_rinit (P := l.prog) (w := w) (mg := mg) (base := base) FRI TR.t
  have ORc := ok_rcells (P := l.prog) (w := w) (mg := mg) (base := base) FRc TR
  have cH : Con K C "HOLE" (.str ".") uHg := ⟨aHg, rlHg, ggHg, by decide⟩
  have OPS := ok_stones FPS TC OPE ⟨aPE, iPE, kPE⟩ bPE OPG ⟨aPG, iPG⟩ fiPG bPG cH OR MR bRI (g gCR)
  have cDf : Cl l.prog w K mg base CX0 2 "are_different_signs" ["signs", "besides"] spDiff fDf _ := ⟨ok_differ FDf cIs L TP R, kDf, bDf, g aDf⟩
  have cAs : Cl l.prog w K mg base CX0 1 "in_ascii_order" ["signs"] spAsc fAs _ := ⟨ok_asc FAs R, kAs, bAs, g aAs⟩
  have cAl : Cl l.prog w K mg base CX0 3 "_are_allowed_signs" ["signs"] spAlw fAl _ := ⟨ok_alw FAl cDf TP, kAl, bAl, g aAl⟩
  have cRw : Cl l.prog w K mg base CX0 2 "_read_word" ["word"] spRdW fRw _ := ⟨ok_rdW (uA := uAv) FRw T ⟨rdCS, gaCS⟩ ⟨aAv, rlAv⟩ cAs, kRw, bRw, g aRw⟩
  have cBa : Cl l.prog w K mg base CX0 4 "is_bad_row_sketches" ["words", "width"] (spG K gSkBad) fBa _ := ⟨ok_skBad FBa L T TP cAl, kBa, bBa, g aBa⟩
  have cBl : Cl l.prog w K mg base CX0 5 "bad_line_sketches" ["rows"] (spG K gSkLine) fBl _ := ⟨ok_skLine FBl L TP cBa, kBl, bBl, g aBl⟩
  have ORd := ok_read FRd L T M cBl cRw
  have OOf := ok_of FOf L T TC M OPL ⟨aPL, iPL, kPL⟩ bPL
  have OCk := ok_skChk (P := l.prog) (w := w) (base := base) FCk T
  have OTx := ok_skText (P := l.prog) (w := w) (base := base) FTx T
  have OGi := ok_skItem FGi T OCk ⟨aCk, iCk, kCk⟩ bCk
  have OAw := ok_allow FAw T OCk ⟨aCk, iCk, kCk⟩ bCk cAl cAs
  have U0 : Er0 K mg CU := ⟨xU, g gCU, kpCU, svCU, tyCU⟩
  have cCz : Cl l.prog w K mg base (L2.CX l.prog w) 1 "_check_sizes" ["sketch", "other"] (spSizesP C CS CU) fCz _ := ⟨ok_sizesP FCz T TC U0, kCz, bCz, g aCz⟩
  have OFt := ok_fits FFt (n zall) TC cCz OPE ⟨aPE, iPE, kPE⟩ bPE OPG ⟨aPG, iPG⟩ fiPG bPG OGi ⟨aGi, iGi⟩ fiGi bGi
  have OWy := ok_ways (P := l.prog) (w := w) (mg := mg) (base := base) FWy L T
  have cNd : Cl l.prog w K mg base (L2.CX l.prog w) 5 "required_cells" ["sketch", "picture"] (spNeed C CS CU CR) fNd _ := ⟨ok_need FNd TC TR cCz OPS ⟨aPS, iPS, kPS⟩ bPS OPG ⟨aPG, iPG⟩ fiPG bPG OGi ⟨aGi, iGi⟩ fiGi bGi OR MR bRI ORc ⟨aRc, iRc, kRc⟩ bRc, kNd, bNd, g aNd⟩
  have cTake : Cl l.prog w K mg base CX0 1 "_law_take" tkNames spTake fTake _ := ⟨ok_take FTake L.len L.int, kTake, bTake, g aTake⟩
  have cAny : Cl l.prog w K mg base CX0 1 "_law_any" [] spAny fAny _ := ⟨ok_any FAny, kAny, bAny, g aAny⟩
  have cOnce : Cl l.prog w K mg base CX0 1 "_law_once" ["_law_cells_here"] spOnceS fOnce _ := ⟨ok_once FOnce, kOnce, bOnce, g aOnce⟩
  have cAd : Cl l.prog w K mg base CX0 2 "_law_allowed" ["_law_bag_here", "_law_palette_here", "_law_sign"] spAlwd fAd _ := ⟨ok_alwd FAd L R cTake cAny cOnce, kAd, bAd, g aAd⟩
  have cCe : Cl l.prog w K mg base CX0 1 "_law_cells" ["_law_rows"] (spG K gTCells) fCe _ := ⟨ok_tcells FCe L, kCe, bCe, g aCe⟩
  have cCf : Cl l.prog w K mg base CX0 1 "_law_cells" ["_law_rows"] spCellsOf fCe _ := ⟨ok_cellsof FCe L, kCe, bCe, g aCe⟩
  have cLt : Cl l.prog w K mg base CX0 1 "_law_sketch_text" ["_law_table_here"] (spG K gLText) fLt _ := ⟨ok_lText FLt FAny bAny (g aAny), kLt, bLt, g aLt⟩
  have cLa : Cl l.prog w K mg base CX0 1 "_law_at" ["_law_table_here", "_law_cell"] (spG K gLAt) fLa _ := ⟨ok_lat FLa, kLa, bLa, g aLa⟩
  have cAr : Cl l.prog w K mg base CX0 1 "_law_at" ["_law_table_here", "_law_cell"] spAtR fLa _ := ⟨ok_atR FLa, kLa, bLa, g aLa⟩
  have cAt : Cl l.prog w K mg base CX0 1 "_law_at" ["_law_table_here", "_law_cell"] spAtT fLa _ := ⟨ok_atT FLa, kLa, bLa, g aLa⟩
  have SK : SkT l.prog w K mg base CS fTx fGi _ _ := ⟨T, ⟨aTx, iTx, kTx⟩, OTx, bTx, ⟨aGi, iGi⟩, fiGi, OGi, bGi⟩
  have cLi : Cl l.prog w K mg base CX0 5 "_law_sketch_is" ["_law_sketch", "_law_table_here"] (spG K (gSkIs CS)) fLi _ := ⟨ok_skIs FLi L (n zstr) SK cLt cCe cLa, kLi, bLi, g aLi⟩
  have cRow : Cl l.prog w K mg base CX0 2 "_law_row" ["_law_bag_here", "_law_palette_here", "_law_wide"] spRow fRow _ := ⟨ok_row FRow cTake L, kRow, bRow, g aRow⟩
  have cGrid : Cl l.prog w K mg base CX0 3 "_law_grid" ["_law_bag_here", "_law_palette_here"] spGrid fGrid _ := ⟨ok_gridW FGrid cTake cRow L, kGrid, bGrid, g aGrid⟩
  have cBig : Cl l.prog w K mg base CX0 3 "_law_big_grid" ["_law_bag_here", "_law_palette_here"] spGrid fBig _ := ⟨ok_grid FBig cTake cRow L, kBig, bBig, g aBig⟩
  have cTb : Cl l.prog w K mg base CX0 3 "_law_table" ["_law_bag_here", "_law_palette_here", "_law_rows"] spTable fTb _ := ⟨ok_table FTb cAd, kTb, bTb, g aTb⟩
  have cSl : Cl l.prog w K mg base CX0 2 "_law_stones" ["_law_rows"] spStonesL fSl _ := ⟨ok_stonesl FSl cCf, kSl, bSl, g aSl⟩
  have cRq : Cl l.prog w K mg base CX0 3 "_law_required" ["_law_table_here", "_law_rows"] spRequired fRq _ := ⟨ok_required FRq cSl cAr cAt, kRq, bRq, g aRq⟩
  have cWi : Cl l.prog w K mg base CX0 2 "_law_within" ["_law_table_here", "_law_rows"] spWithin fWi _ := ⟨ok_within FWi cCf cAr cAt, kWi, bWi, g aWi⟩
  have cII : Cl l.prog w K mg base CX0 1 "_law_is_int" ["_law_value"] spIsInt fIi _ := ⟨ok_isint FIi B, kIi, bIi, g aIi⟩
  have OIc := ok_iscell FIc FIi bIi (g aIi) (P := l.prog) (w := w) (base := base) B
  have OIz := ok_iscells FIz FIc OIc bIc (g aIc) B
  have cRi : Cl l.prog w K mg base CX0 4 "_law_region_is" ["_law_region", "_law_due"] (spRegIs K CR) fRi _ := ⟨ok_regis FRi OIz kIz bIz (g aIz) ORc ⟨aRc, iRc, kRc⟩ bRc TR, kRi, bRi, g aRi⟩
  have cAg : Cl l.prog w K mg base CX0 7 "_law_agree" ["_law_sketch", "_law_table_here", "_law_rows"] (spAgree CS) fAg _ := ⟨ok_agree FAg L (n zbool) TC (g gC) T (g gCU) teCU OPI MP bPI OFt ⟨aFt, iFt, kFt⟩ bFt cNd cWi cRq cRi, kAg, bAg, g aAg⟩
  have cTw : Cl l.prog w K mg base CX0 5 "_law_allow_two" pAllow2 (spAllow2 CS) fTw _ := ⟨ok_allow2 FTw L T OAw ⟨aAw, iAw, kAw⟩ bAw cTake cCe, kTw, bTw, g aTw⟩
  have cPt : Cl l.prog w K mg base CX0 1 "_law_put" ["_law_rows", "_law_cx", "_law_cy", "_law_sign"] spPut fPt _ := ⟨ok_put FPt, kPt, bPt, g aPt⟩
  exact ok_law FLaw L T (g gC) ⟨ok_bag FBag L, kBag, bBag, g aBag⟩ ⟨ok_pal FPal cTake L, kPal, bPal, g aPal⟩ cTake cLi cGrid cBig cTb cLt cCf cAt cPt cII cAg cRow cTw OWy ⟨aWy, iWy, kWy⟩ bWy OPI MP bPI ⟨rdCS, gaCS⟩ ORd MRd bRd OOf MOf bOf
end Pm
/-! ### the head -/
namespace Hd
open PySem PySem.Spec PyProof.Rows L2 Hm Pm
abbrev d0 : DefM := ⟨fun K => (He.ma K (He.ga K "Picture") "__init__"), "__init__", "Picture.__init__", defArgs Pm.cPictureInit, defBody Pm.cPictureInit, defScope Pm.cPictureInit, fun _ => [], []⟩
abbrev d1 : DefM := ⟨fun K => (He.ma K (He.ga K "Picture") "lines"), "lines", "Picture.lines", defArgs Pm.cPictureLines, defBody Pm.cPictureLines, defScope Pm.cPictureLines, fun _ => [], []⟩
abbrev d2 : DefM := ⟨fun K => (He.ma K (He.ga K "Picture") "contains"), "contains", "Picture.contains", defArgs Pm.cPictureContains, defBody Pm.cPictureContains, defScope Pm.cPictureContains, fun _ => [], []⟩
abbrev d3 : DefM := ⟨fun K => (He.ma K (He.ga K "Picture") "every_cell"), "every_cell", "Picture.every_cell", defArgs Pm.cPictureEveryCell, defBody Pm.cPictureEveryCell, defScope Pm.cPictureEveryCell, fun _ => [], []⟩
abbrev d4 : DefM := ⟨fun K => (He.ma K (He.ga K "Picture") "__getitem__"), "__getitem__", "Picture.__getitem__", defArgs Pm.cPictureGetitem, defBody Pm.cPictureGetitem, defScope Pm.cPictureGetitem, fun _ => [], []⟩
abbrev d5 : DefM := ⟨fun K => (He.ma K (He.ga K "Picture") "stones"), "stones", "Picture.stones", defArgs Pm.cPictureStones, defBody Pm.cPictureStones, defScope Pm.cPictureStones, fun _ => [], []⟩
abbrev d6 : DefM := ⟨fun K => (He.ma K (He.ga K "Region") "__init__"), "__init__", "Region.__init__", defArgs Pm.cRegionInit, defBody Pm.cRegionInit, defScope Pm.cRegionInit, fun _ => [], []⟩
abbrev d7 : DefM := ⟨fun K => (He.ma K (He.ga K "Region") "cells"), "cells", "Region.cells", defArgs Pm.cRegionCells, defBody Pm.cRegionCells, defScope Pm.cRegionCells, fun _ => [], []⟩
abbrev d8 : DefM := ⟨fun K => (He.ma K (He.ga K "Sketch") "__init__"), "__init__", "Sketch.__init__", defArgs Pm.cSketchInit, defBody Pm.cSketchInit, defScope Pm.cSketchInit, fun _ => [], [("_rows", .non)]⟩
abbrev d9 : DefM := ⟨fun K => (He5.wf K (He.ga K "Sketch") "classmethod" "read"), "read", "Sketch.read", defArgs Pm.cSketchRead, defBody Pm.cSketchRead, defScope Pm.cSketchRead, fun _ => [], []⟩
abbrev d10 : DefM := ⟨fun K => (He5.wf K (He.ga K "Sketch") "classmethod" "of"), "of", "Sketch.of", defArgs Pm.cSketchOf, defBody Pm.cSketchOf, defScope Pm.cSketchOf, fun _ => [], []⟩
abbrev d11 : DefM := ⟨fun K => (He.ma K (He.ga K "InvalidPicture") "__init__"), "__init__", "InvalidPicture.__init__", defArgs Pm.cInvalidPictureInit, defBody Pm.cInvalidPictureInit, defScope Pm.cInvalidPictureInit, fun _ => [], []⟩
abbrev d12 : DefM := ⟨fun K => (He.ma K (He.ga K "Sketch") "allow"), "allow", "Sketch.allow", defArgs Pm.cSketchAllow, defBody Pm.cSketchAllow, defScope Pm.cSketchAllow, fun _ => [], []⟩
abbrev d13 : DefM := ⟨fun K => (He.ma K (He.ga K "Sketch") "text"), "text", "Sketch.text", defArgs Pm.cSketchText, defBody Pm.cSketchText, defScope Pm.cSketchText, fun _ => [], []⟩
abbrev d14 : DefM := ⟨fun K => (He.ma K (He.ga K "Sketch") "_check_cell"), "_check_cell", "Sketch._check_cell", defArgs Pm.cSketchCheckCell, defBody Pm.cSketchCheckCell, defScope Pm.cSketchCheckCell, fun _ => [], []⟩
abbrev d15 : DefM := ⟨fun K => (He.ma K (He.ga K "Sketch") "__getitem__"), "__getitem__", "Sketch.__getitem__", defArgs Pm.cSketchGetitem, defBody Pm.cSketchGetitem, defScope Pm.cSketchGetitem, fun _ => [], []⟩
abbrev d16 : DefM := ⟨fun K => (He.ma K (He.ga K "Sketch") "fits"), "fits", "Sketch.fits", defArgs Pm.cSketchFits, defBody Pm.cSketchFits, defScope Pm.cSketchFits, fun _ => [], []⟩
abbrev d17 : DefM := ⟨fun K => (He.ma K (He.ga K "Sketch") "ways"), "ways", "Sketch.ways", defArgs Pm.cSketchWays, defBody Pm.cSketchWays, defScope Pm.cSketchWays, fun _ => [], []⟩
abbrev d18 : DefM := ⟨fun K => (He.ga K "is_stone"), "is_stone", "is_stone", defArgs Pm.gIsStone, defBody Pm.gIsStone, defScope Pm.gIsStone, fun _ => [], []⟩
abbrev d19 : DefM := ⟨fun K => (He.ga K "is_stone_or_hole"), "is_stone_or_hole", "is_stone_or_hole", defArgs Pm.gIsStoneOrHole, defBody Pm.gIsStoneOrHole, defScope Pm.gIsStoneOrHole, fun _ => [], []⟩
abbrev d20 : DefM := ⟨fun K => (He.ga K "are_different_signs"), "are_different_signs", "are_different_signs", defArgs Pm.gAreDifferentSigns, defBody Pm.gAreDifferentSigns, defScope Pm.gAreDifferentSigns, fun _ => [], []⟩
abbrev d21 : DefM := ⟨fun K => (He.ga K "in_ascii_order"), "in_ascii_order", "in_ascii_order", defArgs Pm.gInAsciiOrder, defBody Pm.gInAsciiOrder, defScope Pm.gInAsciiOrder, fun _ => [], []⟩
abbrev d22 : DefM := ⟨fun K => (He.ga K "_are_allowed_signs"), "_are_allowed_signs", "_are_allowed_signs", defArgs Pm.gAreAllowedSigns, defBody Pm.gAreAllowedSigns, defScope Pm.gAreAllowedSigns, fun _ => [], []⟩
abbrev d23 : DefM := ⟨fun K => (He.ga K "_read_word"), "_read_word", "_read_word", defArgs Pm.gReadWord, defBody Pm.gReadWord, defScope Pm.gReadWord, fun _ => [], []⟩
abbrev d24 : DefM := ⟨fun K => (He.ga K "_check_sizes"), "_check_sizes", "_check_sizes", defArgs Pm.gCheckSizes, defBody Pm.gCheckSizes, defScope Pm.gCheckSizes, fun _ => [], []⟩
abbrev d25 : DefM := ⟨fun K => (He.ga K "required_cells"), "required_cells", "required_cells", defArgs Pm.gRequiredCells, defBody Pm.gRequiredCells, defScope Pm.gRequiredCells, fun _ => [], []⟩
abbrev d26 : DefM := ⟨fun K => (He.ga K "is_bad_row_pictures"), "_is_bad_row", "_is_bad_row", defArgs Pm.gIsBadRow, defBody Pm.gIsBadRow, defScope Pm.gIsBadRow, fun _ => [], []⟩
abbrev d27 : DefM := ⟨fun K => (He.ga K "bad_line_pictures"), "_bad_line", "_bad_line", defArgs Pm.gBadLine, defBody Pm.gBadLine, defScope Pm.gBadLine, fun _ => [], []⟩
abbrev d28 : DefM := ⟨fun K => (He.ga K "is_bad_row_sketches"), "_is_bad_row", "_is_bad_row", defArgs Pm.gIsBadRowSketches, defBody Pm.gIsBadRowSketches, defScope Pm.gIsBadRowSketches, fun _ => [], []⟩
abbrev d29 : DefM := ⟨fun K => (He.ga K "bad_line_sketches"), "_bad_line", "_bad_line", defArgs Pm.gBadLineSketches, defBody Pm.gBadLineSketches, defScope Pm.gBadLineSketches, fun _ => [], []⟩
abbrev d30 : DefM := ⟨fun K => (He.ga K "_law_bag"), "_law_bag", "_law_bag", defArgs Pm.lBag, defBody Pm.lBag, defScope Pm.lBag, fun _ => [], []⟩
abbrev d31 : DefM := ⟨fun K => (He.ga K "_law_take"), "_law_take", "_law_take", defArgs Pm.lTake, defBody Pm.lTake, defScope Pm.lTake, fun _ => [], []⟩
abbrev d32 : DefM := ⟨fun K => (He.ga K "_law_is_int"), "_law_is_int", "_law_is_int", defArgs Pm.lIsInt, defBody Pm.lIsInt, defScope Pm.lIsInt, fun _ => [], []⟩
abbrev d33 : DefM := ⟨fun K => (He.ga K "_law_is_cell"), "_law_is_cell", "_law_is_cell", defArgs Pm.lIsCell, defBody Pm.lIsCell, defScope Pm.lIsCell, fun _ => [], []⟩
abbrev d34 : DefM := ⟨fun K => (He.ga K "_law_is_cells"), "_law_is_cells", "_law_is_cells", defArgs Pm.lIsCells, defBody Pm.lIsCells, defScope Pm.lIsCells, fun _ => [], []⟩
abbrev d35 : DefM := ⟨fun K => (He.ga K "_law_once"), "_law_once", "_law_once", defArgs Pm.lOnce, defBody Pm.lOnce, defScope Pm.lOnce, fun _ => [], []⟩
abbrev d36 : DefM := ⟨fun K => (He.ga K "_law_palette"), "_law_palette", "_law_palette", defArgs Pm.lPalette, defBody Pm.lPalette, defScope Pm.lPalette, fun _ => [], []⟩
abbrev d37 : DefM := ⟨fun K => (He.ga K "_law_row"), "_law_row", "_law_row", defArgs Pm.lRow, defBody Pm.lRow, defScope Pm.lRow, fun _ => [], []⟩
abbrev d38 : DefM := ⟨fun K => (He.ga K "_law_grid"), "_law_grid", "_law_grid", defArgs Pm.lGrid, defBody Pm.lGrid, defScope Pm.lGrid, fun _ => [], []⟩
abbrev d39 : DefM := ⟨fun K => (He.ga K "_law_big_grid"), "_law_big_grid", "_law_big_grid", defArgs Pm.lBigGrid, defBody Pm.lBigGrid, defScope Pm.lBigGrid, fun _ => [], []⟩
abbrev d40 : DefM := ⟨fun K => (He.ga K "_law_cells"), "_law_cells", "_law_cells", defArgs Pm.lCells, defBody Pm.lCells, defScope Pm.lCells, fun _ => [], []⟩
abbrev d41 : DefM := ⟨fun K => (He.ga K "_law_stones"), "_law_stones", "_law_stones", defArgs Pm.lStones, defBody Pm.lStones, defScope Pm.lStones, fun _ => [], []⟩
abbrev d42 : DefM := ⟨fun K => (He.ga K "_law_put"), "_law_put", "_law_put", defArgs Pm.lPut, defBody Pm.lPut, defScope Pm.lPut, fun _ => [], []⟩
abbrev d43 : DefM := ⟨fun K => (He.ga K "_law_region_is"), "_law_region_is", "_law_region_is", defArgs Pm.lRegionIs, defBody Pm.lRegionIs, defScope Pm.lRegionIs, fun _ => [], []⟩
abbrev d44 : DefM := ⟨fun K => (He.ga K "_law_allowed"), "_law_allowed", "_law_allowed", defArgs Pm.lAllowed, defBody Pm.lAllowed, defScope Pm.lAllowed, fun _ => [], []⟩
abbrev d45 : DefM := ⟨fun K => (He.ga K "_law_table"), "_law_table", "_law_table", defArgs Pm.lTable, defBody Pm.lTable, defScope Pm.lTable, fun _ => [], []⟩
abbrev d46 : DefM := ⟨fun K => (He.ga K "_law_sketch_text"), "_law_sketch_text", "_law_sketch_text", defArgs Pm.lSketchText, defBody Pm.lSketchText, defScope Pm.lSketchText, fun _ => [], []⟩
abbrev d47 : DefM := ⟨fun K => (He.ga K "_law_at"), "_law_at", "_law_at", defArgs Pm.lAt, defBody Pm.lAt, defScope Pm.lAt, fun _ => [], []⟩
abbrev d48 : DefM := ⟨fun K => (He.ga K "_law_required"), "_law_required", "_law_required", defArgs Pm.lRequired, defBody Pm.lRequired, defScope Pm.lRequired, fun _ => [], []⟩
abbrev d49 : DefM := ⟨fun K => (He.ga K "_law_within"), "_law_within", "_law_within", defArgs Pm.lWithin, defBody Pm.lWithin, defScope Pm.lWithin, fun _ => [], []⟩
abbrev d50 : DefM := ⟨fun K => (He.ga K "_law_sketch_is"), "_law_sketch_is", "_law_sketch_is", defArgs Pm.lSketchIs, defBody Pm.lSketchIs, defScope Pm.lSketchIs, fun _ => [], []⟩
abbrev d51 : DefM := ⟨fun K => (He.ga K "_law_agree"), "_law_agree", "_law_agree", defArgs Pm.lAgree, defBody Pm.lAgree, defScope Pm.lAgree, fun _ => [], []⟩
abbrev d52 : DefM := ⟨fun K => (He.ga K "_law_allow_two"), "_law_allow_two", "_law_allow_two", defArgs Pm.lAllowTwo, defBody Pm.lAllowTwo, defScope Pm.lAllowTwo, fun _ => [], []⟩
abbrev d53 : DefM := ⟨fun K => (He.ga K "law"), "law", "law", defArgs Pm.lLaw, defBody Pm.lLaw, defScope Pm.lLaw, fun _ => [], []⟩
abbrev d54 : DefM := ⟨fun K => (He.ga K "_law_any"), "_law_any", "_law_any", defArgs Pm.lAny, defBody Pm.lAny, defScope Pm.lAny, fun _ => [], []⟩
def fns0 : List DefM := [d0, d1, d2, d3, d4, d5, d6, d7, d8, d9, d10, d11, d12, d13, d14, d15, d16, d17, d18, d19]
def fns1 : List DefM := [d20, d21, d22, d23, d24, d25, d26, d27, d28, d29, d30, d31, d32, d33, d34, d35, d36, d37, d38, d39]
def fns2 : List DefM := [d40, d41, d42, d43, d44, d45, d46, d47, d48, d49, d50, d51, d52, d53, d54]
def fns : List DefM := fns0 ++ fns1 ++ fns2
def x0 (K : Fr) : Bool := decide (PySem.W.specialIn K (.builtin "object.__class__") "__get__" = some (some (.builtin "getset_descriptor.__get__"))) && (decide (PySem.W.takesIn K (.builtin "object.__class__") = some true) && (decide (PySem.W.nsIn K mainGlobals "Picture" = some (some (.ref (He.ga K "Picture")))) && (decide (PySem.W.plainGet K (He.ga K "Picture") Str.empty = true) && (decide (PySem.W.hasDictIn K (He.ga K "Picture") = true) && (decide (PySem.W.plainOver K (He.ga K "Picture") = true) && (decide (PySem.W.findIn K (.ref (He.ga K "Picture")) "__setattr__" = some (some (.builtin "object.__setattr__"))) && (decide (PySem.W.makesIn K (He.ga K "Picture") = true) && (decide (PySem.W.keepIn K (.ref (He.ga K "Picture")) = true) && (decide (PySem.W.findIn K (.ref (He.ga K "Picture")) "_rows" = some none) && (true))))))))))
theorem x0_ok {K : Fr} (h : x0 K = true) : PySem.W.specialIn K (.builtin "object.__class__") "__get__" = some (some (.builtin "getset_descriptor.__get__")) ∧ PySem.W.takesIn K (.builtin "object.__class__") = some true ∧ PySem.W.nsIn K mainGlobals "Picture" = some (some (.ref (He.ga K "Picture"))) ∧ PySem.W.plainGet K (He.ga K "Picture") Str.empty = true ∧ PySem.W.hasDictIn K (He.ga K "Picture") = true ∧ PySem.W.plainOver K (He.ga K "Picture") = true ∧ PySem.W.findIn K (.ref (He.ga K "Picture")) "__setattr__" = some (some (.builtin "object.__setattr__")) ∧ PySem.W.makesIn K (He.ga K "Picture") = true ∧ PySem.W.keepIn K (.ref (He.ga K "Picture")) = true ∧ PySem.W.findIn K (.ref (He.ga K "Picture")) "_rows" = some none ∧ True := by
  obtain ⟨h0, h⟩ := He.ba h
  obtain ⟨h1, h⟩ := He.ba h
  obtain ⟨h2, h⟩ := He.ba h
  obtain ⟨h3, h⟩ := He.ba h
  obtain ⟨h4, h⟩ := He.ba h
  obtain ⟨h5, h⟩ := He.ba h
  obtain ⟨h6, h⟩ := He.ba h
  obtain ⟨h7, h⟩ := He.ba h
  obtain ⟨h8, h⟩ := He.ba h
  obtain ⟨h9, h⟩ := He.ba h
  exact ⟨of_decide_eq_true h0, of_decide_eq_true h1, of_decide_eq_true h2, of_decide_eq_true h3, of_decide_eq_true h4, of_decide_eq_true h5, of_decide_eq_true h6, of_decide_eq_true h7, of_decide_eq_true h8, of_decide_eq_true h9, trivial⟩
def x1 (K : Fr) : Bool := decide (PySem.W.findIn K (.ref (He.ga K "Picture")) "width" = some none) && (decide (PySem.W.findIn K (.ref (He.ga K "Picture")) "height" = some none) && (decide (PySem.W.readsIn K (He.ga K "Picture") (.type "type") = true) && (decide (PySem.W.specialIn K (.ref (He.ga K "Picture")) "__getattribute__" = some (some (.builtin "type.__getattribute__"))) && (decide (PySem.W.findIn K (.ref (He.ga K "Picture")) "__init__" = some (some (.ref (He.ma K (He.ga K "Picture") "__init__")))) && (decide (PySem.W.isFn K (.ref (He.ma K (He.ga K "Picture") "__init__")) = true) && (decide (PySem.W.keepIn K (.ref (He.ma K (He.ga K "Picture") "__init__")) = true) && (decide (PySem.W.findIn K (.ref (He.ga K "Picture")) "lines" = some (some (.ref (He.ma K (He.ga K "Picture") "lines")))) && (decide (PySem.W.isFn K (.ref (He.ma K (He.ga K "Picture") "lines")) = true) && (decide (PySem.W.keepIn K (.ref (He.ma K (He.ga K "Picture") "lines")) = true) && (true))))))))))
theorem x1_ok {K : Fr} (h : x1 K = true) : PySem.W.findIn K (.ref (He.ga K "Picture")) "width" = some none ∧ PySem.W.findIn K (.ref (He.ga K "Picture")) "height" = some none ∧ PySem.W.readsIn K (He.ga K "Picture") (.type "type") = true ∧ PySem.W.specialIn K (.ref (He.ga K "Picture")) "__getattribute__" = some (some (.builtin "type.__getattribute__")) ∧ PySem.W.findIn K (.ref (He.ga K "Picture")) "__init__" = some (some (.ref (He.ma K (He.ga K "Picture") "__init__"))) ∧ PySem.W.isFn K (.ref (He.ma K (He.ga K "Picture") "__init__")) = true ∧ PySem.W.keepIn K (.ref (He.ma K (He.ga K "Picture") "__init__")) = true ∧ PySem.W.findIn K (.ref (He.ga K "Picture")) "lines" = some (some (.ref (He.ma K (He.ga K "Picture") "lines"))) ∧ PySem.W.isFn K (.ref (He.ma K (He.ga K "Picture") "lines")) = true ∧ PySem.W.keepIn K (.ref (He.ma K (He.ga K "Picture") "lines")) = true ∧ True := by
  obtain ⟨h0, h⟩ := He.ba h
  obtain ⟨h1, h⟩ := He.ba h
  obtain ⟨h2, h⟩ := He.ba h
  obtain ⟨h3, h⟩ := He.ba h
  obtain ⟨h4, h⟩ := He.ba h
  obtain ⟨h5, h⟩ := He.ba h
  obtain ⟨h6, h⟩ := He.ba h
  obtain ⟨h7, h⟩ := He.ba h
  obtain ⟨h8, h⟩ := He.ba h
  obtain ⟨h9, h⟩ := He.ba h
  exact ⟨of_decide_eq_true h0, of_decide_eq_true h1, of_decide_eq_true h2, of_decide_eq_true h3, of_decide_eq_true h4, of_decide_eq_true h5, of_decide_eq_true h6, of_decide_eq_true h7, of_decide_eq_true h8, of_decide_eq_true h9, trivial⟩
def x2 (K : Fr) : Bool := decide (PySem.W.findIn K (.ref (He.ga K "Picture")) "contains" = some (some (.ref (He.ma K (He.ga K "Picture") "contains")))) && (decide (PySem.W.isFn K (.ref (He.ma K (He.ga K "Picture") "contains")) = true) && (decide (PySem.W.keepIn K (.ref (He.ma K (He.ga K "Picture") "contains")) = true) && (decide (PySem.W.findIn K (.ref (He.ga K "Picture")) "every_cell" = some (some (.ref (He.ma K (He.ga K "Picture") "every_cell")))) && (decide (PySem.W.isFn K (.ref (He.ma K (He.ga K "Picture") "every_cell")) = true) && (decide (PySem.W.keepIn K (.ref (He.ma K (He.ga K "Picture") "every_cell")) = true) && (decide (PySem.W.findIn K (.ref (He.ga K "Picture")) "__getitem__" = some (some (.ref (He.ma K (He.ga K "Picture") "__getitem__")))) && (decide (PySem.W.isFn K (.ref (He.ma K (He.ga K "Picture") "__getitem__")) = true) && (decide (PySem.W.keepIn K (.ref (He.ma K (He.ga K "Picture") "__getitem__")) = true) && (decide (PySem.W.fnIn K (He.ma K (He.ga K "Picture") "__getitem__") = true) && (true))))))))))
theorem x2_ok {K : Fr} (h : x2 K = true) : PySem.W.findIn K (.ref (He.ga K "Picture")) "contains" = some (some (.ref (He.ma K (He.ga K "Picture") "contains"))) ∧ PySem.W.isFn K (.ref (He.ma K (He.ga K "Picture") "contains")) = true ∧ PySem.W.keepIn K (.ref (He.ma K (He.ga K "Picture") "contains")) = true ∧ PySem.W.findIn K (.ref (He.ga K "Picture")) "every_cell" = some (some (.ref (He.ma K (He.ga K "Picture") "every_cell"))) ∧ PySem.W.isFn K (.ref (He.ma K (He.ga K "Picture") "every_cell")) = true ∧ PySem.W.keepIn K (.ref (He.ma K (He.ga K "Picture") "every_cell")) = true ∧ PySem.W.findIn K (.ref (He.ga K "Picture")) "__getitem__" = some (some (.ref (He.ma K (He.ga K "Picture") "__getitem__"))) ∧ PySem.W.isFn K (.ref (He.ma K (He.ga K "Picture") "__getitem__")) = true ∧ PySem.W.keepIn K (.ref (He.ma K (He.ga K "Picture") "__getitem__")) = true ∧ PySem.W.fnIn K (He.ma K (He.ga K "Picture") "__getitem__") = true ∧ True := by
  obtain ⟨h0, h⟩ := He.ba h
  obtain ⟨h1, h⟩ := He.ba h
  obtain ⟨h2, h⟩ := He.ba h
  obtain ⟨h3, h⟩ := He.ba h
  obtain ⟨h4, h⟩ := He.ba h
  obtain ⟨h5, h⟩ := He.ba h
  obtain ⟨h6, h⟩ := He.ba h
  obtain ⟨h7, h⟩ := He.ba h
  obtain ⟨h8, h⟩ := He.ba h
  obtain ⟨h9, h⟩ := He.ba h
  exact ⟨of_decide_eq_true h0, of_decide_eq_true h1, of_decide_eq_true h2, of_decide_eq_true h3, of_decide_eq_true h4, of_decide_eq_true h5, of_decide_eq_true h6, of_decide_eq_true h7, of_decide_eq_true h8, of_decide_eq_true h9, trivial⟩
def x3 (K : Fr) : Bool := decide (PySem.W.findIn K (.ref (He.ga K "Picture")) "stones" = some (some (.ref (He.ma K (He.ga K "Picture") "stones")))) && (decide (PySem.W.isFn K (.ref (He.ma K (He.ga K "Picture") "stones")) = true) && (decide (PySem.W.keepIn K (.ref (He.ma K (He.ga K "Picture") "stones")) = true) && (decide (PySem.W.nsIn K mainGlobals "Region" = some (some (.ref (He.ga K "Region")))) && (decide (PySem.W.plainGet K (He.ga K "Region") Str.empty = true) && (decide (PySem.W.hasDictIn K (He.ga K "Region") = true) && (decide (PySem.W.plainOver K (He.ga K "Region") = true) && (decide (PySem.W.findIn K (.ref (He.ga K "Region")) "__setattr__" = some (some (.builtin "object.__setattr__"))) && (decide (PySem.W.makesIn K (He.ga K "Region") = true) && (decide (PySem.W.keepIn K (.ref (He.ga K "Region")) = true) && (true))))))))))
theorem x3_ok {K : Fr} (h : x3 K = true) : PySem.W.findIn K (.ref (He.ga K "Picture")) "stones" = some (some (.ref (He.ma K (He.ga K "Picture") "stones"))) ∧ PySem.W.isFn K (.ref (He.ma K (He.ga K "Picture") "stones")) = true ∧ PySem.W.keepIn K (.ref (He.ma K (He.ga K "Picture") "stones")) = true ∧ PySem.W.nsIn K mainGlobals "Region" = some (some (.ref (He.ga K "Region"))) ∧ PySem.W.plainGet K (He.ga K "Region") Str.empty = true ∧ PySem.W.hasDictIn K (He.ga K "Region") = true ∧ PySem.W.plainOver K (He.ga K "Region") = true ∧ PySem.W.findIn K (.ref (He.ga K "Region")) "__setattr__" = some (some (.builtin "object.__setattr__")) ∧ PySem.W.makesIn K (He.ga K "Region") = true ∧ PySem.W.keepIn K (.ref (He.ga K "Region")) = true ∧ True := by
  obtain ⟨h0, h⟩ := He.ba h
  obtain ⟨h1, h⟩ := He.ba h
  obtain ⟨h2, h⟩ := He.ba h
  obtain ⟨h3, h⟩ := He.ba h
  obtain ⟨h4, h⟩ := He.ba h
  obtain ⟨h5, h⟩ := He.ba h
  obtain ⟨h6, h⟩ := He.ba h
  obtain ⟨h7, h⟩ := He.ba h
  obtain ⟨h8, h⟩ := He.ba h
  obtain ⟨h9, h⟩ := He.ba h
  exact ⟨of_decide_eq_true h0, of_decide_eq_true h1, of_decide_eq_true h2, of_decide_eq_true h3, of_decide_eq_true h4, of_decide_eq_true h5, of_decide_eq_true h6, of_decide_eq_true h7, of_decide_eq_true h8, of_decide_eq_true h9, trivial⟩
def x4 (K : Fr) : Bool := decide (PySem.W.findIn K (.ref (He.ga K "Region")) "_members" = some none) && (decide (PySem.W.findIn K (.ref (He.ga K "Region")) "__class__" = some (some (.builtin "object.__class__"))) && (decide (PySem.W.mroIn K (He.ga K "Region") (.type "object") = some true) && (decide (PySem.W.findIn K (.ref (He.ga K "Region")) "__init__" = some (some (.ref (He.ma K (He.ga K "Region") "__init__")))) && (decide (PySem.W.isFn K (.ref (He.ma K (He.ga K "Region") "__init__")) = true) && (decide (PySem.W.keepIn K (.ref (He.ma K (He.ga K "Region") "__init__")) = true) && (decide (PySem.W.findIn K (.ref (He.ga K "Region")) "cells" = some (some (.ref (He.ma K (He.ga K "Region") "cells")))) && (decide (PySem.W.isFn K (.ref (He.ma K (He.ga K "Region") "cells")) = true) && (decide (PySem.W.keepIn K (.ref (He.ma K (He.ga K "Region") "cells")) = true) && (decide (PySem.W.nsIn K mainGlobals "Sketch" = some (some (.ref (He.ga K "Sketch")))) && (true))))))))))
theorem x4_ok {K : Fr} (h : x4 K = true) : PySem.W.findIn K (.ref (He.ga K "Region")) "_members" = some none ∧ PySem.W.findIn K (.ref (He.ga K "Region")) "__class__" = some (some (.builtin "object.__class__")) ∧ PySem.W.mroIn K (He.ga K "Region") (.type "object") = some true ∧ PySem.W.findIn K (.ref (He.ga K "Region")) "__init__" = some (some (.ref (He.ma K (He.ga K "Region") "__init__"))) ∧ PySem.W.isFn K (.ref (He.ma K (He.ga K "Region") "__init__")) = true ∧ PySem.W.keepIn K (.ref (He.ma K (He.ga K "Region") "__init__")) = true ∧ PySem.W.findIn K (.ref (He.ga K "Region")) "cells" = some (some (.ref (He.ma K (He.ga K "Region") "cells"))) ∧ PySem.W.isFn K (.ref (He.ma K (He.ga K "Region") "cells")) = true ∧ PySem.W.keepIn K (.ref (He.ma K (He.ga K "Region") "cells")) = true ∧ PySem.W.nsIn K mainGlobals "Sketch" = some (some (.ref (He.ga K "Sketch"))) ∧ True := by
  obtain ⟨h0, h⟩ := He.ba h
  obtain ⟨h1, h⟩ := He.ba h
  obtain ⟨h2, h⟩ := He.ba h
  obtain ⟨h3, h⟩ := He.ba h
  obtain ⟨h4, h⟩ := He.ba h
  obtain ⟨h5, h⟩ := He.ba h
  obtain ⟨h6, h⟩ := He.ba h
  obtain ⟨h7, h⟩ := He.ba h
  obtain ⟨h8, h⟩ := He.ba h
  obtain ⟨h9, h⟩ := He.ba h
  exact ⟨of_decide_eq_true h0, of_decide_eq_true h1, of_decide_eq_true h2, of_decide_eq_true h3, of_decide_eq_true h4, of_decide_eq_true h5, of_decide_eq_true h6, of_decide_eq_true h7, of_decide_eq_true h8, of_decide_eq_true h9, trivial⟩
def x5 (K : Fr) : Bool := decide (PySem.W.typeIn K (.ref (He.ga K "Sketch")) = some (.type "type")) && (decide (PySem.W.plainGet K (He.ga K "Sketch") Str.empty = true) && (decide (PySem.W.hasDictIn K (He.ga K "Sketch") = true) && (decide (PySem.W.plainOver K (He.ga K "Sketch") = true) && (decide (PySem.W.findIn K (.ref (He.ga K "Sketch")) "__setattr__" = some (some (.builtin "object.__setattr__"))) && (decide (PySem.W.makesIn K (He.ga K "Sketch") = true) && (decide (PySem.W.keepIn K (.ref (He.ga K "Sketch")) = true) && (decide (PySem.W.findIn K (.ref (He.ga K "Sketch")) "width" = some none) && (decide (PySem.W.findIn K (.ref (He.ga K "Sketch")) "height" = some none) && (decide (PySem.W.findIn K (.ref (He.ga K "Sketch")) "_rows" = some none) && (true))))))))))
theorem x5_ok {K : Fr} (h : x5 K = true) : PySem.W.typeIn K (.ref (He.ga K "Sketch")) = some (.type "type") ∧ PySem.W.plainGet K (He.ga K "Sketch") Str.empty = true ∧ PySem.W.hasDictIn K (He.ga K "Sketch") = true ∧ PySem.W.plainOver K (He.ga K "Sketch") = true ∧ PySem.W.findIn K (.ref (He.ga K "Sketch")) "__setattr__" = some (some (.builtin "object.__setattr__")) ∧ PySem.W.makesIn K (He.ga K "Sketch") = true ∧ PySem.W.keepIn K (.ref (He.ga K "Sketch")) = true ∧ PySem.W.findIn K (.ref (He.ga K "Sketch")) "width" = some none ∧ PySem.W.findIn K (.ref (He.ga K "Sketch")) "height" = some none ∧ PySem.W.findIn K (.ref (He.ga K "Sketch")) "_rows" = some none ∧ True := by
  obtain ⟨h0, h⟩ := He.ba h
  obtain ⟨h1, h⟩ := He.ba h
  obtain ⟨h2, h⟩ := He.ba h
  obtain ⟨h3, h⟩ := He.ba h
  obtain ⟨h4, h⟩ := He.ba h
  obtain ⟨h5, h⟩ := He.ba h
  obtain ⟨h6, h⟩ := He.ba h
  obtain ⟨h7, h⟩ := He.ba h
  obtain ⟨h8, h⟩ := He.ba h
  obtain ⟨h9, h⟩ := He.ba h
  exact ⟨of_decide_eq_true h0, of_decide_eq_true h1, of_decide_eq_true h2, of_decide_eq_true h3, of_decide_eq_true h4, of_decide_eq_true h5, of_decide_eq_true h6, of_decide_eq_true h7, of_decide_eq_true h8, of_decide_eq_true h9, trivial⟩
def x6 (K : Fr) : Bool := decide (PySem.W.readsIn K (He.ga K "Sketch") (.type "type") = true) && (decide (PySem.W.specialIn K (.ref (He.ga K "Sketch")) "__getattribute__" = some (some (.builtin "type.__getattribute__"))) && (decide (PySem.W.findIn K (.ref (He.ga K "Sketch")) "__init__" = some (some (.ref (He.ma K (He.ga K "Sketch") "__init__")))) && (decide (PySem.W.isFn K (.ref (He.ma K (He.ga K "Sketch") "__init__")) = true) && (decide (PySem.W.keepIn K (.ref (He.ma K (He.ga K "Sketch") "__init__")) = true) && (decide (PySem.W.fnIn K (He5.wf K (He.ga K "Sketch") "classmethod" "read") = true) && (decide (PySem.W.keepIn K (.ref (He5.wf K (He.ga K "Sketch") "classmethod" "read")) = true) && (decide (PySem.W.fnIn K (He5.wf K (He.ga K "Sketch") "classmethod" "of") = true) && (decide (PySem.W.keepIn K (.ref (He5.wf K (He.ga K "Sketch") "classmethod" "of")) = true) && (decide (PySem.W.nsIn K mainGlobals "InvalidPicture" = some (some (.ref (He.ga K "InvalidPicture")))) && (true))))))))))
theorem x6_ok {K : Fr} (h : x6 K = true) : PySem.W.readsIn K (He.ga K "Sketch") (.type "type") = true ∧ PySem.W.specialIn K (.ref (He.ga K "Sketch")) "__getattribute__" = some (some (.builtin "type.__getattribute__")) ∧ PySem.W.findIn K (.ref (He.ga K "Sketch")) "__init__" = some (some (.ref (He.ma K (He.ga K "Sketch") "__init__"))) ∧ PySem.W.isFn K (.ref (He.ma K (He.ga K "Sketch") "__init__")) = true ∧ PySem.W.keepIn K (.ref (He.ma K (He.ga K "Sketch") "__init__")) = true ∧ PySem.W.fnIn K (He5.wf K (He.ga K "Sketch") "classmethod" "read") = true ∧ PySem.W.keepIn K (.ref (He5.wf K (He.ga K "Sketch") "classmethod" "read")) = true ∧ PySem.W.fnIn K (He5.wf K (He.ga K "Sketch") "classmethod" "of") = true ∧ PySem.W.keepIn K (.ref (He5.wf K (He.ga K "Sketch") "classmethod" "of")) = true ∧ PySem.W.nsIn K mainGlobals "InvalidPicture" = some (some (.ref (He.ga K "InvalidPicture"))) ∧ True := by
  obtain ⟨h0, h⟩ := He.ba h
  obtain ⟨h1, h⟩ := He.ba h
  obtain ⟨h2, h⟩ := He.ba h
  obtain ⟨h3, h⟩ := He.ba h
  obtain ⟨h4, h⟩ := He.ba h
  obtain ⟨h5, h⟩ := He.ba h
  obtain ⟨h6, h⟩ := He.ba h
  obtain ⟨h7, h⟩ := He.ba h
  obtain ⟨h8, h⟩ := He.ba h
  obtain ⟨h9, h⟩ := He.ba h
  exact ⟨of_decide_eq_true h0, of_decide_eq_true h1, of_decide_eq_true h2, of_decide_eq_true h3, of_decide_eq_true h4, of_decide_eq_true h5, of_decide_eq_true h6, of_decide_eq_true h7, of_decide_eq_true h8, of_decide_eq_true h9, trivial⟩
def x7 (K : Fr) : Bool := decide (PySem.W.findIn K (.ref (He.ga K "InvalidPicture")) "__init__" = some (some (.ref (He.ma K (He.ga K "InvalidPicture") "__init__")))) && (decide (PySem.W.typeIn K (.ref (He.ma K (He.ga K "InvalidPicture") "__init__")) = some (.type "function")) && (decide (PySem.W.keepIn K (.ref (He.ma K (He.ga K "InvalidPicture") "__init__")) = true) && (decide (PySem.W.typeIn K (.ref (He.ga K "InvalidPicture")) = some (.type "type")) && (decide (PySem.W.findIn K (.ref (He.ga K "InvalidPicture")) "__getattribute__" = some (some (.builtin "BaseException.__getattribute__"))) && (decide (PySem.W.findIn K (.ref (He.ga K "InvalidPicture")) "__getattr__" = some none) && (decide (PySem.W.subIn K (.ref (He.ga K "InvalidPicture")) (.type "BaseException") = some true) && (decide (PySem.W.subIn K (.ref (He.ga K "InvalidPicture")) (.ref (He.ga K "InvalidPicture")) = some true) && (decide (PySem.W.isClsIn K (He.ga K "InvalidPicture") = true) && (decide (PySem.W.findIn K (.ref (He.ga K "InvalidPicture")) "__class__" = some (some (.builtin "object.__class__"))) && (true))))))))))
theorem x7_ok {K : Fr} (h : x7 K = true) : PySem.W.findIn K (.ref (He.ga K "InvalidPicture")) "__init__" = some (some (.ref (He.ma K (He.ga K "InvalidPicture") "__init__"))) ∧ PySem.W.typeIn K (.ref (He.ma K (He.ga K "InvalidPicture") "__init__")) = some (.type "function") ∧ PySem.W.keepIn K (.ref (He.ma K (He.ga K "InvalidPicture") "__init__")) = true ∧ PySem.W.typeIn K (.ref (He.ga K "InvalidPicture")) = some (.type "type") ∧ PySem.W.findIn K (.ref (He.ga K "InvalidPicture")) "__getattribute__" = some (some (.builtin "BaseException.__getattribute__")) ∧ PySem.W.findIn K (.ref (He.ga K "InvalidPicture")) "__getattr__" = some none ∧ PySem.W.subIn K (.ref (He.ga K "InvalidPicture")) (.type "BaseException") = some true ∧ PySem.W.subIn K (.ref (He.ga K "InvalidPicture")) (.ref (He.ga K "InvalidPicture")) = some true ∧ PySem.W.isClsIn K (He.ga K "InvalidPicture") = true ∧ PySem.W.findIn K (.ref (He.ga K "InvalidPicture")) "__class__" = some (some (.builtin "object.__class__")) ∧ True := by
  obtain ⟨h0, h⟩ := He.ba h
  obtain ⟨h1, h⟩ := He.ba h
  obtain ⟨h2, h⟩ := He.ba h
  obtain ⟨h3, h⟩ := He.ba h
  obtain ⟨h4, h⟩ := He.ba h
  obtain ⟨h5, h⟩ := He.ba h
  obtain ⟨h6, h⟩ := He.ba h
  obtain ⟨h7, h⟩ := He.ba h
  obtain ⟨h8, h⟩ := He.ba h
  obtain ⟨h9, h⟩ := He.ba h
  exact ⟨of_decide_eq_true h0, of_decide_eq_true h1, of_decide_eq_true h2, of_decide_eq_true h3, of_decide_eq_true h4, of_decide_eq_true h5, of_decide_eq_true h6, of_decide_eq_true h7, of_decide_eq_true h8, of_decide_eq_true h9, trivial⟩
def x8 (K : Fr) : Bool := decide (PySem.W.mroIn K (He.ga K "InvalidPicture") (.type "object") = some true) && (decide (PySem.W.hasDictIn K (He.ga K "InvalidPicture") = true) && (decide (PySem.W.keepIn K (.ref (He.ga K "InvalidPicture")) = true) && (decide (PySem.W.findIn K (.ref (He.ga K "InvalidPicture")) "line" = some none) && (decide (PySem.W.findIn K (.ref (He.ga K "InvalidPicture")) "__setattr__" = some (some (.builtin "object.__setattr__"))) && (decide (PySem.W.nsIn K mainGlobals "UnequalSize" = some (some (.ref (He.ga K "UnequalSize")))) && (decide (PySem.W.typeIn K (.ref (He.ga K "UnequalSize")) = some (.type "type")) && (decide (PySem.W.findIn K (.ref (He.ga K "UnequalSize")) "__getattribute__" = some (some (.builtin "BaseException.__getattribute__"))) && (decide (PySem.W.findIn K (.ref (He.ga K "UnequalSize")) "__getattr__" = some none) && (decide (PySem.W.subIn K (.ref (He.ga K "UnequalSize")) (.type "BaseException") = some true) && (true))))))))))
theorem x8_ok {K : Fr} (h : x8 K = true) : PySem.W.mroIn K (He.ga K "InvalidPicture") (.type "object") = some true ∧ PySem.W.hasDictIn K (He.ga K "InvalidPicture") = true ∧ PySem.W.keepIn K (.ref (He.ga K "InvalidPicture")) = true ∧ PySem.W.findIn K (.ref (He.ga K "InvalidPicture")) "line" = some none ∧ PySem.W.findIn K (.ref (He.ga K "InvalidPicture")) "__setattr__" = some (some (.builtin "object.__setattr__")) ∧ PySem.W.nsIn K mainGlobals "UnequalSize" = some (some (.ref (He.ga K "UnequalSize"))) ∧ PySem.W.typeIn K (.ref (He.ga K "UnequalSize")) = some (.type "type") ∧ PySem.W.findIn K (.ref (He.ga K "UnequalSize")) "__getattribute__" = some (some (.builtin "BaseException.__getattribute__")) ∧ PySem.W.findIn K (.ref (He.ga K "UnequalSize")) "__getattr__" = some none ∧ PySem.W.subIn K (.ref (He.ga K "UnequalSize")) (.type "BaseException") = some true ∧ True := by
  obtain ⟨h0, h⟩ := He.ba h
  obtain ⟨h1, h⟩ := He.ba h
  obtain ⟨h2, h⟩ := He.ba h
  obtain ⟨h3, h⟩ := He.ba h
  obtain ⟨h4, h⟩ := He.ba h
  obtain ⟨h5, h⟩ := He.ba h
  obtain ⟨h6, h⟩ := He.ba h
  obtain ⟨h7, h⟩ := He.ba h
  obtain ⟨h8, h⟩ := He.ba h
  obtain ⟨h9, h⟩ := He.ba h
  exact ⟨of_decide_eq_true h0, of_decide_eq_true h1, of_decide_eq_true h2, of_decide_eq_true h3, of_decide_eq_true h4, of_decide_eq_true h5, of_decide_eq_true h6, of_decide_eq_true h7, of_decide_eq_true h8, of_decide_eq_true h9, trivial⟩
def x9 (K : Fr) : Bool := decide (PySem.W.subIn K (.ref (He.ga K "UnequalSize")) (.ref (He.ga K "UnequalSize")) = some true) && (decide (PySem.W.isClsIn K (He.ga K "UnequalSize") = true) && (decide (PySem.W.findIn K (.ref (He.ga K "UnequalSize")) "__class__" = some (some (.builtin "object.__class__"))) && (decide (PySem.W.mroIn K (He.ga K "UnequalSize") (.type "object") = some true) && (decide (PySem.W.hasDictIn K (He.ga K "UnequalSize") = true) && (decide (PySem.W.keepIn K (.ref (He.ga K "UnequalSize")) = true) && (decide (PySem.W.excIn K (He.ga K "UnequalSize") [.type "ValueError", .type "Exception", .type "BaseException", .type "object"] "ValueError.__new__" = true) && (decide (PySem.W.findIn K (.ref (He.ga K "Sketch")) "allow" = some (some (.ref (He.ma K (He.ga K "Sketch") "allow")))) && (decide (PySem.W.isFn K (.ref (He.ma K (He.ga K "Sketch") "allow")) = true) && (decide (PySem.W.keepIn K (.ref (He.ma K (He.ga K "Sketch") "allow")) = true) && (true))))))))))
theorem x9_ok {K : Fr} (h : x9 K = true) : PySem.W.subIn K (.ref (He.ga K "UnequalSize")) (.ref (He.ga K "UnequalSize")) = some true ∧ PySem.W.isClsIn K (He.ga K "UnequalSize") = true ∧ PySem.W.findIn K (.ref (He.ga K "UnequalSize")) "__class__" = some (some (.builtin "object.__class__")) ∧ PySem.W.mroIn K (He.ga K "UnequalSize") (.type "object") = some true ∧ PySem.W.hasDictIn K (He.ga K "UnequalSize") = true ∧ PySem.W.keepIn K (.ref (He.ga K "UnequalSize")) = true ∧ PySem.W.excIn K (He.ga K "UnequalSize") [.type "ValueError", .type "Exception", .type "BaseException", .type "object"] "ValueError.__new__" = true ∧ PySem.W.findIn K (.ref (He.ga K "Sketch")) "allow" = some (some (.ref (He.ma K (He.ga K "Sketch") "allow"))) ∧ PySem.W.isFn K (.ref (He.ma K (He.ga K "Sketch") "allow")) = true ∧ PySem.W.keepIn K (.ref (He.ma K (He.ga K "Sketch") "allow")) = true ∧ True := by
  obtain ⟨h0, h⟩ := He.ba h
  obtain ⟨h1, h⟩ := He.ba h
  obtain ⟨h2, h⟩ := He.ba h
  obtain ⟨h3, h⟩ := He.ba h
  obtain ⟨h4, h⟩ := He.ba h
  obtain ⟨h5, h⟩ := He.ba h
  obtain ⟨h6, h⟩ := He.ba h
  obtain ⟨h7, h⟩ := He.ba h
  obtain ⟨h8, h⟩ := He.ba h
  obtain ⟨h9, h⟩ := He.ba h
  exact ⟨of_decide_eq_true h0, of_decide_eq_true h1, of_decide_eq_true h2, of_decide_eq_true h3, of_decide_eq_true h4, of_decide_eq_true h5, of_decide_eq_true h6, of_decide_eq_true h7, of_decide_eq_true h8, of_decide_eq_true h9, trivial⟩
def x10 (K : Fr) : Bool := decide (PySem.W.findIn K (.ref (He.ga K "Sketch")) "text" = some (some (.ref (He.ma K (He.ga K "Sketch") "text")))) && (decide (PySem.W.isFn K (.ref (He.ma K (He.ga K "Sketch") "text")) = true) && (decide (PySem.W.keepIn K (.ref (He.ma K (He.ga K "Sketch") "text")) = true) && (decide (PySem.W.findIn K (.ref (He.ga K "Sketch")) "_check_cell" = some (some (.ref (He.ma K (He.ga K "Sketch") "_check_cell")))) && (decide (PySem.W.isFn K (.ref (He.ma K (He.ga K "Sketch") "_check_cell")) = true) && (decide (PySem.W.keepIn K (.ref (He.ma K (He.ga K "Sketch") "_check_cell")) = true) && (decide (PySem.W.findIn K (.ref (He.ga K "Sketch")) "__getitem__" = some (some (.ref (He.ma K (He.ga K "Sketch") "__getitem__")))) && (decide (PySem.W.isFn K (.ref (He.ma K (He.ga K "Sketch") "__getitem__")) = true) && (decide (PySem.W.keepIn K (.ref (He.ma K (He.ga K "Sketch") "__getitem__")) = true) && (decide (PySem.W.fnIn K (He.ma K (He.ga K "Sketch") "__getitem__") = true) && (true))))))))))
theorem x10_ok {K : Fr} (h : x10 K = true) : PySem.W.findIn K (.ref (He.ga K "Sketch")) "text" = some (some (.ref (He.ma K (He.ga K "Sketch") "text"))) ∧ PySem.W.isFn K (.ref (He.ma K (He.ga K "Sketch") "text")) = true ∧ PySem.W.keepIn K (.ref (He.ma K (He.ga K "Sketch") "text")) = true ∧ PySem.W.findIn K (.ref (He.ga K "Sketch")) "_check_cell" = some (some (.ref (He.ma K (He.ga K "Sketch") "_check_cell"))) ∧ PySem.W.isFn K (.ref (He.ma K (He.ga K "Sketch") "_check_cell")) = true ∧ PySem.W.keepIn K (.ref (He.ma K (He.ga K "Sketch") "_check_cell")) = true ∧ PySem.W.findIn K (.ref (He.ga K "Sketch")) "__getitem__" = some (some (.ref (He.ma K (He.ga K "Sketch") "__getitem__"))) ∧ PySem.W.isFn K (.ref (He.ma K (He.ga K "Sketch") "__getitem__")) = true ∧ PySem.W.keepIn K (.ref (He.ma K (He.ga K "Sketch") "__getitem__")) = true ∧ PySem.W.fnIn K (He.ma K (He.ga K "Sketch") "__getitem__") = true ∧ True := by
  obtain ⟨h0, h⟩ := He.ba h
  obtain ⟨h1, h⟩ := He.ba h
  obtain ⟨h2, h⟩ := He.ba h
  obtain ⟨h3, h⟩ := He.ba h
  obtain ⟨h4, h⟩ := He.ba h
  obtain ⟨h5, h⟩ := He.ba h
  obtain ⟨h6, h⟩ := He.ba h
  obtain ⟨h7, h⟩ := He.ba h
  obtain ⟨h8, h⟩ := He.ba h
  obtain ⟨h9, h⟩ := He.ba h
  exact ⟨of_decide_eq_true h0, of_decide_eq_true h1, of_decide_eq_true h2, of_decide_eq_true h3, of_decide_eq_true h4, of_decide_eq_true h5, of_decide_eq_true h6, of_decide_eq_true h7, of_decide_eq_true h8, of_decide_eq_true h9, trivial⟩
def x11 (K : Fr) : Bool := decide (PySem.W.findIn K (.ref (He.ga K "Sketch")) "fits" = some (some (.ref (He.ma K (He.ga K "Sketch") "fits")))) && (decide (PySem.W.isFn K (.ref (He.ma K (He.ga K "Sketch") "fits")) = true) && (decide (PySem.W.keepIn K (.ref (He.ma K (He.ga K "Sketch") "fits")) = true) && (decide (PySem.W.findIn K (.ref (He.ga K "Sketch")) "ways" = some (some (.ref (He.ma K (He.ga K "Sketch") "ways")))) && (decide (PySem.W.isFn K (.ref (He.ma K (He.ga K "Sketch") "ways")) = true) && (decide (PySem.W.keepIn K (.ref (He.ma K (He.ga K "Sketch") "ways")) = true) && (decide (PySem.W.nsIn K mainGlobals "is_stone" = some (some (.ref (He.ga K "is_stone")))) && (decide (PySem.W.keepIn K (.ref (He.ga K "is_stone")) = true) && (decide (PySem.W.nsIn K mainGlobals "is_stone_or_hole" = some (some (.ref (He.ga K "is_stone_or_hole")))) && (decide (PySem.W.keepIn K (.ref (He.ga K "is_stone_or_hole")) = true) && (true))))))))))
theorem x11_ok {K : Fr} (h : x11 K = true) : PySem.W.findIn K (.ref (He.ga K "Sketch")) "fits" = some (some (.ref (He.ma K (He.ga K "Sketch") "fits"))) ∧ PySem.W.isFn K (.ref (He.ma K (He.ga K "Sketch") "fits")) = true ∧ PySem.W.keepIn K (.ref (He.ma K (He.ga K "Sketch") "fits")) = true ∧ PySem.W.findIn K (.ref (He.ga K "Sketch")) "ways" = some (some (.ref (He.ma K (He.ga K "Sketch") "ways"))) ∧ PySem.W.isFn K (.ref (He.ma K (He.ga K "Sketch") "ways")) = true ∧ PySem.W.keepIn K (.ref (He.ma K (He.ga K "Sketch") "ways")) = true ∧ PySem.W.nsIn K mainGlobals "is_stone" = some (some (.ref (He.ga K "is_stone"))) ∧ PySem.W.keepIn K (.ref (He.ga K "is_stone")) = true ∧ PySem.W.nsIn K mainGlobals "is_stone_or_hole" = some (some (.ref (He.ga K "is_stone_or_hole"))) ∧ PySem.W.keepIn K (.ref (He.ga K "is_stone_or_hole")) = true ∧ True := by
  obtain ⟨h0, h⟩ := He.ba h
  obtain ⟨h1, h⟩ := He.ba h
  obtain ⟨h2, h⟩ := He.ba h
  obtain ⟨h3, h⟩ := He.ba h
  obtain ⟨h4, h⟩ := He.ba h
  obtain ⟨h5, h⟩ := He.ba h
  obtain ⟨h6, h⟩ := He.ba h
  obtain ⟨h7, h⟩ := He.ba h
  obtain ⟨h8, h⟩ := He.ba h
  obtain ⟨h9, h⟩ := He.ba h
  exact ⟨of_decide_eq_true h0, of_decide_eq_true h1, of_decide_eq_true h2, of_decide_eq_true h3, of_decide_eq_true h4, of_decide_eq_true h5, of_decide_eq_true h6, of_decide_eq_true h7, of_decide_eq_true h8, of_decide_eq_true h9, trivial⟩
def x12 (K : Fr) : Bool := decide (PySem.W.nsIn K mainGlobals "are_different_signs" = some (some (.ref (He.ga K "are_different_signs")))) && (decide (PySem.W.keepIn K (.ref (He.ga K "are_different_signs")) = true) && (decide (PySem.W.nsIn K mainGlobals "in_ascii_order" = some (some (.ref (He.ga K "in_ascii_order")))) && (decide (PySem.W.keepIn K (.ref (He.ga K "in_ascii_order")) = true) && (decide (PySem.W.nsIn K mainGlobals "_are_allowed_signs" = some (some (.ref (He.ga K "_are_allowed_signs")))) && (decide (PySem.W.keepIn K (.ref (He.ga K "_are_allowed_signs")) = true) && (decide (PySem.W.nsIn K mainGlobals "_read_word" = some (some (.ref (He.ga K "_read_word")))) && (decide (PySem.W.keepIn K (.ref (He.ga K "_read_word")) = true) && (decide (PySem.W.nsIn K mainGlobals "_check_sizes" = some (some (.ref (He.ga K "_check_sizes")))) && (decide (PySem.W.keepIn K (.ref (He.ga K "_check_sizes")) = true) && (true))))))))))
theorem x12_ok {K : Fr} (h : x12 K = true) : PySem.W.nsIn K mainGlobals "are_different_signs" = some (some (.ref (He.ga K "are_different_signs"))) ∧ PySem.W.keepIn K (.ref (He.ga K "are_different_signs")) = true ∧ PySem.W.nsIn K mainGlobals "in_ascii_order" = some (some (.ref (He.ga K "in_ascii_order"))) ∧ PySem.W.keepIn K (.ref (He.ga K "in_ascii_order")) = true ∧ PySem.W.nsIn K mainGlobals "_are_allowed_signs" = some (some (.ref (He.ga K "_are_allowed_signs"))) ∧ PySem.W.keepIn K (.ref (He.ga K "_are_allowed_signs")) = true ∧ PySem.W.nsIn K mainGlobals "_read_word" = some (some (.ref (He.ga K "_read_word"))) ∧ PySem.W.keepIn K (.ref (He.ga K "_read_word")) = true ∧ PySem.W.nsIn K mainGlobals "_check_sizes" = some (some (.ref (He.ga K "_check_sizes"))) ∧ PySem.W.keepIn K (.ref (He.ga K "_check_sizes")) = true ∧ True := by
  obtain ⟨h0, h⟩ := He.ba h
  obtain ⟨h1, h⟩ := He.ba h
  obtain ⟨h2, h⟩ := He.ba h
  obtain ⟨h3, h⟩ := He.ba h
  obtain ⟨h4, h⟩ := He.ba h
  obtain ⟨h5, h⟩ := He.ba h
  obtain ⟨h6, h⟩ := He.ba h
  obtain ⟨h7, h⟩ := He.ba h
  obtain ⟨h8, h⟩ := He.ba h
  obtain ⟨h9, h⟩ := He.ba h
  exact ⟨of_decide_eq_true h0, of_decide_eq_true h1, of_decide_eq_true h2, of_decide_eq_true h3, of_decide_eq_true h4, of_decide_eq_true h5, of_decide_eq_true h6, of_decide_eq_true h7, of_decide_eq_true h8, of_decide_eq_true h9, trivial⟩
def x13 (K : Fr) : Bool := decide (PySem.W.nsIn K mainGlobals "required_cells" = some (some (.ref (He.ga K "required_cells")))) && (decide (PySem.W.keepIn K (.ref (He.ga K "required_cells")) = true) && (decide (PySem.W.nsIn K mainGlobals "is_bad_row_pictures" = some (some (.ref (He.ga K "is_bad_row_pictures")))) && (decide (PySem.W.keepIn K (.ref (He.ga K "is_bad_row_pictures")) = true) && (decide (PySem.W.nsIn K mainGlobals "bad_line_pictures" = some (some (.ref (He.ga K "bad_line_pictures")))) && (decide (PySem.W.keepIn K (.ref (He.ga K "bad_line_pictures")) = true) && (decide (PySem.W.nsIn K mainGlobals "is_bad_row_sketches" = some (some (.ref (He.ga K "is_bad_row_sketches")))) && (decide (PySem.W.keepIn K (.ref (He.ga K "is_bad_row_sketches")) = true) && (decide (PySem.W.nsIn K mainGlobals "bad_line_sketches" = some (some (.ref (He.ga K "bad_line_sketches")))) && (decide (PySem.W.keepIn K (.ref (He.ga K "bad_line_sketches")) = true) && (true))))))))))
theorem x13_ok {K : Fr} (h : x13 K = true) : PySem.W.nsIn K mainGlobals "required_cells" = some (some (.ref (He.ga K "required_cells"))) ∧ PySem.W.keepIn K (.ref (He.ga K "required_cells")) = true ∧ PySem.W.nsIn K mainGlobals "is_bad_row_pictures" = some (some (.ref (He.ga K "is_bad_row_pictures"))) ∧ PySem.W.keepIn K (.ref (He.ga K "is_bad_row_pictures")) = true ∧ PySem.W.nsIn K mainGlobals "bad_line_pictures" = some (some (.ref (He.ga K "bad_line_pictures"))) ∧ PySem.W.keepIn K (.ref (He.ga K "bad_line_pictures")) = true ∧ PySem.W.nsIn K mainGlobals "is_bad_row_sketches" = some (some (.ref (He.ga K "is_bad_row_sketches"))) ∧ PySem.W.keepIn K (.ref (He.ga K "is_bad_row_sketches")) = true ∧ PySem.W.nsIn K mainGlobals "bad_line_sketches" = some (some (.ref (He.ga K "bad_line_sketches"))) ∧ PySem.W.keepIn K (.ref (He.ga K "bad_line_sketches")) = true ∧ True := by
  obtain ⟨h0, h⟩ := He.ba h
  obtain ⟨h1, h⟩ := He.ba h
  obtain ⟨h2, h⟩ := He.ba h
  obtain ⟨h3, h⟩ := He.ba h
  obtain ⟨h4, h⟩ := He.ba h
  obtain ⟨h5, h⟩ := He.ba h
  obtain ⟨h6, h⟩ := He.ba h
  obtain ⟨h7, h⟩ := He.ba h
  obtain ⟨h8, h⟩ := He.ba h
  obtain ⟨h9, h⟩ := He.ba h
  exact ⟨of_decide_eq_true h0, of_decide_eq_true h1, of_decide_eq_true h2, of_decide_eq_true h3, of_decide_eq_true h4, of_decide_eq_true h5, of_decide_eq_true h6, of_decide_eq_true h7, of_decide_eq_true h8, of_decide_eq_true h9, trivial⟩
def x14 (K : Fr) : Bool := decide (PySem.W.nsIn K mainGlobals "_law_bag" = some (some (.ref (He.ga K "_law_bag")))) && (decide (PySem.W.keepIn K (.ref (He.ga K "_law_bag")) = true) && (decide (PySem.W.nsIn K mainGlobals "_law_take" = some (some (.ref (He.ga K "_law_take")))) && (decide (PySem.W.keepIn K (.ref (He.ga K "_law_take")) = true) && (decide (PySem.W.nsIn K mainGlobals "_law_is_int" = some (some (.ref (He.ga K "_law_is_int")))) && (decide (PySem.W.keepIn K (.ref (He.ga K "_law_is_int")) = true) && (decide (PySem.W.nsIn K mainGlobals "_law_is_cell" = some (some (.ref (He.ga K "_law_is_cell")))) && (decide (PySem.W.keepIn K (.ref (He.ga K "_law_is_cell")) = true) && (decide (PySem.W.nsIn K mainGlobals "_law_is_cells" = some (some (.ref (He.ga K "_law_is_cells")))) && (decide (PySem.W.keepIn K (.ref (He.ga K "_law_is_cells")) = true) && (true))))))))))
theorem x14_ok {K : Fr} (h : x14 K = true) : PySem.W.nsIn K mainGlobals "_law_bag" = some (some (.ref (He.ga K "_law_bag"))) ∧ PySem.W.keepIn K (.ref (He.ga K "_law_bag")) = true ∧ PySem.W.nsIn K mainGlobals "_law_take" = some (some (.ref (He.ga K "_law_take"))) ∧ PySem.W.keepIn K (.ref (He.ga K "_law_take")) = true ∧ PySem.W.nsIn K mainGlobals "_law_is_int" = some (some (.ref (He.ga K "_law_is_int"))) ∧ PySem.W.keepIn K (.ref (He.ga K "_law_is_int")) = true ∧ PySem.W.nsIn K mainGlobals "_law_is_cell" = some (some (.ref (He.ga K "_law_is_cell"))) ∧ PySem.W.keepIn K (.ref (He.ga K "_law_is_cell")) = true ∧ PySem.W.nsIn K mainGlobals "_law_is_cells" = some (some (.ref (He.ga K "_law_is_cells"))) ∧ PySem.W.keepIn K (.ref (He.ga K "_law_is_cells")) = true ∧ True := by
  obtain ⟨h0, h⟩ := He.ba h
  obtain ⟨h1, h⟩ := He.ba h
  obtain ⟨h2, h⟩ := He.ba h
  obtain ⟨h3, h⟩ := He.ba h
  obtain ⟨h4, h⟩ := He.ba h
  obtain ⟨h5, h⟩ := He.ba h
  obtain ⟨h6, h⟩ := He.ba h
  obtain ⟨h7, h⟩ := He.ba h
  obtain ⟨h8, h⟩ := He.ba h
  obtain ⟨h9, h⟩ := He.ba h
  exact ⟨of_decide_eq_true h0, of_decide_eq_true h1, of_decide_eq_true h2, of_decide_eq_true h3, of_decide_eq_true h4, of_decide_eq_true h5, of_decide_eq_true h6, of_decide_eq_true h7, of_decide_eq_true h8, of_decide_eq_true h9, trivial⟩
def x15 (K : Fr) : Bool := decide (PySem.W.nsIn K mainGlobals "_law_once" = some (some (.ref (He.ga K "_law_once")))) && (decide (PySem.W.keepIn K (.ref (He.ga K "_law_once")) = true) && (decide (PySem.W.nsIn K mainGlobals "_law_palette" = some (some (.ref (He.ga K "_law_palette")))) && (decide (PySem.W.keepIn K (.ref (He.ga K "_law_palette")) = true) && (decide (PySem.W.nsIn K mainGlobals "_law_row" = some (some (.ref (He.ga K "_law_row")))) && (decide (PySem.W.keepIn K (.ref (He.ga K "_law_row")) = true) && (decide (PySem.W.nsIn K mainGlobals "_law_grid" = some (some (.ref (He.ga K "_law_grid")))) && (decide (PySem.W.keepIn K (.ref (He.ga K "_law_grid")) = true) && (decide (PySem.W.nsIn K mainGlobals "_law_big_grid" = some (some (.ref (He.ga K "_law_big_grid")))) && (decide (PySem.W.keepIn K (.ref (He.ga K "_law_big_grid")) = true) && (true))))))))))
theorem x15_ok {K : Fr} (h : x15 K = true) : PySem.W.nsIn K mainGlobals "_law_once" = some (some (.ref (He.ga K "_law_once"))) ∧ PySem.W.keepIn K (.ref (He.ga K "_law_once")) = true ∧ PySem.W.nsIn K mainGlobals "_law_palette" = some (some (.ref (He.ga K "_law_palette"))) ∧ PySem.W.keepIn K (.ref (He.ga K "_law_palette")) = true ∧ PySem.W.nsIn K mainGlobals "_law_row" = some (some (.ref (He.ga K "_law_row"))) ∧ PySem.W.keepIn K (.ref (He.ga K "_law_row")) = true ∧ PySem.W.nsIn K mainGlobals "_law_grid" = some (some (.ref (He.ga K "_law_grid"))) ∧ PySem.W.keepIn K (.ref (He.ga K "_law_grid")) = true ∧ PySem.W.nsIn K mainGlobals "_law_big_grid" = some (some (.ref (He.ga K "_law_big_grid"))) ∧ PySem.W.keepIn K (.ref (He.ga K "_law_big_grid")) = true ∧ True := by
  obtain ⟨h0, h⟩ := He.ba h
  obtain ⟨h1, h⟩ := He.ba h
  obtain ⟨h2, h⟩ := He.ba h
  obtain ⟨h3, h⟩ := He.ba h
  obtain ⟨h4, h⟩ := He.ba h
  obtain ⟨h5, h⟩ := He.ba h
  obtain ⟨h6, h⟩ := He.ba h
  obtain ⟨h7, h⟩ := He.ba h
  obtain ⟨h8, h⟩ := He.ba h
  obtain ⟨h9, h⟩ := He.ba h
  exact ⟨of_decide_eq_true h0, of_decide_eq_true h1, of_decide_eq_true h2, of_decide_eq_true h3, of_decide_eq_true h4, of_decide_eq_true h5, of_decide_eq_true h6, of_decide_eq_true h7, of_decide_eq_true h8, of_decide_eq_true h9, trivial⟩
def x16 (K : Fr) : Bool := decide (PySem.W.nsIn K mainGlobals "_law_cells" = some (some (.ref (He.ga K "_law_cells")))) && (decide (PySem.W.keepIn K (.ref (He.ga K "_law_cells")) = true) && (decide (PySem.W.nsIn K mainGlobals "_law_stones" = some (some (.ref (He.ga K "_law_stones")))) && (decide (PySem.W.keepIn K (.ref (He.ga K "_law_stones")) = true) && (decide (PySem.W.nsIn K mainGlobals "_law_put" = some (some (.ref (He.ga K "_law_put")))) && (decide (PySem.W.keepIn K (.ref (He.ga K "_law_put")) = true) && (decide (PySem.W.nsIn K mainGlobals "_law_region_is" = some (some (.ref (He.ga K "_law_region_is")))) && (decide (PySem.W.keepIn K (.ref (He.ga K "_law_region_is")) = true) && (decide (PySem.W.nsIn K mainGlobals "_law_allowed" = some (some (.ref (He.ga K "_law_allowed")))) && (decide (PySem.W.keepIn K (.ref (He.ga K "_law_allowed")) = true) && (true))))))))))
theorem x16_ok {K : Fr} (h : x16 K = true) : PySem.W.nsIn K mainGlobals "_law_cells" = some (some (.ref (He.ga K "_law_cells"))) ∧ PySem.W.keepIn K (.ref (He.ga K "_law_cells")) = true ∧ PySem.W.nsIn K mainGlobals "_law_stones" = some (some (.ref (He.ga K "_law_stones"))) ∧ PySem.W.keepIn K (.ref (He.ga K "_law_stones")) = true ∧ PySem.W.nsIn K mainGlobals "_law_put" = some (some (.ref (He.ga K "_law_put"))) ∧ PySem.W.keepIn K (.ref (He.ga K "_law_put")) = true ∧ PySem.W.nsIn K mainGlobals "_law_region_is" = some (some (.ref (He.ga K "_law_region_is"))) ∧ PySem.W.keepIn K (.ref (He.ga K "_law_region_is")) = true ∧ PySem.W.nsIn K mainGlobals "_law_allowed" = some (some (.ref (He.ga K "_law_allowed"))) ∧ PySem.W.keepIn K (.ref (He.ga K "_law_allowed")) = true ∧ True := by
  obtain ⟨h0, h⟩ := He.ba h
  obtain ⟨h1, h⟩ := He.ba h
  obtain ⟨h2, h⟩ := He.ba h
  obtain ⟨h3, h⟩ := He.ba h
  obtain ⟨h4, h⟩ := He.ba h
  obtain ⟨h5, h⟩ := He.ba h
  obtain ⟨h6, h⟩ := He.ba h
  obtain ⟨h7, h⟩ := He.ba h
  obtain ⟨h8, h⟩ := He.ba h
  obtain ⟨h9, h⟩ := He.ba h
  exact ⟨of_decide_eq_true h0, of_decide_eq_true h1, of_decide_eq_true h2, of_decide_eq_true h3, of_decide_eq_true h4, of_decide_eq_true h5, of_decide_eq_true h6, of_decide_eq_true h7, of_decide_eq_true h8, of_decide_eq_true h9, trivial⟩
def x17 (K : Fr) : Bool := decide (PySem.W.nsIn K mainGlobals "_law_table" = some (some (.ref (He.ga K "_law_table")))) && (decide (PySem.W.keepIn K (.ref (He.ga K "_law_table")) = true) && (decide (PySem.W.nsIn K mainGlobals "_law_sketch_text" = some (some (.ref (He.ga K "_law_sketch_text")))) && (decide (PySem.W.keepIn K (.ref (He.ga K "_law_sketch_text")) = true) && (decide (PySem.W.nsIn K mainGlobals "_law_at" = some (some (.ref (He.ga K "_law_at")))) && (decide (PySem.W.keepIn K (.ref (He.ga K "_law_at")) = true) && (decide (PySem.W.nsIn K mainGlobals "_law_required" = some (some (.ref (He.ga K "_law_required")))) && (decide (PySem.W.keepIn K (.ref (He.ga K "_law_required")) = true) && (decide (PySem.W.nsIn K mainGlobals "_law_within" = some (some (.ref (He.ga K "_law_within")))) && (decide (PySem.W.keepIn K (.ref (He.ga K "_law_within")) = true) && (true))))))))))
theorem x17_ok {K : Fr} (h : x17 K = true) : PySem.W.nsIn K mainGlobals "_law_table" = some (some (.ref (He.ga K "_law_table"))) ∧ PySem.W.keepIn K (.ref (He.ga K "_law_table")) = true ∧ PySem.W.nsIn K mainGlobals "_law_sketch_text" = some (some (.ref (He.ga K "_law_sketch_text"))) ∧ PySem.W.keepIn K (.ref (He.ga K "_law_sketch_text")) = true ∧ PySem.W.nsIn K mainGlobals "_law_at" = some (some (.ref (He.ga K "_law_at"))) ∧ PySem.W.keepIn K (.ref (He.ga K "_law_at")) = true ∧ PySem.W.nsIn K mainGlobals "_law_required" = some (some (.ref (He.ga K "_law_required"))) ∧ PySem.W.keepIn K (.ref (He.ga K "_law_required")) = true ∧ PySem.W.nsIn K mainGlobals "_law_within" = some (some (.ref (He.ga K "_law_within"))) ∧ PySem.W.keepIn K (.ref (He.ga K "_law_within")) = true ∧ True := by
  obtain ⟨h0, h⟩ := He.ba h
  obtain ⟨h1, h⟩ := He.ba h
  obtain ⟨h2, h⟩ := He.ba h
  obtain ⟨h3, h⟩ := He.ba h
  obtain ⟨h4, h⟩ := He.ba h
  obtain ⟨h5, h⟩ := He.ba h
  obtain ⟨h6, h⟩ := He.ba h
  obtain ⟨h7, h⟩ := He.ba h
  obtain ⟨h8, h⟩ := He.ba h
  obtain ⟨h9, h⟩ := He.ba h
  exact ⟨of_decide_eq_true h0, of_decide_eq_true h1, of_decide_eq_true h2, of_decide_eq_true h3, of_decide_eq_true h4, of_decide_eq_true h5, of_decide_eq_true h6, of_decide_eq_true h7, of_decide_eq_true h8, of_decide_eq_true h9, trivial⟩
def x18 (K : Fr) : Bool := decide (PySem.W.nsIn K mainGlobals "_law_sketch_is" = some (some (.ref (He.ga K "_law_sketch_is")))) && (decide (PySem.W.keepIn K (.ref (He.ga K "_law_sketch_is")) = true) && (decide (PySem.W.nsIn K mainGlobals "_law_agree" = some (some (.ref (He.ga K "_law_agree")))) && (decide (PySem.W.keepIn K (.ref (He.ga K "_law_agree")) = true) && (decide (PySem.W.nsIn K mainGlobals "_law_allow_two" = some (some (.ref (He.ga K "_law_allow_two")))) && (decide (PySem.W.keepIn K (.ref (He.ga K "_law_allow_two")) = true) && (decide (PySem.W.nsIn K mainGlobals "law" = some (some (.ref (He.ga K "law")))) && (decide (PySem.W.keepIn K (.ref (He.ga K "law")) = true) && (decide (PySem.W.nsIn K mainGlobals "_law_any" = some (some (.ref (He.ga K "_law_any")))) && (decide (PySem.W.keepIn K (.ref (He.ga K "_law_any")) = true) && (true))))))))))
theorem x18_ok {K : Fr} (h : x18 K = true) : PySem.W.nsIn K mainGlobals "_law_sketch_is" = some (some (.ref (He.ga K "_law_sketch_is"))) ∧ PySem.W.keepIn K (.ref (He.ga K "_law_sketch_is")) = true ∧ PySem.W.nsIn K mainGlobals "_law_agree" = some (some (.ref (He.ga K "_law_agree"))) ∧ PySem.W.keepIn K (.ref (He.ga K "_law_agree")) = true ∧ PySem.W.nsIn K mainGlobals "_law_allow_two" = some (some (.ref (He.ga K "_law_allow_two"))) ∧ PySem.W.keepIn K (.ref (He.ga K "_law_allow_two")) = true ∧ PySem.W.nsIn K mainGlobals "law" = some (some (.ref (He.ga K "law"))) ∧ PySem.W.keepIn K (.ref (He.ga K "law")) = true ∧ PySem.W.nsIn K mainGlobals "_law_any" = some (some (.ref (He.ga K "_law_any"))) ∧ PySem.W.keepIn K (.ref (He.ga K "_law_any")) = true ∧ True := by
  obtain ⟨h0, h⟩ := He.ba h
  obtain ⟨h1, h⟩ := He.ba h
  obtain ⟨h2, h⟩ := He.ba h
  obtain ⟨h3, h⟩ := He.ba h
  obtain ⟨h4, h⟩ := He.ba h
  obtain ⟨h5, h⟩ := He.ba h
  obtain ⟨h6, h⟩ := He.ba h
  obtain ⟨h7, h⟩ := He.ba h
  obtain ⟨h8, h⟩ := He.ba h
  obtain ⟨h9, h⟩ := He.ba h
  exact ⟨of_decide_eq_true h0, of_decide_eq_true h1, of_decide_eq_true h2, of_decide_eq_true h3, of_decide_eq_true h4, of_decide_eq_true h5, of_decide_eq_true h6, of_decide_eq_true h7, of_decide_eq_true h8, of_decide_eq_true h9, trivial⟩
def x19 (K : Fr) : Bool := decide (PySem.W.nsIn K mainGlobals "isinstance" = some none) && (decide (PySem.W.nsIn K mainGlobals "int" = some none) && (decide (PySem.W.nsIn K mainGlobals "bool" = some none) && (decide (PySem.W.nsIn K mainGlobals "tuple" = some none) && (decide (PySem.W.nsIn K mainGlobals "list" = some none) && (decide (PySem.W.nsIn K mainGlobals "len" = some none) && (decide (PySem.W.nsIn K mainGlobals "range" = some none) && (decide (PySem.W.nsIn K mainGlobals "all" = some none) && (decide (PySem.W.nsIn K mainGlobals "enumerate" = some none) && (decide (PySem.W.nsIn K mainGlobals "str" = some none) && (true))))))))))
theorem x19_ok {K : Fr} (h : x19 K = true) : PySem.W.nsIn K mainGlobals "isinstance" = some none ∧ PySem.W.nsIn K mainGlobals "int" = some none ∧ PySem.W.nsIn K mainGlobals "bool" = some none ∧ PySem.W.nsIn K mainGlobals "tuple" = some none ∧ PySem.W.nsIn K mainGlobals "list" = some none ∧ PySem.W.nsIn K mainGlobals "len" = some none ∧ PySem.W.nsIn K mainGlobals "range" = some none ∧ PySem.W.nsIn K mainGlobals "all" = some none ∧ PySem.W.nsIn K mainGlobals "enumerate" = some none ∧ PySem.W.nsIn K mainGlobals "str" = some none ∧ True := by
  obtain ⟨h0, h⟩ := He.ba h
  obtain ⟨h1, h⟩ := He.ba h
  obtain ⟨h2, h⟩ := He.ba h
  obtain ⟨h3, h⟩ := He.ba h
  obtain ⟨h4, h⟩ := He.ba h
  obtain ⟨h5, h⟩ := He.ba h
  obtain ⟨h6, h⟩ := He.ba h
  obtain ⟨h7, h⟩ := He.ba h
  obtain ⟨h8, h⟩ := He.ba h
  obtain ⟨h9, h⟩ := He.ba h
  exact ⟨of_decide_eq_true h0, of_decide_eq_true h1, of_decide_eq_true h2, of_decide_eq_true h3, of_decide_eq_true h4, of_decide_eq_true h5, of_decide_eq_true h6, of_decide_eq_true h7, of_decide_eq_true h8, of_decide_eq_true h9, trivial⟩
def x20 (K : Fr) : Bool := decide (PySem.W.nsIn K mainGlobals "set" = some none) && (decide (PySem.W.nsIn K mainGlobals "sorted" = some none) && (true))
theorem x20_ok {K : Fr} (h : x20 K = true) : PySem.W.nsIn K mainGlobals "set" = some none ∧ PySem.W.nsIn K mainGlobals "sorted" = some none ∧ True := by
  obtain ⟨h0, h⟩ := He.ba h
  obtain ⟨h1, h⟩ := He.ba h
  exact ⟨of_decide_eq_true h0, of_decide_eq_true h1, trivial⟩
def y0 (K : Fr) : Bool := Hm.cvalB K (He.ga K "Picture") "HOLE" ((.str "."))
def y1 (K : Fr) : Bool := Hm.cvalB K (He.ga K "Picture") "EDGE" ((.str "#"))
def y2 (K : Fr) : Bool := Hm.ivalB K (He.ga K "Picture") "HOLE" ((.str "."))
def y3 (K : Fr) : Bool := Hm.ivalB K (He.ga K "Picture") "EDGE" ((.str "#"))
def y4 (K : Fr) : Bool := Hm.clsB K (He.ga K "Sketch")
def y5 (K : Fr) : Bool := Hm.ivalB K (He.ga K "Sketch") "ANY" ((.str ".abcdefghijklmnopqrstuvwxyz"))
def y6 (K : Fr) : Bool := Hm.cvalB K (He.ga K "Sketch") "ANY" ((.str ".abcdefghijklmnopqrstuvwxyz"))
def y7 (K : Fr) : Bool := He5.wrapB K (He.ga K "Sketch") "classmethod" "classmethod.__get__" "read"
def y8 (K : Fr) : Bool := He5.wrapB K (He.ga K "Sketch") "classmethod" "classmethod.__get__" "of"
def y9 (K : Fr) : Bool := Hm.excB K (He.ga K "InvalidPicture")
def y10 (K : Fr) : Bool := Hm.clsB K (He.ga K "InvalidPicture")
def y11 (K : Fr) : Bool := Hm.clsB K (He.ga K "UnequalSize")
def y12 (K : Fr) : Bool := Hm.globB K "STONES" ((.str alphaS))
def y13 (K : Fr) : Bool := Hm.globB K "MOST" ((.int 8))
def y14 (K : Fr) : Bool := Hm.globB K "_ANY_WORD" ((.str "*"))
def exs : List (Fr → Bool) := [x0, x1, x2, x3, x4, x5, x6, x7, x8, x9, x10, x11, x12, x13, x14, x15, x16, x17, x18, x19, x20, y0, y1, y2, y3, y4, y5, y6, y7, y8] ++ [y9, y10, y11, y12, y13, y14]
def loose0 : List Str := ["_wall", "_GROUP", "_GROUP_DIGITS", "decimal", "Region", "SmaltiError", "InvalidPicture", "InvalidSketch", "InvalidSigns", "OutOfPicture", "EmptyCell", "UnequalSize", "STONES", "MOST", "is_stone", "is_stone_or_hole", "are_different_signs", "in_ascii_order", "_is_bad_row", "is_bad_row_pictures", "_bad_line", "bad_line_pictures", "Picture", "_ANY_WORD", "_are_allowed_signs", "_check_sizes", "is_bad_row_sketches", "bad_line_sketches", "_read_word", "_common_signs"]
def loose1 : List Str := ["Sketch", "required_cells", "_law_bag", "_law_take", "_law_is_int", "_law_is_cell", "_law_is_cells", "_law_once", "_law_palette", "_law_row", "_law_grid", "_law_cells", "_law_stones", "_law_put", "_law_region_is", "_law_big_grid", "_law_any", "_law_allowed", "_law_table", "_law_sketch_text", "_law_at", "_law_required", "_law_within", "_law_sketch_is", "_law_agree", "_law_allow_two"]
def loose : List Str := loose0 ++ loose1
def as0 : List Addr := [3, 2, 124, 123, 138, 137, 158, 157, 177, 176, 196, 195, 215, 214, 234, 233, 246, 245, 397, 396, 542, 541, 255, 254, 262, 261, 267, 266, 274, 273]
def as1 : List Addr := [420, 419, 279, 278, 427, 426, 286, 285, 408, 407, 415, 414, 434, 433, 551, 550, 556, 555, 563, 562, 570, 569, 577, 576, 584, 583, 591, 590, 598, 597]
def as2 : List Addr := [605, 604, 610, 609, 617, 616, 622, 621, 629, 628, 636, 635, 641, 640, 648, 647, 653, 652, 658, 657, 663, 662, 670, 669, 677, 676, 684, 683, 691, 690]
def as3 : List Addr := [698, 697, 705, 704, 710, 709, 40, 39, 57, 56, 155, 154, 300, 299, 327, 326, 332, 331, 337, 336, 349, 348, 363, 362, 452, 451, 475, 474, 480, 479]
def as4 : List Addr := [485, 484, 492, 491, 506, 505, 513, 512, 457, 456, 465, 464, 49, 309, 319, 459, 467, 447]
def asK : List Addr := as0 ++ as1 ++ as2 ++ as3 ++ as4
abbrev R : PySem.W.OpenRow := PySem.W.OpenLaw.row PySem.Challenge.rw_smalti_k22_sketch_pictures
abbrev hk : PySem.W.Hook := hookM asK fns exs
def ob (s : PySem.W.SharedT) : AlM := obsMG asK fns exs (HandSHeadRun.getT s)
theorem ob_eq (s : PySem.W.SharedT) : ob s = hk.obs s.abs := obsMG_eq (HandSHeadRun.getT_eq s)
theorem run (w : World) : HandSHeadRun.RunEq R (PySem.W.view R.prog [63]) hk ob 12000 loose w := by
  intro os
  kernel_rfl
theorem facts {w : World} {K : Fr} {h : Heap} {mg : Str → Option Value} {fa : Addr} (X : K.In h) (G : h.Ns mainGlobals mg) (hfa : mg "law" = some (.ref fa)) (c : SaysM fns exs K) :
    ∃ fd : FuncData, (∀ (s : Shared) (v : Value), BindsTo s fd ⟨[v], []⟩ [("_law_script", v)]) ∧ ∀ base : Heap, K.In base → base.Ns mainGlobals mg → FnOk (PySem.Challenge.rw_smalti_k22_sketch_pictures).prog w K mg base CX0 8 fa fd ["_law_script"] (spLaw K) := by
  obtain ⟨_, _, _, _, _, _, _, _, _, lPI, cPI, _⟩ := c.fn 0 (d := d0) rfl
  obtain ⟨_, _, _, _, _, _, _, _, _, lPL, cPL, _⟩ := c.fn 1 (d := d1) rfl
  obtain ⟨_, _, _, _, _, _, _, _, _, lPC, cPC, _⟩ := c.fn 2 (d := d2) rfl
  obtain ⟨_, _, _, _, _, _, _, _, _, lPE, cPE, _⟩ := c.fn 3 (d := d3) rfl
  obtain ⟨_, _, _, _, _, _, _, _, _, lPG, cPG, _⟩ := c.fn 4 (d := d4) rfl
  obtain ⟨_, _, _, _, _, _, _, _, _, lPS, cPS, _⟩ := c.fn 5 (d := d5) rfl
  obtain ⟨_, _, _, _, _, _, _, _, _, lRI, cRI, _⟩ := c.fn 6 (d := d6) rfl
  obtain ⟨_, _, _, _, _, _, _, _, _, lRc, cRc, _⟩ := c.fn 7 (d := d7) rfl
  obtain ⟨_, _, _, _, _, _, _, _, _, lI, cI, wI⟩ := c.fn 8 (d := d8) rfl
  obtain ⟨_, _, _, _, _, _, _, _, _, lRd, cRd, _⟩ := c.fn 9 (d := d9) rfl
  obtain ⟨_, _, _, _, _, _, _, _, _, lOf, cOf, _⟩ := c.fn 10 (d := d10) rfl
  obtain ⟨_, _, _, _, _, _, _, _, _, lEi, cEi, _⟩ := c.fn 11 (d := d11) rfl
  obtain ⟨_, _, _, _, _, _, _, _, _, lAw, cAw, _⟩ := c.fn 12 (d := d12) rfl
  obtain ⟨_, _, _, _, _, _, _, _, _, lTx, cTx, _⟩ := c.fn 13 (d := d13) rfl
  obtain ⟨_, _, _, _, _, _, _, _, _, lCk, cCk, _⟩ := c.fn 14 (d := d14) rfl
  obtain ⟨_, _, _, _, _, _, _, _, _, lGi, cGi, _⟩ := c.fn 15 (d := d15) rfl
  obtain ⟨_, _, _, _, _, _, _, _, _, lFt, cFt, _⟩ := c.fn 16 (d := d16) rfl
  obtain ⟨_, _, _, _, _, _, _, _, _, lWy, cWy, _⟩ := c.fn 17 (d := d17) rfl
  obtain ⟨_, _, _, _, _, _, _, _, _, lIs, cIs, _⟩ := c.fn 18 (d := d18) rfl
  obtain ⟨_, _, _, _, _, _, _, _, _, lSo, cSo, _⟩ := c.fn 19 (d := d19) rfl
  obtain ⟨_, _, _, _, _, _, _, _, _, lDf, cDf, _⟩ := c.fn 20 (d := d20) rfl
  obtain ⟨_, _, _, _, _, _, _, _, _, lAs, cAs, _⟩ := c.fn 21 (d := d21) rfl
  obtain ⟨_, _, _, _, _, _, _, _, _, lAl, cAl, _⟩ := c.fn 22 (d := d22) rfl
  obtain ⟨_, _, _, _, _, _, _, _, _, lRw, cRw, _⟩ := c.fn 23 (d := d23) rfl
  obtain ⟨_, _, _, _, _, _, _, _, _, lCz, cCz, _⟩ := c.fn 24 (d := d24) rfl
  obtain ⟨_, _, _, _, _, _, _, _, _, lNd, cNd, _⟩ := c.fn 25 (d := d25) rfl
  obtain ⟨_, _, _, _, _, _, _, _, _, lBb, cBb, _⟩ := c.fn 26 (d := d26) rfl
  obtain ⟨_, _, _, _, _, _, _, _, _, lBm, cBm, _⟩ := c.fn 27 (d := d27) rfl
  obtain ⟨_, _, _, _, _, _, _, _, _, lBa, cBa, _⟩ := c.fn 28 (d := d28) rfl
  obtain ⟨_, _, _, _, _, _, _, _, _, lBl, cBl, _⟩ := c.fn 29 (d := d29) rfl
  obtain ⟨_, _, _, _, _, _, _, _, _, lBag, cBag, _⟩ := c.fn 30 (d := d30) rfl
  obtain ⟨_, _, _, _, _, _, _, _, _, lTake, cTake, _⟩ := c.fn 31 (d := d31) rfl
  obtain ⟨_, _, _, _, _, _, _, _, _, lIi, cIi, _⟩ := c.fn 32 (d := d32) rfl
  obtain ⟨_, _, _, _, _, _, _, _, _, lIc, cIc, _⟩ := c.fn 33 (d := d33) rfl
  obtain ⟨_, _, _, _, _, _, _, _, _, lIz, cIz, _⟩ := c.fn 34 (d := d34) rfl
  obtain ⟨_, _, _, _, _, _, _, _, _, lOnce, cOnce, _⟩ := c.fn 35 (d := d35) rfl
  obtain ⟨_, _, _, _, _, _, _, _, _, lPal, cPal, _⟩ := c.fn 36 (d := d36) rfl
  obtain ⟨_, _, _, _, _, _, _, _, _, lRow, cRow, _⟩ := c.fn 37 (d := d37) rfl
  obtain ⟨_, _, _, _, _, _, _, _, _, lGrid, cGrid, _⟩ := c.fn 38 (d := d38) rfl
  obtain ⟨_, _, _, _, _, _, _, _, _, lBig, cBig, _⟩ := c.fn 39 (d := d39) rfl
  obtain ⟨_, _, _, _, _, _, _, _, _, lCe, cCe, _⟩ := c.fn 40 (d := d40) rfl
  obtain ⟨_, _, _, _, _, _, _, _, _, lSl, cSl, _⟩ := c.fn 41 (d := d41) rfl
  obtain ⟨_, _, _, _, _, _, _, _, _, lPt, cPt, _⟩ := c.fn 42 (d := d42) rfl
  obtain ⟨_, _, _, _, _, _, _, _, _, lRi, cRi, _⟩ := c.fn 43 (d := d43) rfl
  obtain ⟨_, _, _, _, _, _, _, _, _, lAd, cAd, _⟩ := c.fn 44 (d := d44) rfl
  obtain ⟨_, _, _, _, _, _, _, _, _, lTb, cTb, _⟩ := c.fn 45 (d := d45) rfl
  obtain ⟨_, _, _, _, _, _, _, _, _, lLt, cLt, _⟩ := c.fn 46 (d := d46) rfl
  obtain ⟨_, _, _, _, _, _, _, _, _, lLa, cLa, _⟩ := c.fn 47 (d := d47) rfl
  obtain ⟨_, _, _, _, _, _, _, _, _, lRq, cRq, _⟩ := c.fn 48 (d := d48) rfl
  obtain ⟨_, _, _, _, _, _, _, _, _, lWi, cWi, _⟩ := c.fn 49 (d := d49) rfl
  obtain ⟨_, _, _, _, _, _, _, _, _, lLi, cLi, _⟩ := c.fn 50 (d := d50) rfl
  obtain ⟨_, _, _, _, _, _, _, _, _, lAg, cAg, _⟩ := c.fn 51 (d := d51) rfl
  obtain ⟨_, _, _, _, _, _, _, _, _, lTw, cTw, _⟩ := c.fn 52 (d := d52) rfl
  obtain ⟨_, _, _, _, _, _, _, _, _, lLaw, cLaw, _⟩ := c.fn 53 (d := d53) rfl
  obtain ⟨_, _, _, _, _, _, _, _, _, lAny, cAny, _⟩ := c.fn 54 (d := d54) rfl
  obtain ⟨cn, ct, gC, pgC, hdC, poC, saC, mkC, kpC, nC_rows, _⟩ := x0_ok (c.ex (b := x0) (List.mem_of_getElem? (i := 0) rfl))
  obtain ⟨nC_width, nC_height, rdC, gaC, aPI, iPI, kPI, aPL, iPL, kPL, _⟩ := x1_ok (c.ex (b := x1) (List.mem_of_getElem? (i := 1) rfl))
  obtain ⟨aPC, iPC, kPC, aPE, iPE, kPE, aPG, iPG, kPG, fiPG, _⟩ := x2_ok (c.ex (b := x2) (List.mem_of_getElem? (i := 2) rfl))
  obtain ⟨aPS, iPS, kPS, gCR, pgCR, hdCR, poCR, saCR, mkCR, kpCR, _⟩ := x3_ok (c.ex (b := x3) (List.mem_of_getElem? (i := 3) rfl))
  obtain ⟨nCR_members, caCR, cmCR, aRI, iRI, kRI, aRc, iRc, kRc, gCS, _⟩ := x4_ok (c.ex (b := x4) (List.mem_of_getElem? (i := 4) rfl))
  obtain ⟨tyCS, pgCS, hdCS, poCS, saCS, mkCS, kpCS, nCS_width, nCS_height, nCS_rows, _⟩ := x5_ok (c.ex (b := x5) (List.mem_of_getElem? (i := 5) rfl))
  obtain ⟨rdCS, gaCS, aI, iI, kI, iRd, kRd, iOf, kOf, gCI, _⟩ := x6_ok (c.ex (b := x6) (List.mem_of_getElem? (i := 6) rfl))
  obtain ⟨atCI, ftCI, kEi, tyCI, hgCI, hkCI, svCI, sxCI, icCI, haCI, _⟩ := x7_ok (c.ex (b := x7) (List.mem_of_getElem? (i := 7) rfl))
  obtain ⟨hmCI, hdCI, kpCI, nCI_line, saCI, gCU, tyCU, hgCU, hkCU, svCU, _⟩ := x8_ok (c.ex (b := x8) (List.mem_of_getElem? (i := 8) rfl))
  obtain ⟨sxCU, icCU, haCU, hmCU, hdCU, kpCU, xU, aAw, iAw, kAw, _⟩ := x9_ok (c.ex (b := x9) (List.mem_of_getElem? (i := 9) rfl))
  obtain ⟨aTx, iTx, kTx, aCk, iCk, kCk, aGi, iGi, kGi, fiGi, _⟩ := x10_ok (c.ex (b := x10) (List.mem_of_getElem? (i := 10) rfl))
  obtain ⟨aFt, iFt, kFt, aWy, iWy, kWy, aIs, kIs, aSo, kSo, _⟩ := x11_ok (c.ex (b := x11) (List.mem_of_getElem? (i := 11) rfl))
  obtain ⟨aDf, kDf, aAs, kAs, aAl, kAl, aRw, kRw, aCz, kCz, _⟩ := x12_ok (c.ex (b := x12) (List.mem_of_getElem? (i := 12) rfl))
  obtain ⟨aNd, kNd, aBb, kBb, aBm, kBm, aBa, kBa, aBl, kBl, _⟩ := x13_ok (c.ex (b := x13) (List.mem_of_getElem? (i := 13) rfl))
  obtain ⟨aBag, kBag, aTake, kTake, aIi, kIi, aIc, kIc, aIz, kIz, _⟩ := x14_ok (c.ex (b := x14) (List.mem_of_getElem? (i := 14) rfl))
  obtain ⟨aOnce, kOnce, aPal, kPal, aRow, kRow, aGrid, kGrid, aBig, kBig, _⟩ := x15_ok (c.ex (b := x15) (List.mem_of_getElem? (i := 15) rfl))
  obtain ⟨aCe, kCe, aSl, kSl, aPt, kPt, aRi, kRi, aAd, kAd, _⟩ := x16_ok (c.ex (b := x16) (List.mem_of_getElem? (i := 16) rfl))
  obtain ⟨aTb, kTb, aLt, kLt, aLa, kLa, aRq, kRq, aWi, kWi, _⟩ := x17_ok (c.ex (b := x17) (List.mem_of_getElem? (i := 17) rfl))
  obtain ⟨aLi, kLi, aAg, kAg, aTw, kTw, aLaw, kLaw, aAny, kAny, _⟩ := x18_ok (c.ex (b := x18) (List.mem_of_getElem? (i := 18) rfl))
  obtain ⟨zisinstance, zint, zbool, ztuple, zlist, zlen, zrange, zall, zenumerate, zstr, _⟩ := x19_ok (c.ex (b := x19) (List.mem_of_getElem? (i := 19) rfl))
  obtain ⟨zset, zsorted, _⟩ := x20_ok (c.ex (b := x20) (List.mem_of_getElem? (i := 20) rfl))
  obtain ⟨uHo, aHo, rlHo⟩ := Hm.cvalB_ok (c.ex (b := y0) (List.mem_of_getElem? (i := 21) rfl))
  obtain ⟨uEd, aEd, rlEd⟩ := Hm.cvalB_ok (c.ex (b := y1) (List.mem_of_getElem? (i := 22) rfl))
  obtain ⟨uHg, aHg, rlHg, ggHg⟩ := Hm.ivalB_ok (c.ex (b := y2) (List.mem_of_getElem? (i := 23) rfl))
  obtain ⟨uEg, aEg, rlEg, ggEg⟩ := Hm.ivalB_ok (c.ex (b := y3) (List.mem_of_getElem? (i := 24) rfl))
  obtain ⟨cdtCS, cxCS⟩ := Hm.clsB_ok (c.ex (b := y4) (List.mem_of_getElem? (i := 25) rfl))
  obtain ⟨uAn, aAn, rlAn, ggAn⟩ := Hm.ivalB_ok (c.ex (b := y5) (List.mem_of_getElem? (i := 26) rfl))
  obtain ⟨uAv, aAv, rlAv⟩ := Hm.cvalB_ok (c.ex (b := y6) (List.mem_of_getElem? (i := 27) rfl))
  obtain ⟨aRd, restRd, rRd⟩ := He5.wrapB_ok (c.ex (b := y7) (List.mem_of_getElem? (i := 28) rfl))
  obtain ⟨aOf, restOf, rOf⟩ := He5.wrapB_ok (c.ex (b := y8) (List.mem_of_getElem? (i := 29) rfl))
  obtain ⟨nmCI, qnCI, nsCI, bsCI, bmCI, snCI, sbCI, abCI, coCI, ddCI, x0CI, x1CI, x2CI, x3CI, x5CI, lkCI, vbCI⟩ := Hm.excB_ok (c.ex (b := y9) (List.mem_of_getElem? (i := 30) rfl))
  obtain ⟨cdtCI, cxCI⟩ := Hm.clsB_ok (c.ex (b := y10) (List.mem_of_getElem? (i := 31) rfl))
  obtain ⟨cdtCU, cxCU⟩ := Hm.clsB_ok (c.ex (b := y11) (List.mem_of_getElem? (i := 32) rfl))
  obtain ⟨uSt, aSt, rlSt⟩ := Hm.globB_ok (c.ex (b := y12) (List.mem_of_getElem? (i := 33) rfl))
  obtain ⟨uMo, aMo, rlMo⟩ := Hm.globB_ok (c.ex (b := y13) (List.mem_of_getElem? (i := 34) rfl))
  obtain ⟨uWd, aWd, rlWd⟩ := Hm.globB_ok (c.ex (b := y14) (List.mem_of_getElem? (i := 35) rfl))
  exact Pm.all_mk (l := PySem.Challenge.rw_smalti_k22_sketch_pictures) X G hfa cn ct gC pgC hdC poC saC mkC kpC nC_rows nC_width nC_height rdC gaC aHo rlHo aEd rlEd aHg rlHg ggHg aEg rlEg ggEg aPI iPI lPI cPI kPI aPL iPL lPL cPL kPL aPC iPC lPC cPC kPC aPE iPE lPE cPE kPE aPG iPG lPG cPG kPG fiPG aPS iPS lPS cPS kPS gCR pgCR hdCR poCR saCR mkCR kpCR nCR_members caCR cmCR aRI iRI lRI cRI kRI aRc iRc lRc cRc kRc gCS cxCS tyCS pgCS hdCS poCS saCS mkCS kpCS nCS_width nCS_height nCS_rows rdCS gaCS aAn rlAn ggAn aAv rlAv aI iI lI cI kI wI aRd rRd iRd lRd cRd kRd aOf rOf iOf lOf cOf kOf gCI lkCI vbCI atCI ftCI lEi cEi kEi cxCI tyCI hgCI hkCI svCI sxCI icCI haCI hmCI hdCI kpCI nCI_line saCI gCU cxCU tyCU hgCU hkCU svCU sxCU icCU haCU hmCU hdCU kpCU xU aAw iAw lAw cAw kAw aTx iTx lTx cTx kTx aCk iCk lCk cCk kCk aGi iGi lGi cGi kGi fiGi aFt iFt lFt cFt kFt aWy iWy lWy cWy kWy aSt rlSt aMo rlMo aWd rlWd aIs lIs cIs kIs aSo lSo cSo kSo aDf lDf cDf kDf aAs lAs cAs kAs aAl lAl cAl kAl aRw lRw cRw kRw aCz lCz cCz kCz aNd lNd cNd kNd aBb lBb cBb kBb aBm lBm cBm kBm aBa lBa cBa kBa aBl lBl cBl kBl aBag lBag cBag kBag aTake lTake cTake kTake aIi lIi cIi kIi aIc lIc cIc kIc aIz lIz cIz kIz aOnce lOnce cOnce kOnce aPal lPal cPal kPal aRow lRow cRow kRow aGrid lGrid cGrid kGrid aBig lBig cBig kBig aCe lCe cCe kCe aSl lSl cSl kSl aPt lPt cPt kPt aRi lRi cRi kRi aAd lAd cAd kAd aTb lTb cTb kTb aLt lLt cLt kLt aLa lLa cLa kLa aRq lRq cRq kRq aWi lWi cWi kWi aLi lLi cLi kLi aAg lAg cAg kAg aTw lTw cTw kTw aLaw lLaw cLaw kLaw aAny lAny cAny kAny zisinstance zint zbool ztuple zlist zlen zrange zall zenumerate zstr zset zsorted
end Hd

open PySem PySem.W PySem.Calls PyProof.Rows in
set_option maxRecDepth 100000 in
set_option maxHeartbeats 0 in
theorem PySem.Challenge.cw_smalti_k22_sketch_pictures_holds : PySem.Challenge.rw_smalti_k22_sketch_pictures.Holds := by
  w_on; o_law
  refine HandSHeadRun.head_any (r := OpenLaw.row PySem.Challenge.rw_smalti_k22_sketch_pictures) (q := view (OpenLaw.row PySem.Challenge.rw_smalti_k22_sketch_pictures).prog [63]) (H := Hd.hk) (ob := Hd.ob) (M := 12000) (loose := Hd.loose) (d := HandSHeadRun.topDef (OpenLaw.row PySem.Challenge.rw_smalti_k22_sketch_pictures).prog 63) (kwd := []) Hd.ob_eq
    (by kernel_rfl) (fun s => by kernel_rfl) Hd.run (by kernel_rfl) (by kernel_rfl) (by kernel_rfl) (by rfl) (by first | assumption | decide +kernel) (by decide +kernel) ⟨rfl, rfl, rfl, rfl, rfl, by decide +kernel⟩ ?hw ?hc
  case hw => w_witness2
  case hc =>
    refine L2.walk_ofE (l := PySem.Challenge.rw_smalti_k22_sketch_pictures) (n := 63) (k := 8) (x := "_law_script") (CX := L2.CX0) rfl (by decide) (by kernel_rfl) ⟨rfl, by decide, by decide⟩ ?F (fun _ _ _ _ z => z)
    intro w mg fa h Y G hmg0
    obtain ⟨K, KX, c⟩ := Y
    have hmg : mg ("law" : PySem.Str) = some (.ref fa) := by
      have e : (HandSHeadRun.topDef (OpenLaw.row PySem.Challenge.rw_smalti_k22_sketch_pictures).prog 63).name = ("law" : PySem.Str) := by kernel_rfl
      rw [← e]
      exact hmg0
    obtain ⟨fd, hb, hF⟩ := Hd.facts (w := w) KX G hmg c
    exact ⟨K, fd, Pm.spLaw K, KX, hb, fun H a ns hl _ hS => ⟨a, ns, rfl, hS, hl, fun _ => rfl⟩, hF⟩
