import PyProof.Rows.All
import Wide.All
import OpenK.AllK
import Wide.FinOn
import PySem.Challenge.RW_foldletter_k31_kinds_shown
import HandS.ForMost
import HandS.Walk
import HandS.IsInst
import HandS.Wide
import HandS.ReplaceDef
import HandS.ReplaceLit
import HandS.ReplaceList
import HandS.StrMore
import HandS.ExcInit
import HandS.ExcIs
import HandS.ExcField
import HandS.Defaults
import HandS.TryOnly
import HandS.WordsExc
import HandS.Rev
import HandS.Conv
import HandS.ClsMeth
import HandS.FStr
import HandS.Flow
import HandS.Style
import HandS.Strs
import PyProof.FString3
import HandS.Ends
import PyProof.ReprRoads
import HandS.SetBool
import HandS.SetKeys
import HandS.FStrTup
import PyProof.ReprReads
import PyProof.StrLawsRepr
set_option Elab.async false
set_option linter.all false
set_option maxRecDepth 100000
set_option maxHeartbeats 4000000
namespace FL
open PySem PySem.Spec PyProof.Rows L2
def topS (i : Nat) : Stmt := PySem.Challenge.pw_foldletter_k31_kinds_shown.main.body.getD i (.Pass ⟨0, 0, 0, 0⟩)
abbrev cLetterError : Stmt := topS 1
abbrev cNoWords : Stmt := topS 2
abbrev cNoKind : Stmt := topS 3
abbrev sIsText : Stmt := topS 6
abbrev sIsLine : Stmt := topS 7
abbrev sIsLetter : Stmt := topS 8
abbrev sIsSmallLetter : Stmt := topS 9
abbrev sIsFigure : Stmt := topS 10
abbrev sIsSign : Stmt := topS 11
abbrev sQuoted : Stmt := topS 14
abbrev sIsAtom : Stmt := topS 15
abbrev sAtomEnd : Stmt := topS 16
abbrev sShowKind : Stmt := topS 20
abbrev sIsKind : Stmt := topS 21
abbrev sIsSort : Stmt := topS 22
abbrev sIsPair : Stmt := topS 23
abbrev sIsPairName : Stmt := topS 24
abbrev sIsWord : Stmt := topS 25
abbrev sShowPair : Stmt := topS 26
abbrev sCellAt : Stmt := topS 28
abbrev sMixed : Stmt := topS 29
abbrev sSource : Stmt := topS 30
abbrev sNext : Stmt := topS 31
abbrev sSigns : Stmt := topS 32
abbrev sLawIsAtom : Stmt := topS 33
abbrev sLawQuoted : Stmt := topS 34
abbrev sLawPlain : Stmt := topS 35
abbrev sLawTitle : Stmt := topS 36
abbrev sLawKind : Stmt := topS 37
abbrev sDue : Stmt := topS 38
abbrev sLaw : Stmt := topS 39
end FL

namespace FL
open PySem PySem.Spec PyProof.Rows L2
/-! ### small words -/
theorem pe_weak {X : Cx} {e : Expr} {t t' : TE} (h : PE X e t) (m : ∀ σ H Q, t' σ H Q → t σ H Q) : PE X e t' := ⟨fun pins s σ H Q I q => h.run pins s σ H Q I (m σ H Q q)⟩
theorem lt_one {a b : Nat} : ((([a] : List Nat) < [b])) ↔ a < b := by
  rw [List.cons_lt_cons_iff]
  simp
theorem bl_to {Q : V → Hp → Prop} {H : Hp} {a b : Bool} (e : a = b) (q : Q (.bl b) H) : Q (.bl a) H := by
  rw [e]
  exact q
def tBtw (i lo hi : Nat) : TE := fun σ H Q => ∃ c : Nat, σ[i]? = some (some (.str ⟨#[c]⟩)) ∧ Q (.bl (decide (lo ≤ c ∧ c ≤ hi))) H
theorem pe_btw {X : Cx} (i : Nat) {x a b : Str} {lo hi k1 k2 : Nat} {p1 p2 p3 pos : Pos} (ea : a.cps.toList = [lo]) (eb : b.cps.toList = [hi]) (hx : PE X (.Name x p2) (tVar i))
    (hm : lastMarks [.LtE, .LtE] [.Name x p2, .Constant (.str b) k2 p3] = false := by with_unfolding_all rfl) :
    PE X (.Compare (.Constant (.str a) k1 p1) [.LtE, .LtE] [.Name x p2, .Constant (.str b) k2 p3] pos) (tBtw i lo hi) := by
  refine pe_weak (pe_chain op_le_str op_le_str pe_str hx pe_str hm) ?_
  rintro σ H Q ⟨c, hc, q⟩
  refine ⟨_, hc, _, _, rfl, rfl, _, rfl, ?_⟩
  have e1 : (!decide (((⟨#[c]⟩ : Str).cps.toList) < a.cps.toList)) = decide (lo ≤ c) := by
    rw [ea]
    show (!decide (([c] : List Nat) < [lo])) = decide (lo ≤ c)
    rw [decide_eq_decide.mpr (lt_one (a := c) (b := lo))]
    by_cases h : lo ≤ c
    · rw [decide_eq_true h, decide_eq_false (by omega)]; rfl
    · rw [decide_eq_false h, decide_eq_true (by omega)]; rfl
  have e2 : (!decide (b.cps.toList < ((⟨#[c]⟩ : Str).cps.toList))) = decide (c ≤ hi) := by
    rw [eb]
    show (!decide (([hi] : List Nat) < [c])) = decide (c ≤ hi)
    rw [decide_eq_decide.mpr (lt_one (a := hi) (b := c))]
    by_cases h : c ≤ hi
    · rw [decide_eq_true h, decide_eq_false (by omega)]; rfl
    · rw [decide_eq_false h, decide_eq_true (by omega)]; rfl
  rw [e1]
  by_cases h1 : lo ≤ c
  · rw [decide_eq_true h1, if_pos rfl]
    refine ⟨_, _, rfl, rfl, bl_to e2 (bl_to ?_ q)⟩
    by_cases h2 : c ≤ hi
    · rw [decide_eq_true h2, decide_eq_true ⟨h1, h2⟩]
    · rw [decide_eq_false h2, decide_eq_false (fun z => h2 z.2)]
  · rw [decide_eq_false h1, if_neg Bool.false_ne_true]
    exact bl_to (decide_eq_false (fun z => h1 z.1)).symm q
/-- x or y of two truths -/
theorem pe_orB {X : Cx} {a b : Expr} {rest : List Expr} {pos : Pos} {ta tb : TE} (ha : PE X a ta) (hb : PE X (.BoolOp .Or (b :: rest) pos) tb) :
    PE X (.BoolOp .Or (a :: b :: rest) pos) (tOrV ta tb) := pe_or ha hb
/-! ### what stands where -/
structure FnAt (K : PySem.W.Frag) (mg : Str → Option Value) (x : Str) (st : Stmt) : Prop where
  ex : ∃ f fd, Fun K x x st f fd ∧ mg x = some (.ref f)
def Ready (P : Program) (w : World) (K : PySem.W.Frag) (mg : Str → Option Value) (base : Heap) (k : Nat) (x : Str) (ps : List Str) (sp : Sp) : Prop :=
  ∃ f fd, mg x = some (.ref f) ∧ PySem.W.keepIn K (.ref f) = true ∧ Binds K fd ps [] ∧ FnOk P w K mg base CX0 k f fd ps sp
section
variable {P : Program} {w : World} {K : PySem.W.Frag} {mg : Str → Option Value} {base : Heap}
theorem ready_of {x : Str} {st : Stmt} {k : Nat} {ps : List Str} {sp : Sp} (A : FnAt K mg x st)
    (hb : ∀ (kV doc pm : Value) (an : Option Addr) (cdv ct : Value) (us : List Value), us.length = ps.length → bindArgs (PySem.W.fnOf x x (defArgs st) (defBody st) (defScope st) .none kV doc pm an cdv ct) ⟨us, []⟩ = pure (ps.zip us))
    (ok : ∀ f fd, Fun K x x st f fd → FnOk P w K mg base CX0 k f fd ps sp) : Ready P w K mg base k x ps sp := by
  obtain ⟨f, fd, F, g⟩ := A.ex
  exact ⟨f, fd, g, F.kp, F.binds hb, ok f fd F⟩
/-! ### the mathematics of signs -/
def isLet (c : Nat) : Bool := decide (97 ≤ c ∧ c ≤ 122) || decide (65 ≤ c ∧ c ≤ 90)
def isFig (c : Nat) : Bool := decide (48 ≤ c ∧ c ≤ 57)
def isSig (c : Nat) : Bool := decide (c = 10) || (decide (32 ≤ c ∧ c ≤ 126) && !decide (c = 37))
def atomSigns : List Nat := [33, 35, 36, 38, 39, 42, 43, 45, 46, 47, 61, 63, 94, 95, 96, 123, 124, 125, 126]
def isAtm (c : Nat) : Bool := isLet c || (isFig c || decide (c ∈ atomSigns))
def spSign (f : Nat → Bool) : Sp := fun vs H Q _ => ∃ c : Nat, vs = [.str ⟨#[c]⟩] ∧ Q (.bl (f c)) H
theorem scIsLetter : FnScope ["sign"] ["sign"] (defScope sIsLetter) := ⟨rfl, rfl, rfl, by decide +kernel, rfl, by decide +kernel, by decide +kernel⟩
theorem r_is_letter (A : FnAt K mg "is_letter" sIsLetter) : Ready P w K mg base 1 "is_letter" ["sign"] (spSign isLet) := by
  refine ready_of A (fun _ _ _ _ _ _ us hl => match us, hl with | [_], _ => rfl) fun f fd F => ?_
  refine F.ok scIsLetter (fun vs H Q E h => ?_) (fun cdv A outer s H vs Q E hr h => ?_)
  · obtain ⟨c, rfl, _⟩ := h
    rfl
  · obtain ⟨c, rfl, q⟩ := h
    refine ⟨_, pss_one (ps_ret (pe_or (pe_btw (lo := 97) (hi := 122) 0 rfl rfl (pv 0)) (pe_one (pe_btw (lo := 65) (hi := 90) 0 rfl rfl (pv 0))))), ?_⟩
    refine ⟨c, rfl, _, rfl, ?_⟩
    by_cases h1 : 97 ≤ c ∧ c ≤ 122
    · rw [decide_eq_true h1, if_pos rfl]
      exact bl_to (by unfold isLet; rw [decide_eq_true h1]; rfl) q
    · rw [decide_eq_false h1, if_neg Bool.false_ne_true]
      exact ⟨c, rfl, bl_to (by unfold isLet; rw [decide_eq_false h1]; rfl) q⟩
theorem scIsFigure : FnScope ["sign"] ["sign"] (defScope sIsFigure) := ⟨rfl, rfl, rfl, by decide +kernel, rfl, by decide +kernel, by decide +kernel⟩
theorem r_is_figure (A : FnAt K mg "is_figure" sIsFigure) : Ready P w K mg base 1 "is_figure" ["sign"] (spSign isFig) := by
  refine ready_of A (fun _ _ _ _ _ _ us hl => match us, hl with | [_], _ => rfl) fun f fd F => ?_
  refine F.ok scIsFigure (fun vs H Q E h => ?_) (fun cdv A outer s H vs Q E hr h => ?_)
  · obtain ⟨c, rfl, _⟩ := h
    rfl
  · obtain ⟨c, rfl, q⟩ := h
    exact ⟨_, pss_one (ps_ret (pe_btw (lo := 48) (hi := 57) 0 rfl rfl (pv 0))), c, rfl, q⟩
theorem str_one {c d : Nat} : (V.str ⟨#[c]⟩ = V.str ⟨#[d]⟩) ↔ c = d := by
  constructor
  · intro h
    injection h with h
    injection h with h
    have h2 := congrArg Array.toList h
    simpa using h2
  · intro h
    rw [h]
theorem scIsSign : FnScope ["sign"] ["sign"] (defScope sIsSign) := ⟨rfl, rfl, rfl, by decide +kernel, rfl, by decide +kernel, by decide +kernel⟩
theorem r_is_sign (A : FnAt K mg "_is_sign" sIsSign) (mo : mg "ord" = none) {tp : Tok} (mp : mg "PERCENT" = some (.int 37 tp)) : Ready P w K mg base 1 "_is_sign" ["sign"] (spSign isSig) := by
  refine ready_of A (fun _ _ _ _ _ _ us hl => match us, hl with | [_], _ => rfl) fun f fd F => ?_
  refine F.ok scIsSign (fun vs H Q E h => ?_) (fun cdv A outer s H vs Q E hr h => ?_)
  · obtain ⟨c, rfl, _⟩ := h
    rfl
  · obtain ⟨c, rfl, q⟩ := h
    refine ⟨_, pss_one (ps_ret (pe_or (pe_cmpR op_eq (pv 0) pe_str (nomark _)) (pe_one (pe_and (pe_btw (lo := 32) (hi := 126) 0 rfl rfl (pv 0))
      (pe_one (pe_cmpR op_ne (pe_callB call_ord (by rfl) mo (by decide +kernel) (pa_cons (pv 0) pa_nil)) (pe_glob (v := .int 37) rfl mp ⟨tp, rfl⟩) (nomark _))))))), ?_⟩
    refine ⟨_, rfl, rfl, _, rfl, ?_⟩
    have e1 : decide (V.str ⟨#[c]⟩ = V.str ("\n" : Str)) = decide (c = 10) := decide_eq_decide.mpr (str_one (d := 10))
    rw [e1]
    by_cases h1 : c = 10
    · rw [decide_eq_true h1, if_pos rfl]
      exact bl_to (by unfold isSig; rw [decide_eq_true h1]; rfl) q
    · rw [decide_eq_false h1, if_neg Bool.false_ne_true]
      refine ⟨c, rfl, _, rfl, ?_⟩
      by_cases h2 : 32 ≤ c ∧ c ≤ 126
      · rw [decide_eq_true h2, if_pos rfl]
        refine ⟨_, rfl, _, rfl, rfl, rfl, bl_to ?_ q⟩
        unfold isSig
        rw [decide_eq_false h1, decide_eq_true h2, Bool.false_or, Bool.true_and]
        show (!decide (V.int ((c : Nat) : Int) = V.int 37)) = !decide (c = 37)
        congr 1
        refine decide_eq_decide.mpr ⟨fun h => ?_, fun h => by rw [h]; rfl⟩
        injection h with h
        omega
      · rw [decide_eq_false h2, if_neg Bool.false_ne_true]
        exact bl_to (by unfold isSig; rw [decide_eq_false h1, decide_eq_false h2]; rfl) q
end
end FL

namespace FL
open PySem PySem.Spec PyProof.Rows L2
section
variable {P : Program} {w : World} {K : PySem.W.Frag} {mg : Str → Option Value} {base : Heap}
theorem szl {n : Nat} (h : n ≤ 10000) : n < sizeLine := Nat.lt_of_le_of_lt h (by decide)
theorem same_new {H : Hp} {p : Addr} {o : HO} (h : H p = none) : Same H (upd H p o) := fun b x e => by
  rw [upd_ne (ne_of_none e h)]
  exact e
/-- a store to what was not there at the start -/
theorem same_set {H H1 : Hp} {p : Addr} {o : HO} (s : Same H H1) (h : H p = none) : Same H (upd H1 p o) := fun b x e => by
  rw [upd_ne (ne_of_none e h)]
  exact s b x e
theorem take_more {α : Type} {l : List α} {i : Nat} {x : α} (h : l[i]? = some x) : l.take (i + 1) = l.take i ++ [x] := by
  rw [List.take_add_one, h]
  rfl
def allSig (l : List Nat) : Bool := l.all isSig
def isLn (l : List Nat) : Bool := allSig l && !decide (10 ∈ l)
/-- of a text f of its signs; of what is none, False -/
def spLine (K : PySem.W.Frag) (f : List Nat → Bool) : Sp := fun vs H Q _ => ∃ v, vs = [v] ∧
  ((∃ z : Str, v = .str z ∧ z.length ≤ 10000 ∧ ∀ H', Same H H' → Q (.bl (f z.cps.toList)) H') ∨ (∃ t, TyX K H v t ∧ PySem.W.kitOne K t (.type "str") = some false ∧ Q (.bl false) H))
theorem scIsText : FnScope ["value", "sign"] ["value"] (defScope sIsText) := ⟨rfl, rfl, rfl, by decide +kernel, rfl, by decide +kernel, by decide +kernel⟩
theorem r_is_text (A : FnAt K mg "is_text" sIsText) (RS : Ready P w K mg base 1 "_is_sign" ["sign"] (spSign isSig)) (mi : mg "isinstance" = none) (ms : mg "str" = none) (ma : mg "all" = none) :
    Ready P w K mg base 2 "is_text" ["value"] (spLine K allSig) := by
  obtain ⟨fS, fdS, gS, kS, bS, GS⟩ := RS
  refine ready_of A (fun _ _ _ _ _ _ us hl => match us, hl with | [_], _ => rfl) fun f fd F => ?_
  refine F.ok scIsText (fun vs H Q E h => ?_) (fun cdv A outer s H vs Q E hr h => ?_)
  · obtain ⟨v, rfl, _⟩ := h
    rfl
  · obtain ⟨v, rfl, q⟩ := h
    refine ⟨_, pss_one (ps_ret (pe_and (pe_callB call_isi (by rfl) mi (by decide +kernel) (pa_cons (pv 0) (pa_cons (pe_bltn (v := .ty "str") (by rfl) ms (by decide +kernel) rfl) pa_nil)))
      (pe_one (pe_callB (cr_all rfl) (by rfl) ma (by decide +kernel) (pa_cons (pe_lc (own := [("sign", 1)]) (g := gName 1) (tt := tYes) (by rfl) scIsText.nd (pi_str (pv 0))
        (blkOk_by (own := [("sign", 1)]) (N := ["value", "sign"]) (sc := defScope sIsText) (by decide +kernel)) (fun _ _ _ _ _ => pg_name (i := 1) scIsText.nd rfl (Or.inl rfl)) (fun _ _ _ _ _ => pts_nil)
        (fun _ _ _ _ _ => pe_call GS hr (by rfl) gS kS bS .nil pass0 (pa_cons (pv 1) pa_nil))) pa_nil))))), ?_⟩
    rcases q with ⟨z, rfl, hz, q⟩ | ⟨t, ht, hk, q⟩
    · refine ⟨_, rfl, _, _, .type "str", .type "str", true, rfl, ClsV.ty "str", .base (.str z), kit_ty (by decide +kernel), true, rfl, iteT ?_⟩
      refine ⟨_, rfl, z, rfl, fun D hD => ?_⟩
      refine lc_it walk_str (fun i H' => Same H H' ∧ H' D = some (.lst ((z.cps.toList.take i).map fun c => V.bl (isSig c)))) ⟨same_new hD, upd_same⟩ (fun _ _ _ _ => trivial) (fun i x H1 H2 hi hp hy => ?_) (fun H1 hp => ?_)
      · obtain ⟨rfl, c, hc, rfl⟩ := hy
        obtain ⟨sm, hd⟩ := hp
        have hc' : z.cps.toList[i]? = some c := by
          rw [Array.getElem?_toList]
          exact hc
        refine ⟨rfl, ?_⟩
        unfold tYes
        refine iteT ?_
        refine ⟨_, rfl, c, rfl, _, hd, ?_, same_set sm hD, ?_⟩
        · rw [List.length_map]
          exact Nat.lt_of_le_of_lt (List.length_take_le _ _) (szl (by have h2 : z.cps.size = z.length := rfl; omega))
        · rw [upd_same, take_more hc', List.map_append]
          rfl
      · obtain ⟨sm, hd⟩ := hp
        have e : z.cps.toList.take z.cps.size = z.cps.toList := List.take_of_length_le (by simp)
        rw [e] at hd
        refine ⟨D, z.cps.toList.map isSig, rfl, SqL.of (by rw [List.map_map]; exact hd), bl_to ?_ (q H1 sm)⟩
        unfold allSig
        rw [List.all_map]
        rfl
    · exact ⟨_, rfl, _, _, t, .type "str", false, rfl, ClsV.ty "str", ht, hk, false, rfl, iteF q⟩
theorem scIsLine : FnScope ["value"] ["value"] (defScope sIsLine) := ⟨rfl, rfl, rfl, by decide +kernel, rfl, by decide +kernel, by decide +kernel⟩
theorem r_is_line (A : FnAt K mg "is_line" sIsLine) (RS : Ready P w K mg base 2 "is_text" ["value"] (spLine K allSig)) :
    Ready P w K mg base 3 "is_line" ["value"] (spLine K isLn) := by
  obtain ⟨fS, fdS, gS, kS, bS, GS⟩ := RS
  refine ready_of A (fun _ _ _ _ _ _ us hl => match us, hl with | [_], _ => rfl) fun f fd F => ?_
  refine F.ok scIsLine (fun vs H Q E h => ?_) (fun cdv A outer s H vs Q E hr h => ?_)
  · obtain ⟨v, rfl, _⟩ := h
    rfl
  · obtain ⟨v, rfl, q⟩ := h
    refine ⟨_, pss_one (ps_ret (pe_and (pe_call GS hr (by rfl) gS kS bS .nil pass0 (pa_cons (pv 0) pa_nil)) (pe_one (pe_cmpR op_notIn_sign pe_str (pv 0) (by rfl))))), ?_⟩
    refine ⟨_, rfl, v, rfl, ?_⟩
    rcases q with ⟨z, rfl, hz, q⟩ | ⟨t, ht, hk, q⟩
    · refine .inl ⟨z, rfl, hz, fun H' sm => ⟨_, rfl, ?_⟩⟩
      by_cases h1 : allSig z.cps.toList = true
      · rw [h1, if_pos rfl]
        refine ⟨_, rfl, 10, z, rfl, rfl, bl_to ?_ (q H' sm)⟩
        unfold isLn
        rw [h1]
        rfl
      · rw [eq_false_of_ne_true h1, if_neg Bool.false_ne_true]
        refine bl_to ?_ (q H' sm)
        unfold isLn
        rw [eq_false_of_ne_true h1]
        rfl
    · exact .inr ⟨t, ht, hk, false, rfl, iteF q⟩
theorem len_cps (z : Str) : z.cps.toList.length = z.length := by simp [Str.length]
end
end FL

namespace FL
open PySem PySem.Spec PyProof.Rows L2
section
variable {P : Program} {w : World} {K : PySem.W.Frag} {mg : Str → Option Value} {base : Heap}
def spCellAt (K : PySem.W.Frag) : Sp := fun vs H Q _ => ∃ (a : Addr) (ns : List Int) (k : Nat), vs = [.ref a, .int (k : Nat)] ∧ SqL K H a (ns.map V.int) ∧ ∀ x : Int, Q (.int x) H
theorem scCellAt : FnScope ["_law_script", "_law_k"] ["_law_script", "_law_k"] (defScope sCellAt) := ⟨rfl, rfl, rfl, by decide +kernel, rfl, by decide +kernel, by decide +kernel⟩
theorem r_cell_at (A : FnAt K mg "_law_cell_at" sCellAt) (ml : mg "len" = none) : Ready P w K mg base 1 "_law_cell_at" ["_law_script", "_law_k"] (spCellAt K) := by
  refine ready_of A (fun _ _ _ _ _ _ us hl => match us, hl with | [_, _], _ => rfl) fun f fd F => ?_
  refine F.ok scCellAt (fun vs H Q E h => ?_) (fun cdv A outer s H vs Q E hr h => ?_)
  · obtain ⟨a, ns, k, rfl, _⟩ := h
    rfl
  · obtain ⟨a, ns, k, rfl, hS, q⟩ := h
    refine ⟨_, pss_cons (ps_if (pt_cmpR op_lt (pv 1) (pe_callB call_len_seq (by rfl) ml PySem.boot_len (pa_cons (pv 0) pa_nil)) (nomark _)) (pss_one (ps_ret (pe_ix ix_list (pv 0) (pv 1) (fun _ _ => rfl)))) pss_nil)
      (pss_one (ps_ret pe_int)), ?_⟩
    refine ⟨_, rfl, _, rfl, a, _, rfl, .inl hS, _, _, rfl, rfl, _, rfl, ite2 (fun h => ?_) (fun h => ?_)⟩
    · have h1 : k < ns.length := by
        have := of_decide_eq_true h
        rw [List.length_map] at this
        omega
      refine ⟨_, rfl, _, rfl, a, _, _, _, rfl, rfl, hS, atI_nat (v := .int ns[k]) ?_, q _⟩
      rw [List.getElem?_map, List.getElem?_eq_getElem h1]
      rfl
    · exact q 0
def spMixed : Sp := fun vs H Q _ => ∃ (c k : Int), vs = [.int c, .int k] ∧ ∀ r : Int, 0 ≤ r → r < 2147483563 → Q (.int r) H
theorem scMixed : FnScope ["_law_cell", "_law_k", "_law_low"] ["_law_cell", "_law_k"] (defScope sMixed) := ⟨rfl, rfl, rfl, by decide +kernel, rfl, by decide +kernel, by decide +kernel⟩
theorem r_mixed (A : FnAt K mg "_law_mixed" sMixed) : Ready P w K mg base 1 "_law_mixed" ["_law_cell", "_law_k"] spMixed := by
  refine ready_of A (fun _ _ _ _ _ _ us hl => match us, hl with | [_, _], _ => rfl) fun f fd F => ?_
  refine F.ok scMixed (fun vs H Q E h => ?_) (fun cdv A outer s H vs Q E hr h => ?_)
  · obtain ⟨c, k, rfl, _⟩ := h
    rfl
  · obtain ⟨c, k, rfl, q⟩ := h
    refine ⟨_, pss_cons (ps_set (i := 2) scMixed.nd rfl (.inl rfl) (pe_op op_add (pe_op op_mod (pv 0) pe_int) (pe_op op_mul (pe_op op_fdivW (pv 0) pe_int) pe_int)))
      (pss_cons (ps_set (i := 2) scMixed.nd rfl (.inl rfl) (pe_op op_mod (pe_op op_mul (pe_op op_add (pe_op op_add (pv 2) (pe_op op_mul pe_int (pv 1))) pe_int) pe_int) pe_int))
      (pss_cons (ps_set (i := 2) scMixed.nd rfl (.inl rfl) (pe_op op_mod (pe_op op_mul (pv 2) (pe_op op_add (pe_op op_add (pe_op op_fdivN (pv 2) pe_int) pe_int) (pv 1))) pe_int))
      (pss_one (ps_ret (pe_op op_mod (pe_op op_mul (pv 2) (pe_op op_add (pe_op op_fdivN (pv 2) pe_int) pe_int)) pe_int))))), ?_⟩
    refine ⟨_, rfl, _, _, rfl, rfl, (show (0 : Int) < 2147483629 by decide), _, rfl, _, _, rfl, rfl, wide_div (b := 40) (by decide) (by decide) (by decide) (by decide), _, _, rfl, rfl, .inr (by decide), _, _, rfl, rfl, ?_⟩
    generalize c % 2147483629 + c / 2147483629 * 30011 = x1
    refine ⟨_, rfl, _, rfl, _, _, rfl, rfl, .inl (by decide), _, _, rfl, rfl, _, _, rfl, rfl, _, _, rfl, rfl, .inr (by decide), _, _, rfl, rfl, (show (0 : Int) < 2147483629 by decide), ?_⟩
    have a2 := Int.emod_nonneg ((x1 + 69621 * k + 1) * 48271) (by decide : (2147483629 : Int) ≠ 0)
    have b2 := Int.emod_lt_of_pos ((x1 + 69621 * k + 1) * 48271) (by decide : (0 : Int) < 2147483629)
    generalize ((x1 + 69621 * k + 1) * 48271) % 2147483629 = x2 at a2 b2
    refine ⟨_, rfl, _, rfl, _, _, rfl, rfl, ⟨by decide, by decide⟩, _, _, rfl, rfl, _, rfl, _, _, rfl, rfl, _, _, rfl, rfl, .inl ⟨by omega, by omega⟩, _, _, rfl, rfl, (show (0 : Int) < 2147483587 by decide), ?_⟩
    generalize hX : x2 * (x2.fdiv 907 + 16831 + k) = X3
    have a3 := Int.emod_nonneg X3 (by decide : (2147483587 : Int) ≠ 0)
    have b3 := Int.emod_lt_of_pos X3 (by decide : (0 : Int) < 2147483587)
    generalize X3 % 2147483587 = x3 at a3 b3
    refine ⟨_, rfl, _, rfl, _, _, rfl, rfl, ⟨by decide, by decide⟩, _, _, rfl, rfl, _, _, rfl, rfl, .inl ⟨by omega, by omega⟩, _, _, rfl, rfl, (show (0 : Int) < 2147483563 by decide), ?_⟩
    exact q _ (Int.emod_nonneg _ (by decide)) (Int.emod_lt_of_pos _ (by decide))
/-- a source: three numbers at a -/
def Src (H : Hp) (a : Addr) : Prop := ∃ x y z : Int, H a = some (.lst [.int x, .int y, .int z])
def spSource (K : PySem.W.Frag) : Sp := fun vs H Q _ => ∃ (a : Addr) (ns : List Int) (k : Nat), vs = [.ref a, .int (k : Nat)] ∧ SqL K H a (ns.map V.int) ∧ ∀ H' p, Same H H' → H p = none → Src H' p → Q (.ref p) H'
theorem scSource : FnScope ["_law_script", "_law_k", "_law_cell"] ["_law_script", "_law_k"] (defScope sSource) := ⟨rfl, rfl, rfl, by decide +kernel, rfl, by decide +kernel, by decide +kernel⟩
theorem r_source (A : FnAt K mg "_law_source" sSource) (RC : Ready P w K mg base 1 "_law_cell_at" ["_law_script", "_law_k"] (spCellAt K)) (RM : Ready P w K mg base 1 "_law_mixed" ["_law_cell", "_law_k"] spMixed) (ml : mg "len" = none) :
    Ready P w K mg base 2 "_law_source" ["_law_script", "_law_k"] (spSource K) := by
  obtain ⟨f1, fd1, g1, k1, b1, G1⟩ := RC
  obtain ⟨f2, fd2, g2, k2, b2, G2⟩ := RM
  refine ready_of A (fun _ _ _ _ _ _ us hl => match us, hl with | [_, _], _ => rfl) fun f fd F => ?_
  refine F.ok scSource (fun vs H Q E h => ?_) (fun cdv A outer s H vs Q E hr h => ?_)
  · obtain ⟨a, ns, k, rfl, _⟩ := h
    rfl
  · obtain ⟨a, ns, k, rfl, hS, q⟩ := h
    have ix : ∀ e1 e2, PlainIx (.Name e1 e2) := fun _ _ _ _ => rfl
    refine ⟨_, pss_cons (ps_if (pt_cmpR op_lt (pv 1) (pe_callB call_len_seq (by rfl) ml PySem.boot_len (pa_cons (pv 0) pa_nil)) (nomark _))
        (pss_one (ps_ret (pe_lst (pa_cons (pe_ix ix_list (pv 0) (pv 1) (fun _ _ => rfl)) (pa_cons (pe_ix ix_list (pv 0) (pv 1) (fun _ _ => rfl)) (pa_cons pe_int pa_nil)))))) pss_nil)
      (pss_cons (ps_set (i := 2) scSource.nd rfl (.inl rfl) (pe_call G2 hr (by rfl) g2 k2 b2 .nil pass0 (pa_cons (pe_call G1 hr (by rfl) g1 k1 b1 .nil pass0 (pa_cons (pv 0) (pa_cons pe_int pa_nil))) (pa_cons (pe_op op_add pe_int (pv 1)) pa_nil))))
      (pss_one (ps_ret (pe_lst (pa_cons (pv 2) (pa_cons (pv 2) (pa_cons pe_int pa_nil))))))), ?_⟩
    refine ⟨_, rfl, _, rfl, a, _, rfl, .inl hS, _, _, rfl, rfl, _, rfl, ite2 (fun h => ?_) (fun h => ?_)⟩
    · have h1 : k < ns.length := by
        have := of_decide_eq_true h
        rw [List.length_map] at this
        omega
      have g : (ns.map V.int)[k]? = some (.int ns[k]) := by
        rw [List.getElem?_map, List.getElem?_eq_getElem h1]
        rfl
      refine ⟨_, rfl, _, rfl, a, _, _, _, rfl, rfl, hS, atI_nat g, _, rfl, _, rfl, a, _, _, _, rfl, rfl, hS, atI_nat g, (by show 3 ≤ sizeLine; decide), fun l hl => ?_⟩
      exact q _ l (same_new hl) hl ⟨_, _, _, upd_same⟩
    · refine ⟨_, rfl, a, ns, 0, rfl, hS, fun x => ⟨_, rfl, _, _, rfl, rfl, x, _, rfl, fun r _ _ => ?_⟩⟩
      refine ⟨_, rfl, _, rfl, (by show 3 ≤ sizeLine; decide), fun l hl => ?_⟩
      exact q _ l (same_new hl) hl ⟨_, _, _, upd_same⟩
def spNext : Sp := fun vs H Q _ => ∃ (a : Addr) (m : Nat) (x y z : Int), vs = [.ref a, .int (m : Nat)] ∧ 1 ≤ m ∧ m ≤ 100000 ∧ H a = some (.lst [.int x, .int y, .int z]) ∧
  ∀ (r : Nat) (x' z' : Int), r < m → Q (.int (r : Nat)) (upd H a (.lst [.int x', .int y, .int z']))
theorem scNext : FnScope ["_law_source_here", "_law_many", "_law_found"] ["_law_source_here", "_law_many"] (defScope sNext) := ⟨rfl, rfl, rfl, by decide +kernel, rfl, by decide +kernel, by decide +kernel⟩
theorem r_next (A : FnAt K mg "_law_next" sNext) (RM : Ready P w K mg base 1 "_law_mixed" ["_law_cell", "_law_k"] spMixed) : Ready P w K mg base 2 "_law_next" ["_law_source_here", "_law_many"] spNext := by
  obtain ⟨f2, fd2, g2, k2, b2, G2⟩ := RM
  refine ready_of A (fun _ _ _ _ _ _ us hl => match us, hl with | [_, _], _ => rfl) fun f fd F => ?_
  refine F.ok scNext (fun vs H Q E h => ?_) (fun cdv A outer s H vs Q E hr h => ?_)
  · obtain ⟨a, m, x, y, z, rfl, _⟩ := h
    rfl
  · obtain ⟨a, m, x, y, z, rfl, hm1, hm2, hS, q⟩ := h
    refine ⟨_, pss_cons (ps_if (pt_cmpR op_ge (pe_ix ix_list (pv 0) pe_int (fun _ _ => rfl)) (pe_op op_pow pe_int pe_int) (nomark _))
        (pss_cons (ps_set (i := 2) scNext.nd rfl (.inl rfl) (pe_op op_mod (pe_ix ix_list (pv 0) pe_int (fun _ _ => rfl)) (pv 1)))
          (pss_cons (ps_asg (pe_op op_fdivN (pe_ix ix_list (pv 0) pe_int (fun _ _ => rfl)) (pv 1)) (pg_sub (pv 0) pe_int set_list))
          (pss_one (ps_ret (pv 2))))) pss_nil)
      (pss_cons (ps_asg (pe_op op_add (pe_ix ix_list (pv 0) pe_int (fun _ _ => rfl)) pe_int) (pg_sub (pv 0) pe_int set_list))
      (pss_one (ps_ret (pe_op op_mod (pe_call G2 hr (by rfl) g2 k2 b2 .nil pass0 (pa_cons (pe_ix ix_list (pv 0) pe_int (fun _ _ => rfl)) (pa_cons (pe_ix ix_list (pv 0) pe_int (fun _ _ => rfl)) pa_nil))) (pv 1))))), ?_⟩
    have hm0 : (0 : Int) < (m : Int) := by omega
    refine ⟨_, rfl, a, _, _, .int x, rfl, rfl, SqL.of hS, rfl, _, _, rfl, rfl, ⟨by decide, by decide, by decide⟩, _, _, rfl, rfl, _, rfl, ite2 (fun h => ?_) (fun h => ?_)⟩
    · refine ⟨_, rfl, a, _, _, .int x, rfl, rfl, SqL.of hS, rfl, _, rfl, _, _, rfl, rfl, hm0, ?_⟩
      refine ⟨_, rfl, a, _, _, .int x, rfl, rfl, SqL.of hS, rfl, _, rfl, _, _, rfl, rfl, ⟨by omega, by omega⟩, _, rfl, a, _, _, 0, rfl, rfl, hS, rfl, ?_⟩
      have h1 := Int.emod_nonneg x (by omega : (m : Int) ≠ 0)
      have h2 := Int.emod_lt_of_pos x hm0
      have e : ((x % (m : Int)).toNat : Int) = x % (m : Int) := Int.toNat_of_nonneg h1
      refine ⟨_, rfl, ?_⟩
      have := q (x % (m : Int)).toNat (x.fdiv m) z (by omega)
      rw [e] at this
      exact this
    · refine ⟨_, rfl, a, _, _, .int z, rfl, rfl, SqL.of hS, rfl, _, _, rfl, rfl, _, rfl, a, _, _, 2, rfl, rfl, hS, rfl, ?_⟩
      refine ⟨_, rfl, a, _, _, .int y, rfl, rfl, SqL.of upd_same, rfl, _, rfl, a, _, _, .int (z + 1), rfl, rfl, SqL.of upd_same, rfl, y, _, rfl, fun r _ _ => ?_⟩
      refine ⟨_, rfl, _, _, rfl, rfl, hm0, ?_⟩
      have h1 := Int.emod_nonneg r (by omega : (m : Int) ≠ 0)
      have h2 := Int.emod_lt_of_pos r hm0
      have e : ((r % (m : Int)).toNat : Int) = r % (m : Int) := Int.toNat_of_nonneg h1
      have := q (r % (m : Int)).toNat x (z + 1) (by omega)
      rw [e] at this
      exact this
end
end FL

namespace FL
open PySem PySem.Spec PyProof.Rows L2
section
variable {P : Program} {w : World} {K : PySem.W.Frag} {mg : Str → Option Value} {base : Heap}
/-- only the source at a has changed, and new things came -/
structure Drawn (a : Addr) (H H' : Hp) : Prop where
  old : ∀ b o, b ≠ a → H b = some o → H' b = some o
  src : Src H' a
theorem Drawn.refl {a : Addr} {H : Hp} (h : Src H a) : Drawn a H H := ⟨fun _ _ _ h => h, h⟩
theorem Drawn.trans {a : Addr} {H H1 H2 : Hp} (x : Drawn a H H1) (y : Drawn a H1 H2) : Drawn a H H2 := ⟨fun b o n h => y.old b o n (x.old b o n h), y.src⟩
theorem Drawn.same {a : Addr} {H H1 H2 : Hp} (x : Drawn a H H1) (s : Same H1 H2) : Drawn a H H2 :=
  ⟨fun b o n h => s b o (x.old b o n h), let ⟨p, q, r, e⟩ := x.src; ⟨p, q, r, s _ _ e⟩⟩
theorem drawn_upd {a : Addr} {H : Hp} {x y z : Int} : Drawn a H (upd H a (.lst [.int x, .int y, .int z])) := ⟨fun b o n h => by rw [upd_ne n]; exact h, ⟨x, y, z, upd_same⟩⟩
theorem drawn_set {a p : Addr} {H H1 : Hp} {o : HO} (x : Drawn a H H1) (h : H p = none) (n : a ≠ p) : Drawn a H (upd H1 p o) :=
  ⟨fun b u nb e => by rw [upd_ne (ne_of_none e h)]; exact x.old b u nb e, let ⟨u, v, r, e⟩ := x.src; ⟨u, v, r, by rw [upd_ne n]; exact e⟩⟩
theorem joinL_nil : ∀ L : List (List Nat), TL.joinL [] L = L.flatten
  | [] => rfl
  | [p] => by simp [TL.joinL]
  | p :: q :: r => by
    have := joinL_nil (q :: r)
    show p ++ ([] ++ TL.joinL [] (q :: r)) = _
    rw [List.nil_append, this]
    rfl
theorem join_codes (ys : List Str) : (Txt.join ("" : Str) ys).cps.toList = (ys.map fun y => y.cps.toList).flatten := by
  have e : TL.tl ("" : Str) = [] := by decide +kernel
  have h := TL.tl_join ("" : Str) ys
  rw [← TL.join_eq, e, joinL_nil] at h
  exact h
theorem sum_one {ys : List Str} (h : ∀ t ∈ ys, t.length ≤ 1) : (ys.map (·.length)).sum ≤ ys.length := by
  induction ys with
  | nil => exact Nat.le_refl _
  | cons y r ih =>
    have h1 := h y (List.mem_cons_self ..)
    have h2 := ih fun t ht => h t (List.mem_cons_of_mem _ ht)
    rw [List.map_cons, List.sum_cons, List.length_cons]
    omega
theorem codes_one (c : Nat) : (⟨#[c]⟩ : Str).cps.toList = [c] := rfl
theorem flat_ones {ys : List Str} {l : List Nat} (h : ∀ t ∈ ys, ∃ c ∈ l, t = ⟨#[c]⟩) : (∀ c ∈ (ys.map fun y => y.cps.toList).flatten, c ∈ l) ∧ ((ys.map fun y => y.cps.toList).flatten).length = ys.length := by
  induction ys with
  | nil => exact ⟨fun c hc => by simp at hc, rfl⟩
  | cons y r ih =>
    obtain ⟨i1, i2⟩ := ih fun t ht => h t (List.mem_cons_of_mem _ ht)
    obtain ⟨c, hc, rfl⟩ := h y (List.mem_cons_self ..)
    rw [List.map_cons, List.flatten_cons]
    show (∀ d ∈ [c] ++ _, d ∈ l) ∧ ([c] ++ _).length = _
    refine ⟨fun d hd => ?_, by rw [List.length_append, i2, List.length_cons]; simp; omega⟩
    rcases List.mem_append.mp hd with hd | hd
    · rw [List.mem_singleton.mp hd]; exact hc
    · exact i1 d hd
def spSigns : Sp := fun vs H Q _ => ∃ (a : Addr) (s : Str) (m : Nat), vs = [.ref a, .str s, .int (m : Nat)] ∧ 1 ≤ s.length ∧ s.length ≤ 10000 ∧ m ≤ 10000 ∧ Src H a ∧
  ∀ (t : Str) (H' : Hp), (∀ c ∈ t.cps.toList, c ∈ s.cps.toList) → t.length = m → Drawn a H H' → Q (.str t) H'
theorem scSigns : FnScope ["_law_source_here", "_law_signs_here", "_law_many", "_law_k"] ["_law_source_here", "_law_signs_here", "_law_many"] (defScope sSigns) := ⟨rfl, rfl, rfl, by decide +kernel, rfl, by decide +kernel, by decide +kernel⟩
theorem r_signs (A : FnAt K mg "_law_signs" sSigns) (RN : Ready P w K mg base 2 "_law_next" ["_law_source_here", "_law_many"] spNext) (ml : mg "len" = none) (mr : mg "range" = none) :
    Ready P w K mg base 3 "_law_signs" ["_law_source_here", "_law_signs_here", "_law_many"] spSigns := by
  obtain ⟨f2, fd2, g2, k2, b2, G2⟩ := RN
  refine ready_of A (fun _ _ _ _ _ _ us hl => match us, hl with | [_, _, _], _ => rfl) fun f fd F => ?_
  refine F.ok scSigns (fun vs H Q E h => ?_) (fun cdv A outer s H vs Q E hr h => ?_)
  · obtain ⟨a, s, m, rfl, _⟩ := h
    rfl
  · obtain ⟨a, z, m, rfl, hz1, hz2, hm, hS, q⟩ := h
    refine ⟨_, pss_one (ps_ret (pe_join pe_str (pe_lc (own := [("_law_k", 3)]) (g := gName 3) (tt := tYes) (by rfl) scSigns.nd (pi_range1 (by rfl) mr (pa_cons (pv 2) pa_nil))
      (blkOk_by (own := [("_law_k", 3)]) (N := ["_law_source_here", "_law_signs_here", "_law_many", "_law_k"]) (sc := defScope sSigns) (by decide +kernel)) (fun _ _ _ _ _ => pg_name (i := 3) scSigns.nd rfl (Or.inl rfl)) (fun _ _ _ _ _ => pts_nil)
      (fun _ _ _ _ _ => pe_item_str (pv 1) (pe_call G2 hr (by rfl) g2 k2 b2 .nil pass0 (pa_cons (pv 0) (pa_cons (pe_callB call_len_str (by rfl) ml PySem.boot_len (pa_cons (pv 1) pa_nil)) pa_nil))) (fun _ _ => rfl))))), ?_⟩
    refine ⟨⟨_, rfl⟩, _, rfl, m, rfl, by omega, by omega, fun D hD => ?_⟩
    have hDa : a ≠ D := fun e => by
      obtain ⟨x, y, u, hx⟩ := hS
      rw [e, hD] at hx
      cases hx
    rw [Int.toNat_natCast]
    refine lc_it walk_range (fun i H' => Drawn a H H' ∧ ∃ ys : List Str, H' D = some (.lst (ys.map V.str)) ∧ ys.length = i ∧ ∀ t ∈ ys, ∃ c ∈ z.cps.toList, t = ⟨#[c]⟩) ⟨drawn_set (Drawn.refl hS) hD hDa, [], upd_same, rfl, fun _ h => by simp at h⟩ (fun _ _ _ _ => trivial) (fun i x H1 H2 hi hp hy => ?_) (fun H1 hp => ?_)
    · obtain ⟨rfl, rfl⟩ := hy
      obtain ⟨dr, ys, hd, hy1, hy2⟩ := hp
      obtain ⟨x, y, u, hx⟩ := dr.src
      refine ⟨rfl, ?_⟩
      unfold tYes
      refine iteT ?_
      refine ⟨_, rfl, _, rfl, _, rfl, z, rfl, Nat.le_of_lt (szl hz2), a, z.length, x, y, u, rfl, hz1, by omega, hx, fun r x' z' hr' => ?_⟩
      have hc : z.cps[r]? = some (z.cps[r]'hr') := Array.getElem?_eq_getElem hr'
      refine ⟨z, r, _, rfl, rfl, by omega, by omega, by omega, by rw [Int.toNat_natCast]; exact hc, ?_⟩
      have hd' : (upd H2 a (.lst [.int x', .int y, .int z'])) D = some (.lst (ys.map V.str)) := by rw [upd_ne hDa.symm]; exact hd
      refine ⟨_, hd', ?_, ?_, ys ++ [⟨#[z.cps[r]'hr']⟩], ?_, ?_, ?_⟩
      · rw [List.length_map]
        exact szl (by omega)
      · exact drawn_set (dr.trans drawn_upd) hD hDa
      · rw [upd_same, List.map_append]
        rfl
      · rw [List.length_append, hy1]
        rfl
      · intro t ht
        rcases List.mem_append.mp ht with ht | ht
        · exact hy2 t ht
        · exact ⟨_, Array.mem_def.mp (Array.getElem_mem hr'), List.mem_singleton.mp ht⟩
    · obtain ⟨dr, ys, hd, hy1, hy2⟩ := hp
      have h3 := sum_one (ys := ys) fun t ht => by
        obtain ⟨c, _, rfl⟩ := hy2 t ht
        exact Nat.le_refl 1
      obtain ⟨h4, h5⟩ := flat_ones hy2
      rw [← join_codes] at h4 h5
      have e0 : ("" : Str).length = 0 := by decide +kernel
      refine ⟨("" : Str), D, ys, rfl, rfl, .inl (SqL.of hd), ?_, q _ H1 h4 ?_ dr⟩
      · rw [e0]
        omega
      · rw [← len_cps, h5, hy1]
end
end FL

namespace FL
open PySem PySem.Spec PyProof.Rows L2
/-! ### the class of a caught error that has a dict of its own -/
section
open PySem.W PySem.Calls
theorem cls_found {K : Frag} {D : Addr} {oo : Option Obj} (G : ExcC K D) : findObj K D oo "__class__" = some (.bind (.builtin "getset_descriptor.__get__") (.builtin "object.__class__")) := by
  obtain ⟨cd, hc, _⟩ := any_some G.hd
  unfold findObj
  rw [hc, Option.bind_some, G.ha, Option.bind_some]
  simp [G.hn, G.ht]
theorem cls_of_exc {prog : Program} {w : World} {A : Around} {E : Value → Shared → Prop} {s : Shared} {K : Frag} {x D : Addr} {ox : Obj} {oo : Option Obj} {Q : Option Value → Shared → Prop}
    (G : ExcC K D) (Y : K.In s.heap) (J : InstAt s.heap x ox D oo) (q : Q (some (.ref D)) { s with toks := s.toks + 1 }) : wpAny (model prog w) A (getAttr? (.ref x) "__class__") Q E s := by
  have found := cls_found (oo := oo) G
  obtain ⟨hh, gg, dd, tt, oos⟩ := s
  have t0 : Looks (model prog w) hh (typeOf (.ref x)) (.ref D) := J.type
  have t1 := looks_findIn (M := model prog w) Y G.hg
  have t2 := looks_findIn (M := model prog w) Y G.hk
  have t3 := looks_find (M := model prog w) Y J found
  have isB : Looks (model prog w) hh (isInstance (.ref x) (.type "BaseException")) true := t0.andThen (looks_subIn Y G.hs)
  have n0 : (false && onTheHeap (Value.builtin "BaseException.__getattribute__")) = false := rfl
  have n1 : (onTheHeap (Value.ref D) && Value.builtin "BaseException.__getattribute__" == Value.builtin "object.__getattribute__") = false := by
    rw [show (Value.builtin "BaseException.__getattribute__" == Value.builtin "object.__getattribute__") = false by decide +kernel]
    rfl
  unfold getAttr? getAttrBy? getAttrBy
  refine wpAny_bind (wpAny_mkText (wpAny_bind (wpAny_attempt (wpAny_holding (wpAny_bind (t0.at (wpAny_bind (t1.at ?_))))))))
  refine (show wpAny (model prog w) A (if (onTheHeap (Value.ref D) && Value.builtin "BaseException.__getattribute__" == Value.builtin "object.__getattribute__") = true then _ else _) _ _ _ from ?_)
  rw [n1, if_neg Bool.false_ne_true]
  unfold getAttrByItsOwn hookBefore
  refine wpAny_bind ?_
  rw [if_pos (show onTheHeap (Value.ref D) = true from rfl)]
  refine t2.at (wpAny_bind (wpAny_attempt (wpAny_holding ?_)))
  unfold callGetattribute
  rw [n0, if_neg Bool.false_ne_true]
  unfold boundAndCalled
  rw [PySem.F.excAttr_ValueError.ga.bind (.ref x)]
  refine wpAny_bind (wpAny_pure ?_)
  refine (show wpAny (model prog w) _ (call (.builtin "BaseException.__getattribute__") [.ref x, .str "__class__" tt]) _ _ _ from ?_)
  refine wpAny_call (codeAny_call_builtin PySem.F.excAttr_ValueError.ga.plain PySem.F.entry_bexc_ga ?_)
  refine @check_slot (model prog w) _ _ ⟨hh, gg, dd, tt + 1, oos⟩ "BaseException.__getattribute__" "BaseException" "__getattribute__" (.ref x) [.str "__class__" tt] [] _ (by decide +kernel) (by decide +kernel) isB (PySem.F.args_bexc_ga (.ref x) (.str "__class__" tt)) ?_
  unfold Builtin.«object.__getattribute__»
  refine wpAny_bind (wpAny_of_eq (a := ((Value.ref x : Value), [Value.str "__class__" tt])) (by first | rfl | (simp only [slotArgs]; rfl)) ?_)
  refine wpAny_bind (wpAny_pure (wpAny_bind (t0.at (wpAny_bind (t3.at ?_)))))
  refine (show wpAny (model prog w) _ (holding [Value.builtin "object.__class__"] (call (.builtin "getset_descriptor.__get__") [.builtin "object.__class__", .ref x, .ref D]) >>= ret) _ _ _ from ?_)
  refine wpAny_bind (wpAny_holding (wpAny_call (class_get (s := ⟨hh, gg, dd, tt + 1, oos⟩) (ox := ox) (od := oo) Y J G.hm (wpAny_pure ?_))))
  refine (show wpAny (model prog w) _ (handedOut (.ref D)) _ _ _ from ?_)
  rw [handedOut_of (v := .ref D) rfl]
  first
    | exact wpAny_pure (wpAny_pure q)
    | exact wpAny_pure q
    | exact wpAny_pure (wpAny_bind (wpAny_pure (wpAny_pure q)))
/-- an own class at D stands in the written part as a class -/
theorem cls_there {K : Frag} {D : Addr} (h : hasDictIn K D = true) : ∃ c d' cd sl, K.lookup D = some ⟨c, d', .cls cd, sl⟩ := by
  obtain ⟨cd, hc, _⟩ := any_some h
  unfold clsIn at hc
  split at hc
  · rename_i c' d' cd' sl' ho
    exact ⟨c', d', cd', sl', ho⟩
  · cases hc
theorem kitx_excD {K : Frag} {x D : Addr} {ox : Obj} {oo : Option Obj} (G : ExcC K D) : KitX K (.ref x) (.ref D) (fun h => InstAt h x ox D oo) where
  ty := fun _ _ _ J => J.type
  it := fun _ _ Y _ => by
    obtain ⟨c', d', cd', sl', ho⟩ := cls_there G.hd
    intro A' Q' E' s' k q
    unfold isType loadHead
    exact wpAny_bind (wpAny_loadPart (k _ _ (Y _ _ ho)) (wpAny_pure q))
  ne := fun h tp dd its n sl Y htp => by
    obtain ⟨c', d', cd', sl', ho⟩ := cls_there G.hd
    refine Bool.eq_false_iff.mpr fun z => ?_
    have e : D = tp := Value.ref.inj (beq_iff_eq.mp z)
    subst e
    have z2 := (Y _ _ ho).symm.trans htp
    cases z2
  ca := fun Y J k => cls_of_exc G Y J k
end
theorem kit_same {K : PySem.W.Frag} {C : Addr} : PySem.W.kitOne K (.ref C) (.ref C) = some true := by
  unfold PySem.W.kitOne
  rw [if_pos (beq_self_eq_true _)]
theorem kit_own {K : PySem.W.Frag} {C D : Addr} {b : Bool} (n : ((Value.ref C) == (Value.ref D)) = false) (t : PySem.W.typeIn K (.ref D) = some (.type "type")) (d : PySem.W.hasDictIn K D = true) (s : PySem.W.subIn K (.ref C) (.ref D) = some b) : PySem.W.kitOne K (.ref C) (.ref D) = some b := by
  obtain ⟨cd, hc, _⟩ := PySem.W.any_some d
  unfold PySem.W.kitOne
  rw [if_neg (by rw [n]; exact Bool.false_ne_true)]
  show (if ((PySem.W.clsIn K D).isSome && PySem.W.typeIn K (.ref D) == some (.type "type")) = true then PySem.W.subIn K (.ref C) (.ref D) else none) = some b
  rw [hc, t, if_pos (by rfl)]
  exact s
/-- isinstance(e, c), e the caught error at a, its own dict at dd -/
def rIsD (K : PySem.W.Frag) (D a : Addr) (dd : Addr) : List V → Hp → VK → Prop := fun xs H Q => ∃ (c : V) (cv : Value) (b : Bool) (fs : List (Str × V)), xs = [.ref a, c] ∧ H dd = some (.xd fs) ∧ (∀ u, RelV c u → u = cv) ∧ PySem.W.kitOne K (.ref D) cv = some b ∧ Q (.bl b) H
theorem call_isD {X : Cx} {a D dd : Addr} {oe : Obj} {pn : List (Addr × Obj)} (G : ExcC X.K D) (hz : Zc (.ref D) (some dd) oe) (hf : ∃ vs, oe.data = .fields vs) : CallR (X.suite a ((a, oe) :: pn)) (.builtin "isinstance") (rIsD X.K D a dd) := by
  intro pins s σ H xs us Q I r h
  obtain ⟨c, cv, b, fs, rfl, hd, hcv, e, q⟩ := h
  obtain ⟨u1, u2, rfl, rx, rt⟩ := vals2 r
  cases rx
  have ec := hcv _ rt
  subst ec
  obtain ⟨hget, _⟩ := I.pin (a, oe) (List.mem_append.mpr (.inl List.mem_cons_self))
  obtain ⟨vs, hv⟩ := hf
  have hx : ObjOk X.prog X.w H s.heap dd (.xd fs) := I.hok dd _ hd
  obtain ⟨mA, hns, _⟩ := hx
  obtain ⟨od, ho, _⟩ := lookIn_ns hns
  have J : PySem.W.InstAt s.heap a oe D (some od) := ⟨hget, hz.1, by unfold PySem.W.notCls; rw [hv] <;> rfl, by rw [hz.2]; exact ho⟩
  exact PySem.W.kia_one (kitx_excD G) I.kIn J e (fun z => nomatch z) fun tk => ⟨.bl b, H, I.kept (t' := tk) fun _ _ z => z, rfl, q⟩
/-- the same, where it is told only later which class and which dict the caught error has -/
def rIsG (K : PySem.W.Frag) (D a : Addr) (cls : Value) (d : Option Addr) : List V → Hp → VK → Prop := fun xs H Q => cls = .ref D ∧ ∃ dd, d = some dd ∧ rIsD K D a dd xs H Q
theorem call_isG {X : Cx} {a D : Addr} {cls : Value} {d : Option Addr} {oe : Obj} {pn : List (Addr × Obj)} (G : ExcC X.K D) (hz : Zc cls d oe) (hf : ∃ vs, oe.data = .fields vs) : CallR (X.suite a ((a, oe) :: pn)) (.builtin "isinstance") (rIsG X.K D a cls d) := by
  intro pins s σ H xs us Q I r h
  obtain ⟨rfl, dd, rfl, h⟩ := h
  exact call_isD G hz hf pins s σ H xs us Q I r h
/-! ### C.__init__(self, ..), C an own class -/
structure ClsFn (K : PySem.W.Frag) (C fI : Addr) : Prop where
  ga : PySem.W.specialIn K (.ref C) "__getattribute__" = some (some (.builtin "type.__getattribute__"))
  rd : PySem.W.readsIn K C (.type "type") = true
  at_ : PySem.W.findCls K (.ref C) (.type "type") "__init__" = some (.val (.ref fI))
  kp : PySem.W.keepIn K (.ref fI) = true
theorem pe_cinit {X : Cx} {x : Str} {C fI : Addr} {CX : CXT} {k : Nat} {fd : FuncData} {ps : List Str} {sp : Sp} {ds : List Value} {dvs : List V} {E : XK} {e : Expr} {es : List Expr} {t : TA} {p1 p2 pos : Pos} {pl : Sem Bool} (T : ClsFn X.K C fI) (F : FnOk X.prog X.w X.K X.mg X.base CX k fI fd ps sp) (hr : Room k X.A)
    (hg : Gl X x) (hm : X.mg x = some (.ref C)) (hb : Binds X.K fd ps ds) (hd : Vals dvs ds) (hx : Passes CX X E) (ha : PA X (e :: es) t)
    (hc : eval (.Call (.Attribute (.Name x p1) "__init__" p2) (e :: es) [] pos) X.env = (do
      let ov ← eval (.Name x p1) X.env
      standAt p2.atName
      let (f, first) ← holding [ov] (getMethod ov "__init__" pl)
      callWith pos f first (backTo pos (starEach (e :: es) X.env)) (backToKw pos (keywordEach [] X.env))) := by rfl)
    (hdb : (x == ("__debug__" : Str)) = false := by decide) (he : starEach (e :: es) X.env = (false, eval e X.env) :: starEach es X.env := by rfl) (hpl : (backTo pos (starEach es X.env)).any (·.1) = false := by rfl) :
    PE X (.Call (.Attribute (.Name x p1) "__init__" p2) (e :: es) [] pos) (tCall sp dvs E t) := by
  refine ⟨fun pins s σ H Q I h => ?_⟩
  refine PySem.W.methodCall_KW (ld_glob I hg hm ?_ hdb) hc
  refine PySem.W.method_cls I.kIn T.ga (ClX.getcval_ok (v := .ref fI) (u := .ref fI) I ⟨T.rd, T.ga⟩ ⟨T.at_, rfl⟩ fun s1 I1 => ?_)
  refine (show wpAny (model X.prog X.w) X.A (callWith pos (.ref fI) [] (backTo pos (starEach (e :: es) X.env)) []) _ _ _ from ?_)
  refine PySem.W.callWith_K (h₀ := X.base) I.ok.mod.kin T.kp (thn (ha.run pos pins s1 σ H _ I1 h) fun us s2 ⟨vs, H1, I2, r, q⟩ => ⟨I2.kIn, ?_⟩) he hpl
  exact run_fn F hr hb hd hx I2 r q
section
variable {P : Program} {w : World} {K : PySem.W.Frag} {mg : Str → Option Value} {base : Heap}
abbrev sLE : Stmt := inClass cLetterError 0
abbrev FunA (K : PySem.W.Frag) (qual : Str) (st : Stmt) (dvs : List V) (f : Addr) (fd : FuncData) : Prop := FunD K "__init__" qual (defArgs st) (defBody st) (defScope st) dvs [] f fd
def spLE (K : PySem.W.Frag) : Sp := fun vs H Q _ => ∃ (a C : Addr) (v : V), vs = [.ref a, v] ∧ OexC K C ∧ H a = some (exo a C none) ∧ Q .non H
theorem scLE : FnScope ["self", "why"] ["self", "why"] (defScope sLE) := ⟨rfl, rfl, rfl, by decide +kernel, rfl, by decide +kernel, by decide +kernel⟩
theorem ok_LE {f : Addr} {fd : FuncData} (F : FunA K "LetterError.__init__" sLE [.str ""] f fd) (mV : mg "ValueError" = none) (vV : PySem.W.findCls K (.type "ValueError") (.type "type") "__init__" = some (.val (.builtin "ValueError.__init__"))) :
    FnOk P w K mg base CX0 1 f fd ["self", "why"] (spLE K) := by
  refine FunD.ok F scLE (fun vs H Q E h => ?_) (fun cdv A outer s H vs Q E hr h => ?_)
  · obtain ⟨a, C, v, rfl, _⟩ := h
    rfl
  · obtain ⟨a, C, v, rfl, T, hH, q⟩ := h
    refine ⟨_, pss_one (ps_expr (pe_veinit (by rfl) mV vV (pa_cons (pv 0) (pa_cons (pv 1) pa_nil)))), ?_⟩
    exact ⟨_, rfl, _, rfl, a, C, [v], rfl, by show 1 ≤ 1000; decide, T, hH, q⟩
theorem bind_LE {f : Addr} {fd : FuncData} (F : FunA K "LetterError.__init__" sLE [.str ""] f fd) : ∃ ds, Vals [] ds ∧ Binds K fd ["self", "why"] ds :=
  FunD.binds1 (ps := ["self", "why"]) F 2 1 (by simp) rfl fun T kV doc pm an cdv ct us its hu hi => match us, its, hu, hi with | [_, _], [_], _, _ => ⟨_, rfl, rfl⟩
/-- C(why, y): a new error of the class at C, its field set -/
def spFld (C : Addr) (fld : Str) : Sp := fun vs H Q _ => ∃ (a : Addr) (v y : V), vs = [.ref a, v, y] ∧ H a = some (exo a C none) ∧ ∀ dx, H dx = none → dx ≠ a → Q .non (upd (upd H dx (exd dx [(fld, y)])) a (exo a C (some dx)))
/-- what a raise of C(..) asks and gives -/
structure MkFld (P : Program) (w : World) (K : PySem.W.Frag) (mg : Str → Option Value) (base : Heap) (x : Str) (C : Addr) (fld : Str) : Prop where
  T : OexC K C
  g : mg x = some (.ref C)
  init : ∃ fI fd, PySem.W.findIn K (.ref C) "__init__" = some (some (.ref fI)) ∧ PySem.W.typeIn K (.ref fI) = some (.type "function") ∧ FnOk P w K mg base CX0 2 fI fd ["self", "why", fld] (spFld C fld) ∧
    (∃ ds, Vals [] ds ∧ Binds K fd ["self", "why", fld] ds) ∧ ∃ ds, Vals [.int 0] ds ∧ Binds K fd ["self", "why", fld] ds
/-- the leaf: what the raise gives -/
theorem mk_leaf {C : Addr} {fld : Str} {v y : V} {vs dvs : List V} {H1 : Hp} {Q : XK} (hv : vs ++ dvs = [v, y]) (hl : vs.length ≤ 2) (h : ∀ (d : Addr) (H' : Hp), Same H1 H' → H1 d = none → H' d = some (.xd [(fld, y)]) → Q (.ref C) (some d) H') :
    vs.length ≤ 1000 ∧ ∀ a, H1 a = none → spFld C fld (.ref a :: (vs ++ dvs)) (upd H1 a (exo a C none))
      (fun v H2 => v = .non ∧ ∃ (d : Addr) (fs : List (Str × V)), H2 a = some (exo a C (some d)) ∧ H2 d = some (exd d fs) ∧ H1 d = none ∧ Q (.ref C) (some d) (upd (del H2 a) d (.xd fs))) (fun _ _ _ => False) := by
  refine ⟨by omega, fun a na => ⟨a, v, y, by rw [hv], upd_same, fun dx n1 n2 => ?_⟩⟩
  rw [upd_ne n2] at n1
  refine ⟨rfl, dx, [(fld, y)], upd_same, by rw [upd_ne n2, upd_same], n1, h dx _ (fun b o e => ?_) n1 upd_same⟩
  have hb1 : b ≠ a := ne_of_none e na
  have hb2 : b ≠ dx := ne_of_none e n1
  rw [upd_ne hb2, del_ne hb1, upd_ne hb1, upd_ne hb2, upd_ne hb1]
  exact e
theorem pmk_fld {X : Cx} {x fld : Str} {C : Addr} {e : Expr} {es : List Expr} {ta : TA} {p pos : Pos} (M : MkFld X.prog X.w X.K X.mg X.base x C fld) (hr : Room (2 + 1) X.A) (hg : Gl X x) (ha : PA X (e :: es) ta) (dvs : List V) (hdv : dvs = [] ∨ dvs = [.int 0])
    (hdb : (x == ("__debug__" : Str)) = false := by decide) (he : starEach (e :: es) X.env = (false, eval e X.env) :: starEach es X.env := by rfl) (hpl : (backTo pos (starEach es X.env)).any (·.1) = false := by rfl) :
    PMk X (.Call (.Name x p) (e :: es) [] pos) (tMkO C (spFld C fld) dvs ta) := by
  obtain ⟨fI, fd, iC, tI, F1, ⟨ds1, v1, b1⟩, ⟨ds2, v2, b2⟩⟩ := M.init
  rcases hdv with rfl | rfl
  · exact pmk_oex M.T iC tI F1 hr b1 v1 pass0 hg M.g ha hdb he hpl
  · exact pmk_oex M.T iC tI F1 hr b2 v2 pass0 hg M.g ha hdb he hpl
end
end FL

namespace FL
open PySem PySem.Spec PyProof.Rows L2
/-! ### texts as lists of signs -/
def mk (l : List Nat) : Str := ⟨l.toArray⟩
theorem mk_codes (l : List Nat) : (mk l).cps.toList = l := by simp [mk]
theorem mk_of (z : Str) : mk z.cps.toList = z := TL.mk_tl z
theorem mk_eq {z : Str} {l : List Nat} (h : z.cps.toList = l) : z = mk l := by rw [← h, mk_of]
theorem mk_inj {l m : List Nat} (h : mk l = mk m) : l = m := by rw [← mk_codes l, h, mk_codes]
theorem mk_len (l : List Nat) : (mk l).length = l.length := by simp [mk, Str.length]
theorem mk_one (c : Nat) : mk [c] = ⟨#[c]⟩ := rfl
theorem mk_app (l m : List Nat) : mk l ++ mk m = mk (l ++ m) := by
  have h : (mk l ++ mk m).cps.toList = l ++ m := by
    have := TL.tl_append (mk l) (mk m)
    show (mk l ++ mk m).cps.toList = l ++ m
    rw [show (mk l ++ mk m).cps.toList = (mk l).cps.toList ++ (mk m).cps.toList from this, mk_codes, mk_codes]
  exact mk_eq h
/-! ### slices -/
theorem cutS_one (z : Str) (p : Nat) : (cutS z (some (p : Nat)) (some ((p + 1 : Nat) : Int))).cps.toList = (z.cps.toList.drop p).take 1 := by
  unfold cutS
  rw [HT.sIx_nat, HT.sIx_nat]
  show (List.take _ (List.drop _ _)) = _
  have hl := len_cps z
  by_cases h : p < z.length
  · rw [Nat.min_eq_left (by omega), Nat.min_eq_left (by omega), show p + 1 - p = 1 by omega]
  · rw [Nat.min_eq_right (by omega), Nat.min_eq_right (by omega), Nat.sub_self, List.take_zero, List.drop_eq_nil_of_le (by omega)]
    rfl
theorem cutS_nat (z : Str) {i j : Nat} (h1 : i ≤ z.length) (h2 : j ≤ z.length) : (cutS z (some (i : Nat)) (some (j : Nat))).cps.toList = (z.cps.toList.drop i).take (j - i) := by
  unfold cutS
  rw [HT.sIx_nat, HT.sIx_nat]
  show (List.take _ (List.drop _ _)) = _
  rw [Nat.min_eq_left h1, Nat.min_eq_left h2]
theorem cps_at {z : Str} {p c : Nat} (h : z.cps[p]? = some c) : z.cps.toList[p]? = some c := by rw [Array.getElem?_toList]; exact h
theorem drop_at {l : List Nat} {p c : Nat} (h : l[p]? = some c) : l.drop p = c :: l.drop (p + 1) := by
  have hb : p < l.length := (List.getElem?_eq_some_iff.mp h).1
  have e : l[p] = c := (List.getElem?_eq_some_iff.mp h).2
  rw [List.drop_eq_getElem_cons hb, e]
section
variable {P : Program} {w : World} {K : PySem.W.Frag} {mg : Str → Option Value} {base : Heap}
theorem sign_is {c d : Nat} {x : Str} (hx : x = ⟨#[d]⟩) : decide (V.str ⟨#[c]⟩ = V.str x) = decide (c = d) := by
  rw [hx]
  exact decide_eq_decide.mpr str_one
def ReadyX (P : Program) (w : World) (K : PySem.W.Frag) (mg : Str → Option Value) (base : Heap) (k : Nat) (x : Str) (ps : List Str) (sp : Sp) : Prop :=
  ∃ f fd, mg x = some (.ref f) ∧ PySem.W.keepIn K (.ref f) = true ∧ Binds K fd ps [] ∧ FnOk P w K mg base (L2.CX P w) k f fd ps sp
theorem readyX_of {x : Str} {st : Stmt} {k : Nat} {ps : List Str} {sp : Sp} (A : FnAt K mg x st)
    (hb : ∀ (kV doc pm : Value) (an : Option Addr) (cdv ct : Value) (us : List Value), us.length = ps.length → bindArgs (PySem.W.fnOf x x (defArgs st) (defBody st) (defScope st) .none kV doc pm an cdv ct) ⟨us, []⟩ = pure (ps.zip us))
    (ok : ∀ f fd, Fun K x x st f fd → FnOk P w K mg base (L2.CX P w) k f fd ps sp) : ReadyX P w K mg base k x ps sp := by
  obtain ⟨f, fd, F, g⟩ := A.ex
  exact ⟨f, fd, g, F.kp, F.binds hb, ok f fd F⟩
/-- v is no text without line feeds -/
def NoLine (K : PySem.W.Frag) (H : Hp) (v : V) : Prop := (∃ z : Str, v = .str z ∧ z.length ≤ 10000 ∧ isLn z.cps.toList = false) ∨ (∃ t, TyX K H v t ∧ PySem.W.kitOne K t (.type "str") = some false)
/-- an error of the class at C with its field at y is wished for -/
def Fails (C : Addr) (fld : Str) (y : Int) (H : Hp) (E : XK) : Prop := ∀ (d : Addr) H', Same H H' → H d = none → H' d = some (.xd [(fld, .int y)]) → E (.ref C) (some d) H'
theorem Fails.later {C : Addr} {fld : Str} {y : Int} {H H1 : Hp} {E : XK} (h : Fails C fld y H E) (s : Same H H1) : Fails C fld y H1 E := fun d H' s' n e => h d H' (s.trans s') (Same.free s n) e
theorem len_append (a b : Str) : (a ++ b).length = a.length + b.length := by
  have := TL.tl_append a b
  rw [← len_cps, ← len_cps, ← len_cps]
  rw [show (a ++ b).cps.toList = a.cps.toList ++ b.cps.toList from this, List.length_append]
end
end FL

namespace FL
open PySem PySem.Spec PyProof.Rows L2
theorem strOk_of {z : Str} (h : ∀ c ∈ z.cps.toList, c < 128) : PyData.strOk z = true := by
  unfold PyData.strOk
  rw [← Array.all_toList]
  refine List.all_eq_true.mpr fun c hc => decide_eq_true ?_
  have := h c hc
  omega
theorem canLayAll_of : ∀ {ds : List PyData}, (∀ d ∈ ds, d.canLay0 = true) → PyData.canLayAll0 ds = true
  | [], _ => by simp [PyData.canLayAll0]
  | d :: r, h => by
    rw [PyData.canLayAll0, h d (List.mem_cons_self ..), canLayAll_of fun x hx => h x (List.mem_cons_of_mem _ hx)]
    rfl
theorem depthAll_of {k : Nat} : ∀ {ds : List PyData}, (∀ d ∈ ds, d.depth ≤ k) → PyData.depthAll ds ≤ k
  | [], _ => by simp [PyData.depthAll]
  | d :: r, h => by
    rw [PyData.depthAll]
    exact Nat.max_le.mpr ⟨h d (List.mem_cons_self ..), depthAll_of fun x hx => h x (List.mem_cons_of_mem _ hx)⟩
theorem canLay_str {z : Str} (h : PyData.strOk z = true) : (PyData.str z).canLay0 = true := by
  unfold PyData.canLay0
  exact h
theorem shaped_of {d : PyData} (h : d.canLay0 = true) (k : d.depth ≤ 64) : SeqAt.shaped d = true := by
  unfold SeqAt.shaped
  rw [h, decide_eq_true k]
  rfl
theorem shaped_strs {zs : List Str} (h : ∀ z ∈ zs, PyData.strOk z = true) : SeqAt.shaped (.list (zs.map PyData.str)) = true := by
  refine shaped_of ?_ ?_
  · rw [PyData.canLay0]
    refine canLayAll_of fun d hd => ?_
    obtain ⟨z, hz, rfl⟩ := List.mem_map.mp hd
    exact canLay_str (h z hz)
  · rw [PyData.depth]
    have : PyData.depthAll (zs.map PyData.str) ≤ 0 := depthAll_of fun d hd => by
      obtain ⟨z, hz, rfl⟩ := List.mem_map.mp hd
      rw [PyData.depth]
      exact Nat.le_refl _
    omega
theorem dp_strs {K : PySem.W.Frag} {H : Hp} : ∀ zs : List Str, DpAll K H (zs.map V.str) (zs.map PyData.str)
  | [] => .nil
  | z :: r => .cons (.str z) (dp_strs r)
theorem eqv_nil (ds : List PyData) : PyData.eqv (.list ds) (.list []) = ds.isEmpty := by
  cases ds <;> simp [PyData.eqv, PyData.eqvAll]
theorem same_drawn {H H1 H2 : Hp} {p : Addr} (s : Same H H1) (n : H p = none) (d : Drawn p H1 H2) : Same H H2 := fun b o e => d.old b o (ne_of_none e n) (s b o e)
theorem app_codes (a b : Str) : (a ++ b).cps.toList = a.cps.toList ++ b.cps.toList := TL.tl_append a b
/-- a list of texts as data: in order, and itself -/
theorem strs_ok {zs : List Str} (h : ∀ z ∈ zs, PyData.strOk z = true) : SeqAt.shaped (.list (zs.map PyData.str)) = true ∧ PyData.eqv (.list (zs.map PyData.str)) (.list (zs.map PyData.str)) = true := by
  have hs := shaped_strs h
  exact ⟨hs, SeqAt.eqv_refl _ (Bool.and_eq_true_iff.mp hs).1⟩
end FL


namespace FL
open PySem PySem.Spec PyProof.Rows L2
/-! ### lists of whole numbers -/
def iv (l : List Nat) : List V := l.map fun n : Nat => V.int (n : Int)
theorem iv_len (l : List Nat) : (iv l).length = l.length := List.length_map ..
theorem iv_app (l m : List Nat) : iv (l ++ m) = iv l ++ iv m := List.map_append ..
theorem iv_at {l : List Nat} {i n : Nat} (h : l[i]? = some n) : (iv l)[i]? = some (.int (n : Int)) := by
  unfold iv
  rw [List.getElem?_map, h]
  rfl
theorem iv_take (l : List Nat) (n : Nat) : iv (l.take n) = (iv l).take n := List.map_take ..
theorem iv_drop (l : List Nat) (n : Nat) : iv (l.drop n) = (iv l).drop n := List.map_drop ..
theorem iv_inj {l m : List Nat} (h : iv l = iv m) : l = m := by
  induction l generalizing m with
  | nil => cases m with
    | nil => rfl
    | cons b r => cases h
  | cons a r ih => cases m with
    | nil => cases h
    | cons b s =>
      have h1 := (List.cons.inj h).1
      have h2 := (List.cons.inj h).2
      injection h1 with h1
      rw [show a = b by omega, ih h2]
def idt (l : List Nat) : List PyData := l.map fun n : Nat => PyData.int (n : Int)
theorem dp_ints {K : PySem.W.Frag} {H : Hp} : ∀ l : List Nat, DpAll K H (iv l) (idt l)
  | [] => .nil
  | z :: r => .cons (.int _) (dp_ints r)
theorem shaped_ints (l : List Nat) : SeqAt.shaped (.list (idt l)) = true := by
  refine shaped_of ?_ ?_
  · rw [PyData.canLay0]
    refine canLayAll_of fun d hd => ?_
    obtain ⟨z, hz, rfl⟩ := List.mem_map.mp hd
    rw [PyData.canLay0]
  · rw [PyData.depth]
    have : PyData.depthAll (idt l) ≤ 0 := depthAll_of fun d hd => by
      obtain ⟨z, hz, rfl⟩ := List.mem_map.mp hd
      rw [PyData.depth]
      exact Nat.le_refl _
    omega
theorem eqv_ints_all : ∀ l m : List Nat, PyData.eqvAll (idt l) (idt m) = decide (l = m)
  | [], [] => by simp [idt, PyData.eqvAll]
  | [], b :: s => by simp [idt, PyData.eqvAll]
  | a :: r, [] => by simp [idt, PyData.eqvAll]
  | a :: r, b :: s => by
    have ih := eqv_ints_all r s
    show PyData.eqvAll (PyData.int a :: idt r) (PyData.int b :: idt s) = _
    rw [PyData.eqvAll, ih]
    have e : PyData.eqv (.int (a : Int)) (.int (b : Int)) = decide (a = b) := by
      simp only [PyData.eqv]
      by_cases h : a = b
      · subst h; simp
      · rw [decide_eq_false h]
        simp [h]
        try omega
    rw [e]
    by_cases h1 : a = b <;> by_cases h2 : r = s <;> simp [h1, h2]
theorem eqv_ints (l m : List Nat) : PyData.eqv (.list (idt l)) (.list (idt m)) = decide (l = m) := by
  rw [← eqv_ints_all]
  simp only [PyData.eqv]
/-- two lists of whole numbers as data -/
theorem dpl {K : PySem.W.Frag} {H : Hp} {a : Addr} {l : List Nat} (h : H a = some (.lst (iv l))) : Dp K H (.ref a) (.list (idt l)) := .lst (SqL.of h) (dp_ints l)
theorem dplS {K : PySem.W.Frag} {H : Hp} {a : Addr} {l : List Nat} (h : SqL K H a (iv l)) : Dp K H (.ref a) (.list (idt l)) := .lst h (dp_ints l)
/-! ### whole numbers -/
inductive Whole (K : PySem.W.Frag) (H : Hp) : V → Option Int → Prop
  | int (n : Int) : Whole K H (.int n) (some n)
  | bl (b : Bool) : Whole K H (.bl b) none
  | oth {v : V} {t : Value} (h : TyX K H v t) (k : PySem.W.kitOne K t (.type "int") = some false) : Whole K H v none
theorem TyOf.same {K : PySem.W.Frag} {H H' : Hp} {v : V} {t : Value} (s : Same H H') (h : TyOf K H v t) : TyOf K H' v t := by
  cases h with
  | non => exact .non
  | bl x => exact .bl x
  | int i => exact .int i
  | str x => exact .str x
  | flt x => exact .flt x
  | lst e => exact .lst (s _ _ e)
  | frz e => exact .frz (s _ _ e)
  | tup e => exact .tup (s _ _ e)
  | dK e => exact .dK (s _ _ e)
  | dT e => exact .dT (s _ _ e)
  | ins e cl ha hn htk hm => exact .ins (s _ _ e) cl ha hn htk hm
theorem TyX.same {K : PySem.W.Frag} {H H' : Hp} {v : V} {t : Value} (s : Same H H') (h : TyX K H v t) : TyX K H' v t := by
  cases h with
  | base h => exact .base (TyOf.same s h)
  | byt b => exact .byt b
  | set e => exact .set (s _ _ e)
  | kList e c => exact .kList e c
  | kTuple e c => exact .kTuple e c
  | kDict e c => exact .kDict e c
  | fTuple e => exact .fTuple (s _ _ e)
  | fDict e => exact .fDict (s _ _ e)
theorem Whole.same {K : PySem.W.Frag} {H H' : Hp} {v : V} {o : Option Int} (s : Same H H') (h : Whole K H v o) : Whole K H' v o := by
  cases h with
  | int n => exact .int n
  | bl b => exact .bl b
  | oth h k => exact .oth (TyX.same s h) k
/-- a def by another global name -/
structure FnAs (K : PySem.W.Frag) (mg : Str → Option Value) (x y : Str) (st : Stmt) : Prop where
  ex : ∃ f fd, Fun K y y st f fd ∧ mg x = some (.ref f)
section
variable {P : Program} {w : World} {K : PySem.W.Frag} {mg : Str → Option Value} {base : Heap}
theorem FnAt.as {x : Str} {st : Stmt} (A : FnAt K mg x st) : FnAs K mg x x st := ⟨A.ex⟩
theorem ready_as {x y : Str} {st : Stmt} {k : Nat} {ps : List Str} {sp : Sp} (A : FnAs K mg x y st)
    (hb : ∀ (kV doc pm : Value) (an : Option Addr) (cdv ct : Value) (us : List Value), us.length = ps.length → bindArgs (PySem.W.fnOf y y (defArgs st) (defBody st) (defScope st) .none kV doc pm an cdv ct) ⟨us, []⟩ = pure (ps.zip us))
    (ok : ∀ f fd, Fun K y y st f fd → FnOk P w K mg base CX0 k f fd ps sp) : Ready P w K mg base k x ps sp := by
  obtain ⟨f, fd, F, g⟩ := A.ex
  exact ⟨f, fd, g, F.kp, F.binds hb, ok f fd F⟩
def spWhole (K : PySem.W.Frag) (f : Option Int → Bool) : Sp := fun vs H Q _ => ∃ v o, vs = [v] ∧ Whole K H v o ∧ Q (.bl (f o)) H
def isSgnI (n : Int) : Bool := decide (32 ≤ n ∧ n ≤ 65535)
def isOctI (n : Int) : Bool := decide (0 ≤ n ∧ n ≤ 255)
theorem rng_b {a b c : Int} : (if decide (a ≤ b) = true then decide (b ≤ c) else false) = decide (a ≤ b ∧ b ≤ c) := by
  by_cases h1 : a ≤ b <;> by_cases h2 : b ≤ c <;> simp [h1, h2]
/-- is a list all of whose things are such whole numbers; of a list told by what its things are, of no list, False -/
def spAll (K : PySem.W.Frag) (f : Option Int → Bool) : Sp := fun vs H Q _ => ∃ v, vs = [v] ∧
  ((∃ a xs os, v = .ref a ∧ H a = some (.lst xs) ∧ xs.length ≤ 10000 ∧ Paired (Whole K H) xs os ∧ ∀ H', Same H H' → Q (.bl (os.all f)) H') ∨
   (∃ t, TyX K H v t ∧ PySem.W.kitOne K t (.type "list") = some false ∧ Q (.bl false) H))
theorem paired_at {α β : Type} {R : α → β → Prop} : ∀ {xs : List α} {os : List β} {i : Nat} {x : α}, Paired R xs os → xs[i]? = some x → ∃ o, os[i]? = some o ∧ R x o
  | _, _, _, _, .nil, h => by simp at h
  | _, _, 0, _, .cons h _, e => by
    injection e with e
    subst e
    exact ⟨_, rfl, h⟩
  | _, _, i + 1, _, .cons _ t, e => paired_at (i := i) t e
theorem whole_ints {K : PySem.W.Frag} {H : Hp} : ∀ l : List Nat, Paired (Whole K H) (iv l) (l.map fun n : Nat => some (n : Int))
  | [] => .nil
  | n :: r => .cons (.int _) (whole_ints r)
theorem all_oct {l : List Nat} (h : ∀ n ∈ l, n < 256) : (l.map fun n : Nat => some (n : Int)).all (fun o => o.any isOctI) = true := by
  rw [List.all_map]
  refine List.all_eq_true.mpr fun n hn => ?_
  have := h n hn
  show isOctI (n : Int) = true
  exact decide_eq_true (by omega)
theorem all_sgn {l : List Nat} (h : ∀ n ∈ l, 32 ≤ n ∧ n ≤ 65535) : (l.map fun n : Nat => some (n : Int)).all (fun o => o.any isSgnI) = true := by
  rw [List.all_map]
  refine List.all_eq_true.mpr fun n hn => ?_
  have := h n hn
  show isSgnI (n : Int) = true
  exact decide_eq_true (by omega)
end
end FL


namespace FL
open PySem PySem.Spec PyProof.Rows L2
/-! ### C(why), C an own exception class without an own __init__, its base's one sets no field -/
section
variable {X : Cx} {e : Expr} {es : List Expr} {ta : TA} {p pos : Pos}
theorem mk_endN {pins : List (Addr × Obj)} {σ : L2.St} {H1 H2 : Hp} {hp hp2 h2 : Heap} {g1 g2 : Array GenState} {d1 d2 : PySem.Drawn} {t1 t2 : Nat} {os1 os2 : OsState} {a C : Addr} (I1 : Inv X pins σ H1 ⟨hp, g1, d1, t1, os1⟩)
    (ha : hp.objs.size ≤ a) (k : ∀ b o, hp.get? b = some o → hp2.get? b = some o) (un : Un (frs X.stack) [] (upd H1 a (exo a C none)) H2 hp2 h2) (hok : HOk X.prog X.w H2 h2) (ho : os2 = os1) (hb : AllBare g2)
    (ea : H2 a = some (exo a C none)) :
    ∃ (t0 : Addr) (G : Heap), Inv X pins σ (del H2 a) ⟨G, g2, d2, t2, os2⟩ ∧ (∀ b o, G.get? b = some o → h2.get? b = some o) ∧ G.get? a = none ∧
      h2.get? a = some ({ cls := .ref C, dict := none, data := .fields #[.ref t0, .none, .none, .none, .bool false, .none] } : Obj) ∧ (del H2 a) a = none := by
  obtain ⟨t0, hoe⟩ := exo_at hok ea
  have hn : H1 a = none := I1.hok.fresh ha
  obtain ⟨G, g1', g2'⟩ := restrict h2 fun b => decide (b ≠ a)
  have gk : ∀ b, b ≠ a → G.get? b = h2.get? b := fun b hb => g1' b (decide_eq_true hb)
  have ge : G.get? a = none := g2' a (by simp)
  have nha : ∀ {b : Addr} {o : Obj}, hp.get? b = some o → b ≠ a := fun {b o} z => Nat.ne_of_lt (Nat.lt_of_lt_of_le (Heap.lt_size z) ha)
  have up : ∀ {b : Addr}, b ≠ a → H1 b = none → upd H1 a (exo a C none) b = none := fun {b} hb n => by rw [upd_ne hb]; exact n
  have U : Un (frs X.stack) [] H1 (del H2 a) hp G := {
    keep := fun b o z n hf hx => by
      rw [gk b (nha z)]
      exact un.keep b o (k b o z) (up (nha z) n) hf hx
    slot := fun b o z n hf hx => by
      rw [gk b (nha z)]
      exact un.slot b o (k b o z) (up (nha z) n) hf hx
    free := fun b o z n hx => by
      rw [del_ne (nha z)]
      exact un.free b o (k b o z) (up (nha z) n) hx
    there := fun b o z hx => by
      rw [gk b (nha z)]
      exact un.there b o (k b o z) hx
    tups := fun b xs z => by
      rw [del_ne (ne_of_none z hn)]
      exact un.tups b xs (by rw [upd_ne (ne_of_none z hn)]; exact z)
    frzs := fun b o v z => by
      rw [del_ne (ne_of_none z hn)]
      exact un.frzs b o v (by rw [upd_ne (ne_of_none z hn)]; exact z)
    tbls := fun b ps z => by
      rw [del_ne (ne_of_none z hn)]
      exact un.tbls b ps (by rw [upd_ne (ne_of_none z hn)]; exact z) }
  have hok3 : HOk X.prog X.w (del H2 a) G := fun b o z => by
    have hba : b ≠ a := fun e => by
      rw [e, del_same] at z
      cases z
    rw [del_ne hba] at z
    have noa : ∀ {c : Addr}, H2 c = some (.own b) → c ≠ a := fun {c} hc => at_ne ea hc exo_own
    exact (hok b o z).stay (fun c v hc y => by
        have hca : c ≠ a := by
          rcases hc with hc | hc
          · rw [hc]
            exact hba
          · exact noa hc
        rw [gk c hca]
        exact y)
      (fun c hc => by rw [del_ne (noa hc)]; exact hc) (fun c xs hc => by rw [del_ne (at_ne ea hc exo_tup)]; exact hc)
  have J : Inv X pins σ (del H2 a) ⟨G, g2, d2, t2, os2⟩ := I1.call' (ch := []) ho U hok3 hb (fun b z => absurd z (by simp))
  refine ⟨t0, G, J, fun b o z => ?_, ge, hoe, del_same⟩
  by_cases hba : b = a
  · rw [hba, ge] at z
    cases z
  · exact (gk b hba).symm.trans z
/-- what a raise of such a C(..) asks -/
structure MkN (P : Program) (w : World) (K : PySem.W.Frag) (mg : Str → Option Value) (base : Heap) (x : Str) (C : Addr) : Prop where
  T : OexC K C
  g : mg x = some (.ref C)
  init : ∃ fI fd, PySem.W.findIn K (.ref C) "__init__" = some (some (.ref fI)) ∧ PySem.W.typeIn K (.ref fI) = some (.type "function") ∧ FnOk P w K mg base CX0 1 fI fd ["self", "why"] (spLE K) ∧ ∃ ds, Vals [] ds ∧ Binds K fd ["self", "why"] ds
theorem del_upd {H : Hp} {a : Addr} {o : HO} (h : H a = none) : del (upd H a o) a = H := by
  funext b
  by_cases e : b = a
  · rw [e, del_same, h]
  · rw [del_ne e, upd_ne e]
theorem pmk_non {x : Str} {C : Addr} (M : MkN X.prog X.w X.K X.mg X.base x C) (hr : Room (1 + 1) X.A) (hg : Gl X x) (ha : PA X (e :: es) ta)
    (hdb : (x == ("__debug__" : Str)) = false := by decide) (he : starEach (e :: es) X.env = (false, eval e X.env) :: starEach es X.env := by rfl) (hpl : (backTo pos (starEach es X.env)).any (·.1) = false := by rfl) :
    PMk X (.Call (.Name x p) (e :: es) [] pos) (fun σ H Q => ta σ H fun vs H1 => (∃ v, vs = [v]) ∧ Q (.ref C) none H1) := by
  intro pins s σ H Q I h
  obtain ⟨T, hm, fI, fd, iC, tI, F1, ds, hd, hb⟩ := M
  obtain ⟨nm, q, N, bs, bm, sn, sub, ab, col, dd, k0, k1, k2, k3, k5, hC, hbm⟩ := T.cls
  refine wpAny_Call_Name_kw (ld_glob I hg hm ?_ hdb)
  refine PySem.W.callWith_K (h₀ := X.base) I.ok.mod.kin T.kC (thn (ha.run pos pins s σ H _ I h) fun us s1 ⟨vs, H1, I1, r1, ⟨w0, hz⟩, q1⟩ => ⟨I1.kIn, ?_⟩) he hpl
  subst hz
  show wpAny _ _ (call (.ref C) us) _ _ _
  obtain ⟨hp, g, dr, tk, os⟩ := s1
  have hsz : hp.objs.size ≤ hp.objs.size + 1 := Nat.le_succ _
  have hn : H1 (hp.objs.size + 1) = none := I1.hok.fresh hsz
  have kk : ∀ b o, hp.get? b = some o → ((hp.push (PySem.W.kdv_tup us)).push (PySem.HandSPX.excO C hp.objs.size)).get? b = some o := fun b o e => Heap.get?_push_of_some _ (Heap.get?_push_of_some _ e)
  have hget : ((hp.push (PySem.W.kdv_tup us)).push (PySem.HandSPX.excO C hp.objs.size)).get? (hp.objs.size + 1) = some (PySem.HandSPX.excO C hp.objs.size) := by heap_get
  have I2 : Inv X pins σ (upd H1 (hp.objs.size + 1) (exo (hp.objs.size + 1) C none)) ⟨(hp.push (PySem.W.kdv_tup us)).push (PySem.HandSPX.excO C hp.objs.size), g, dr, tk, os⟩ :=
    I1.laid (t' := tk) (a := hp.objs.size + 1) (o := exo (hp.objs.size + 1) C none) (h' := (hp.push (PySem.W.kdv_tup us)).push (PySem.HandSPX.excO C hp.objs.size)) kk hsz (exo_ok hget)
  have r2 : Vals (V.ref (hp.objs.size + 1) :: ([w0] ++ [])) (Value.ref (hp.objs.size + 1) :: (us ++ ds)) := .cons rfl (r1.append hd)
  have hq : spLE X.K [.ref (hp.objs.size + 1), w0] (upd H1 (hp.objs.size + 1) (exo (hp.objs.size + 1) C none)) (fun v H2 => v = .non ∧ H2 (hp.objs.size + 1) = some (exo (hp.objs.size + 1) C none) ∧ Q (.ref C) none (del H2 (hp.objs.size + 1))) (fun _ _ _ => False) :=
    ⟨_, C, w0, rfl, T, upd_same, rfl, upd_same, by rw [del_upd hn]; exact q1⟩
  have hl : (Value.ref (hp.objs.size + 1) :: us ++ ds).length = 2 := by
    exact r2.length.symm
  have hus : us.length ≤ sizeLine := by
    rw [← Paired.length r1, sizeLine_eq]
    show 1 ≤ _
    omega
  refine wpAny_call (PySem.HandSPX.call_own F.excBase_ValueError (fun Y => PySem.HandSPX.refsVE_contains Y bm hbm) (I1.kIn _ _ hC) (PySem.W.looks_findIn I1.kIn iC) (fun self => PySem.W.bind_fn I1.kIn self tI) hus
    (codeAny_mono (F1.run _ X.stack _ _ ⟨Value.ref (hp.objs.size + 1) :: us, []⟩ (Value.ref (hp.objs.size + 1) :: (us ++ ds)) _ _ (fun _ _ _ => False) (hr.make C us []) (I2.env0.make C us []) (hb _ (Value.ref (hp.objs.size + 1) :: us) I2.kIn hl) r2 hq) fun r s' hq' => ?_))
  cases r with
  | error er => exact pass0 pins σ _ _ er s' I2 hq'
  | ok fl =>
    cases fl with
    | ret u =>
      obtain ⟨v, H2, os2, bare2, un2, hok2, rv, ev, ea, q2⟩ := hq'
      subst ev
      obtain ⟨h2, g2, d2, t2, os'⟩ := s'
      obtain ⟨t0, G, J, kG, ge, hoe, na⟩ := mk_endN (d2 := d2) (t2 := t2) I1 hsz kk un2 hok2 os2 bare2 ea
      exact ⟨rv, _, _, _, ⟨G, g2, d2, t2, os'⟩, _, .ref C, none, rfl, J, kG, ge, hoe, ⟨rfl, rfl⟩, rfl, rfl, na, rfl, bare2, raises_own T.exC T.tyC, q2⟩
    | next => exact False.elim hq'
    | brk => exact False.elim hq'
    | cont => exact False.elim hq'
end
theorem pe_callN0 {X : Cx} {CX : CXT} {k : Nat} {f : Addr} {fd : FuncData} {ps ks : List Str} {sp : Sp} {E : XK} {x : Str} {p pos : Pos} {kws : List Keyword} {tk : TA} {g : List Value → List Value → List Value} {gV : List V → List V → List V}
    (F : FnOk X.prog X.w X.K X.mg X.base CX k f fd ps sp) (hr : Room k X.A) (hg : Gl X x) (hm : X.mg x = some (.ref f)) (hk : PySem.W.keepIn X.K (.ref f) = true) (hb : KBn X.K fd ps 0 ks g gV) (hx : Passes CX X E)
    (hkw : PK X kws tk) (hall : (backToKw pos (keywordEach kws X.env)).all (·.1.isSome) = true := by rfl) (hks : (backToKw pos (keywordEach kws X.env)).filterMap (·.1) = ks := by rfl)
    (hdb : (x == ("__debug__" : Str)) = false := by decide) (hpl : ((backTo pos (starEach [] X.env)).any (·.1) || (backToKw pos (keywordEach kws X.env)).any (·.1.isNone)) = false := by rfl) :
    PE X (.Call (.Name x p) [] kws pos) (fun σ H Q => tk σ H fun zs H1 => zs.length = ks.length ∧ sp (gV [] zs) H1 Q E) := by
  refine ⟨fun pins s σ H Q I h => ?_⟩
  refine wpAny_Call_Name_kw (ld_glob I hg hm ?_ hdb)
  refine PySem.W.callWith_KW0 (h₀ := X.base) I.ok.mod.kin hk hall (thn (hkw.run pos pins s σ H _ I h) fun ws s2 ⟨zs, H2, I2, rz, l2, q2⟩ => ⟨I2.kIn, ?_⟩) hpl
  rw [hks]
  exact run_fnN (us := []) (vs := []) F hr hb hx I2 .nil rz rfl l2 q2
def swp {α : Type} : List α → List α
  | [a, b] => [b, a]
  | l => l
section
variable {P : Program} {w : World} {K : PySem.W.Frag} {mg : Str → Option Value} {base : Heap}
/-- f(x=..): all by keywords, in the def's order -/
abbrev KBs (K : PySem.W.Frag) (fd : FuncData) (ps : List Str) := KBn K fd ps 0 ps (fun _ ws => ws) (fun _ zs => zs)
theorem kb_of {x : Str} {st : Stmt} {f : Addr} {fd : FuncData} {ps : List Str} (F : Fun K x x st f fd)
    (hk : ∀ (kV doc pm : Value) (an : Option Addr) (cdv ct : Value) (ws : List Value), ws.length = ps.length → bindArgs (PySem.W.fnOf x x (defArgs st) (defBody st) (defScope st) .none kV doc pm an cdv ct) ⟨[], ps.zip ws⟩ = pure (ps.zip ws)) : KBs K fd ps := by
  obtain ⟨oc, od, kV, doc, pm, an, cdv, ct, osl, rfl, lk, hcd⟩ := F.ex
  refine ⟨fun s us ws _ hu hw => ?_, fun _ r => r⟩
  match us, hu with
  | [], _ => exact .of_eq (hk _ _ _ _ _ _ ws hw)
/-- two by keywords, the other way round -/
abbrev KBr (K : PySem.W.Frag) (fd : FuncData) (p q : Str) := KBn K fd [p, q] 0 [q, p] (fun _ ws => swp ws) (fun _ zs => swp zs)
theorem kbr_of {x : Str} {st : Stmt} {f : Addr} {fd : FuncData} {p q : Str} (F : Fun K x x st f fd)
    (hk : ∀ (kV doc pm : Value) (an : Option Addr) (cdv ct : Value) (a b : Value), bindArgs (PySem.W.fnOf x x (defArgs st) (defBody st) (defScope st) .none kV doc pm an cdv ct) ⟨[], [(q, a), (p, b)]⟩ = pure [(p, b), (q, a)]) : KBr K fd p q := by
  obtain ⟨oc, od, kV, doc, pm, an, cdv, ct, osl, rfl, lk, hcd⟩ := F.ex
  refine ⟨fun s us ws _ hu hw => ?_, fun {vs us zs ws} _ r => ?_⟩
  · match us, ws, hu, hw with
    | [], [a, b], _, _ => exact .of_eq (hk _ _ _ _ _ _ a b)
  · cases r with
    | nil => exact .nil
    | cons r1 r2 =>
      cases r2 with
      | nil => exact .cons r1 .nil
      | cons r3 r4 =>
        cases r4 with
        | nil => exact .cons r3 (.cons r1 .nil)
        | cons r5 r6 => exact .cons r1 (.cons r3 (.cons r5 r6))
def ReadyKX (P : Program) (w : World) (K : PySem.W.Frag) (mg : Str → Option Value) (base : Heap) (k : Nat) (x : Str) (ps : List Str) (sp : Sp) (kb : FuncData → Prop) : Prop :=
  ∃ f fd, mg x = some (.ref f) ∧ PySem.W.keepIn K (.ref f) = true ∧ Binds K fd ps [] ∧ kb fd ∧ FnOk P w K mg base (L2.CX P w) k f fd ps sp
theorem ReadyKX.x {k : Nat} {x : Str} {ps : List Str} {sp : Sp} {kb : FuncData → Prop} (R : ReadyKX P w K mg base k x ps sp kb) : ReadyX P w K mg base k x ps sp :=
  let ⟨f, fd, g, kp, b, _, G⟩ := R
  ⟨f, fd, g, kp, b, G⟩
theorem readyKX_of {x : Str} {st : Stmt} {k : Nat} {ps : List Str} {sp : Sp} {kb : FuncData → Prop} (A : FnAt K mg x st)
    (hb : ∀ (kV doc pm : Value) (an : Option Addr) (cdv ct : Value) (us : List Value), us.length = ps.length → bindArgs (PySem.W.fnOf x x (defArgs st) (defBody st) (defScope st) .none kV doc pm an cdv ct) ⟨us, []⟩ = pure (ps.zip us))
    (hk : ∀ f fd, Fun K x x st f fd → kb fd)
    (ok : ∀ f fd, Fun K x x st f fd → FnOk P w K mg base (L2.CX P w) k f fd ps sp) : ReadyKX P w K mg base k x ps sp kb := by
  obtain ⟨f, fd, F, g⟩ := A.ex
  exact ⟨f, fd, g, F.kp, F.binds hb, hk f fd F, ok f fd F⟩
end
end FL


namespace FL
open PySem PySem.Spec PyProof.Rows L2
theorem fold_rep (c : Nat) : ∀ (n : Nat) (acc : Array Nat), ((List.replicate n #[c]).foldl (· ++ ·) acc).toList = acc.toList ++ List.replicate n c
  | 0, acc => by simp
  | n + 1, acc => by
    rw [List.replicate_succ, List.foldl_cons, fold_rep c n, List.replicate_succ, Array.toList_append]
    simp
theorem op_mulS {X : Cx} : OpR X (binaryOp .Mult) (fun x y H Q => ∃ (c k : Nat), x = .str ⟨#[c]⟩ ∧ y = .int (k : Nat) ∧ k ≤ 10000 ∧ Q (.str (mk (List.replicate k c))) H) := by
  intro pins s σ H x y v u Q I rx ry h
  obtain ⟨c, k, rfl, rfl, hk, q⟩ := h
  obtain ⟨t, rfl⟩ := rx
  obtain ⟨t', rfl⟩ := ry
  by_cases h0 : k = 0
  · subst h0
    exact PySem.P.mul_str_none (by decide) (by decide) ⟨.str (mk []), H, I.tok _, ⟨_, rfl⟩, q⟩
  · have hl1 : (⟨#[c]⟩ : Str).length = 1 := rfl
    refine PySem.P.mul_str ?_ ?_ ?_ ?_
    · rw [decide_eq_false (by omega : ¬ ((k : Int) < -(2 ^ 63))), decide_eq_false (by omega : ¬ ((k : Int) ≥ 2 ^ 63))]
      rfl
    · intro _ _
      rw [hl1]
      have : (1 : Int) ≤ (2 ^ 63 - 1) / (k : Int) := by
        refine (Int.le_ediv_iff_mul_le (by omega)).mpr ?_
        omega
      omega
    · intro _ _
      rw [hl1, Int.toNat_natCast, Nat.one_mul]
      exact decide_eq_false (Nat.not_lt.mpr (Nat.le_of_lt (szl hk)))
    · rw [if_neg (by omega : ¬ ((k : Int) < 1))]
      by_cases h1 : k = 1
      · subst h1
        rw [if_pos (by rfl)]
        exact ⟨.str (mk [c]), H, I, ⟨t, rfl⟩, q⟩
      · rw [if_neg (by rw [hl1]; simp; omega), Int.toNat_natCast]
        have e : (⟨(List.replicate k (⟨#[c]⟩ : Str).cps).foldl (· ++ ·) #[]⟩ : Str) = mk (List.replicate k c) := mk_eq (by
          show ((List.replicate k #[c]).foldl (· ++ ·) #[]).toList = _
          rw [fold_rep]
          rfl)
        rw [e]
        refine ⟨?_, .str (mk (List.replicate k c)), H, I.tok _, ⟨_, rfl⟩, q⟩
        rw [mk_len, List.length_replicate]
        exact Nat.le_of_lt (szl hk)
theorem drawn_newM {a p : Addr} {H H1 : Hp} {o : HO} (x : Drawn a H H1) (n : H1 p = none) : Drawn a H (upd H1 p o) := x.same (same_new n)
theorem Src.neM {H : Hp} {a q : Addr} (s : Src H a) (n : H q = none) : q ≠ a := fun e => by
  obtain ⟨x, y, z, h⟩ := s
  rw [e, h] at n
  cases n
/-- a thing drawn: its number is less than m -/
def spNextM : Sp := fun vs H Q _ => ∃ (a : Addr) (m : Nat), vs = [.ref a, .int (m : Nat)] ∧ 1 ≤ m ∧ m ≤ 100000 ∧ Src H a ∧ ∀ (r : Nat) H', r < m → Drawn a H H' → Q (.int (r : Nat)) H'
theorem pickM {p : V → Prop} {xs : List V} {r : Nat} (h : r < xs.length) (hp : ∀ v ∈ xs, p v) : ∃ v, atI xs (r : Int) = some v ∧ p v :=
  ⟨xs[r]'h, atI_nat (List.getElem?_eq_getElem h), hp _ (List.getElem_mem h)⟩
theorem kn {H : Hp} {q p : Addr} {o x : HO} (h : H q = some o) (n : H p = none) : upd H p x q = some o := by
  rw [upd_ne (ne_of_none h n)]
  exact h
theorem free_drawn {a p : Addr} {H H1 : Hp} (x : Drawn a H H1) (h : H1 p = none) : H p = none := by
  cases e : H p with
  | none => rfl
  | some o =>
    rw [x.old p o (x.src.neM h) e] at h
    cases h
section
variable {P : Program} {w : World} {K : PySem.W.Frag} {mg : Str → Option Value} {base : Heap}
theorem next_m (R : Ready P w K mg base 2 "_law_next" ["_law_source_here", "_law_many"] spNext) : Ready P w K mg base 2 "_law_next" ["_law_source_here", "_law_many"] spNextM := by
  obtain ⟨f, fd, g, k, b, G⟩ := R
  refine ⟨f, fd, g, k, b, G.imp fun vs H Q E h => ?_⟩
  obtain ⟨a, m, rfl, h1, h2, ⟨x, y, z, hs⟩, q⟩ := h
  exact ⟨a, m, x, y, z, rfl, h1, h2, hs, fun r x' z' hr => q r _ hr drawn_upd⟩
end
end FL


namespace FL
open PySem PySem.Spec PyProof.Rows L2
/-- both ways of an if meet -/
theorem ite_key {c : Prop} [Decidable c] {A : Prop} {N : L2.St → Hp → Prop} {σ : L2.St} {H : Hp} (J : L2.St → Hp → Prop) (key : ∀ σ' H', J σ' H' → N σ' H') (hA : (∀ σ' H', J σ' H' → N σ' H') → c → A) (hB : ¬ c → J σ H) : if c then A else N σ H := by
  by_cases h : c
  · rw [if_pos h]
    exact hA key h
  · rw [if_neg h]
    exact key _ _ (hB h)
theorem and_key {c : Prop} [Decidable c] {A B : Prop} {N : L2.St → Hp → Prop} {σ : L2.St} {H : Hp} (J : L2.St → Hp → Prop) (key : ∀ σ' H', J σ' H' → N σ' H') (hA : (∀ σ' H', J σ' H' → N σ' H') → c → A) (hB : ¬ c → J σ H) : if c then A else if false = true then B else N σ H := by
  by_cases h : c
  · rw [if_pos h]
    exact hA key h
  · rw [if_neg h, if_neg Bool.false_ne_true]
    exact key _ _ (hB h)
end FL


namespace FL
open PySem PySem.Spec PyProof.Rows L2
section
variable {P : Program} {w : World} {K : PySem.W.Frag} {mg : Str → Option Value} {base : Heap}
theorem scIsAtom : FnScope ["sign"] ["sign"] (defScope sIsAtom) := ⟨rfl, rfl, rfl, by decide +kernel, rfl, by decide +kernel, by decide +kernel⟩
def atomText : Str := "!#$&'*+-./=?^_`{|}~"
theorem atomText_codes : atomText.cps.toList = atomSigns := by decide +kernel
theorem r_is_atom (A : FnAt K mg "_is_atom_sign" sIsAtom) (RL : Ready P w K mg base 1 "is_letter" ["sign"] (spSign isLet)) (RF : Ready P w K mg base 1 "is_figure" ["sign"] (spSign isFig)) {tp : Tok} (mp : mg "ATOM_SIGNS" = some (.str atomText tp)) :
    Ready P w K mg base 2 "_is_atom_sign" ["sign"] (spSign isAtm) := by
  obtain ⟨f1, fd1, g1, k1, b1, G1⟩ := RL
  obtain ⟨f2, fd2, g2, k2, b2, G2⟩ := RF
  refine ready_of A (fun _ _ _ _ _ _ us hl => match us, hl with | [_], _ => rfl) fun f fd F => ?_
  refine F.ok scIsAtom (fun vs H Q E h => ?_) (fun cdv A outer s H vs Q E hr h => ?_)
  · obtain ⟨c, rfl, _⟩ := h
    rfl
  · obtain ⟨c, rfl, q⟩ := h
    refine ⟨_, pss_one (ps_ret (pe_or (pe_call G1 hr (by rfl) g1 k1 b1 .nil pass0 (pa_cons (pv 0) pa_nil)) (pe_or (pe_call G2 hr (by rfl) g2 k2 b2 .nil pass0 (pa_cons (pv 0) pa_nil))
      (pe_one (pe_cmpR op_in_sign (pv 0) (pe_glob (v := .str atomText) rfl mp ⟨tp, rfl⟩) (by rfl)))))), ?_⟩
    refine ⟨_, rfl, c, rfl, _, rfl, ?_⟩
    cases h1 : isLet c with
    | true =>
      rw [if_pos rfl]
      exact bl_to (by unfold isAtm; rw [h1]; rfl) q
    | false =>
      rw [if_neg Bool.false_ne_true]
      refine ⟨_, rfl, c, rfl, _, rfl, ?_⟩
      cases h2 : isFig c with
      | true =>
        rw [if_pos rfl]
        exact bl_to (by unfold isAtm; rw [h1, h2]; rfl) q
      | false =>
        rw [if_neg Bool.false_ne_true]
        refine ⟨_, rfl, c, atomText, rfl, rfl, bl_to ?_ q⟩
        rw [atomText_codes]
        unfold isAtm
        rw [h1, h2]
        rfl
/-! ### _atom_end -/
def atomEnd (l : List Nat) (b : Nat) : Nat := b + ((l.drop b).takeWhile isAtm).length
theorem atomEnd_step {l : List Nat} {b c : Nat} (h : l[b]? = some c) (a : isAtm c = true) : atomEnd l b = atomEnd l (b + 1) := by
  have hb : b < l.length := (List.getElem?_eq_some_iff.mp h).1
  have e : l[b] = c := (List.getElem?_eq_some_iff.mp h).2
  unfold atomEnd
  rw [List.drop_eq_getElem_cons hb, e, List.takeWhile_cons, a]
  simp
  omega
theorem atomEnd_stop {l : List Nat} {b c : Nat} (h : l[b]? = some c) (a : isAtm c = false) : atomEnd l b = b := by
  have hb : b < l.length := (List.getElem?_eq_some_iff.mp h).1
  have e : l[b] = c := (List.getElem?_eq_some_iff.mp h).2
  unfold atomEnd
  rw [List.drop_eq_getElem_cons hb, e, List.takeWhile_cons, a]
  simp
theorem atomEnd_end {l : List Nat} {b : Nat} (h : l.length ≤ b) : atomEnd l b = b := by
  unfold atomEnd
  rw [List.drop_eq_nil_of_le h]
  rfl
theorem atomEnd_le {l : List Nat} {b : Nat} (h : b ≤ l.length) : atomEnd l b ≤ l.length := by
  unfold atomEnd
  have := (List.takeWhile_prefix (p := isAtm) (l := l.drop b)).length_le
  rw [List.length_drop] at this
  omega
def spAtomEnd : Sp := fun vs H Q _ => ∃ (z : Str) (b : Nat), vs = [.str z, .int (b : Nat)] ∧ z.length ≤ 10000 ∧ b ≤ z.length ∧ Q (.int (atomEnd z.cps.toList b : Nat)) H
theorem scAtomEnd : FnScope ["text", "begin", "end"] ["text", "begin"] (defScope sAtomEnd) := ⟨rfl, rfl, rfl, by decide +kernel, rfl, by decide +kernel, by decide +kernel⟩
theorem r_atom_end (A : FnAt K mg "_atom_end" sAtomEnd) (RS : Ready P w K mg base 2 "_is_atom_sign" ["sign"] (spSign isAtm)) (ml : mg "len" = none) :
    Ready P w K mg base 3 "_atom_end" ["text", "begin"] spAtomEnd := by
  obtain ⟨fS, fdS, gS, kS, bS, GS⟩ := RS
  refine ready_of A (fun _ _ _ _ _ _ us hl => match us, hl with | [_, _], _ => rfl) fun f fd F => ?_
  refine F.ok scAtomEnd (fun vs H Q E h => ?_) (fun cdv A outer s H vs Q E hr h => ?_)
  · obtain ⟨z, b, rfl, _⟩ := h
    rfl
  · obtain ⟨z, b, rfl, hz, hb, q⟩ := h
    refine ⟨_, pss_cons (ps_set (i := 2) scAtomEnd.nd rfl (.inl rfl) (pv 1))
      (pss_cons (ps_while PassesOwn.never (PW.pt (pw_and (pt_cmpR op_lt (pv 2) (pe_callB call_len_str (by rfl) ml PySem.boot_len (pa_cons (pv 0) pa_nil)) (nomark _))
        (pw_and1 (pt_val (pe_call GS hr (by rfl) gS kS bS .nil pass0 (pa_cons (pe_item_str (pv 0) (pv 2) (fun _ _ => rfl)) pa_nil))))))
        (pss_one (ps_aug (i := 2) scAtomEnd.nd rfl (.inl rfl) pe_int ip_add)))
      (pss_one (ps_ret (pv 2)))), ?_⟩
    refine ⟨.int b, rfl, ?_⟩
    refine ⟨fun m σ H' => ∃ e : Nat, σ = [some (.str z), some (.int b), some (.int e)] ∧ H' = H ∧ e ≤ z.length ∧ m = z.length - e ∧ atomEnd z.cps.toList b = atomEnd z.cps.toList e,
      ⟨z.length - b, b, rfl, rfl, hb, rfl, rfl⟩, fun m σ H' hW => ?_⟩
    obtain ⟨e, rfl, rfl, he, rfl, hE⟩ := hW
    refine ⟨_, rfl, _, rfl, z, rfl, Nat.le_of_lt (szl hz), _, _, rfl, rfl, _, rfl, ?_⟩
    by_cases h1 : e < z.length
    · rw [decide_eq_true (by omega : (e : Int) < (z.length : Int))]
      obtain ⟨c, hc⟩ : ∃ c, z.cps[e]? = some c := ⟨_, Array.getElem?_eq_getElem (show e < z.cps.size from h1)⟩
      have hc' : z.cps.toList[e]? = some c := by
        rw [Array.getElem?_toList]
        exact hc
      refine iteT ⟨_, rfl, _, rfl, z, e, c, rfl, rfl, by omega, by omega, by omega, ?_, c, rfl, _, rfl, ?_⟩
      · rw [Int.toNat_natCast]
        exact hc
      · cases ha : isAtm c with
        | true =>
          refine iteT ⟨fun σ' H'' => ∃ e' : Nat, σ' = [some (.str z), some (.int b), some (.int e')] ∧ H'' = H' ∧ e' = e + 1, fun σ' H'' hN => ?_, ?_⟩
          · obtain ⟨e', rfl, rfl, rfl⟩ := hN
            exact ⟨_, (by omega : z.length - (e + 1) < z.length - e), e + 1, rfl, rfl, h1, rfl, hE.trans (atomEnd_step hc' ha)⟩
          · exact ⟨_, rfl, _, _, rfl, rfl, e + 1, rfl, rfl, rfl⟩
        | false =>
          refine iteF ⟨_, rfl, ?_⟩
          rw [hE, atomEnd_stop hc' ha] at q
          exact q
    · rw [decide_eq_false (by omega : ¬ (e : Int) < (z.length : Int))]
      refine iteF (iteF ⟨_, rfl, ?_⟩)
      rw [hE, atomEnd_end (by rw [len_cps]; omega)] at q
      exact q
end
end FL


namespace FL
open PySem PySem.Spec PyProof.Rows L2
section
variable {P : Program} {w : World} {K : PySem.W.Frag} {mg : Str → Option Value} {base : Heap}
/-! ### quoted -/
def esc (l : List Nat) : List Nat := l.flatMap fun c => if c = 92 ∨ c = 34 then [92, c] else [c]
def quotedL (l : List Nat) : List Nat := if l ≠ [] ∧ atomEnd l 0 = l.length then l else 34 :: (esc l ++ [34])
def spQuoted : Sp := fun vs H Q _ => ∃ z : Str, vs = [.str z] ∧ z.length ≤ 1000 ∧ isLn z.cps.toList = true ∧ ∀ H', Same H H' → Q (.str (mk (quotedL z.cps.toList))) H'
theorem scQuoted : FnScope ["text", "inner"] ["text"] (defScope sQuoted) := ⟨rfl, rfl, rfl, by decide +kernel, rfl, by decide +kernel, by decide +kernel⟩
theorem replL_one {y : Nat} {z : List Nat} : ∀ l : List Nat, PySem.StrLaws.replL [y] z l = l.flatMap fun c => if c = y then z else [c]
  | [] => PySem.StrLaws.replL_nil
  | c :: r => by
    have ih := replL_one (y := y) (z := z) r
    rw [List.flatMap_cons]
    by_cases h : c = y
    · subst h
      rw [PySem.StrLaws.replL_hit (by simp) (by simp), if_pos rfl]
      show z ++ PySem.StrLaws.replL [c] z r = _
      rw [ih]
    · rw [PySem.StrLaws.replL_miss (by simp [h]), if_neg h, ih]
      rfl
theorem esc_two (l : List Nat) : (l.flatMap fun c => if c = 92 then [92, 92] else [c]).flatMap (fun c => if c = 34 then [92, 34] else [c]) = esc l := by
  unfold esc
  rw [List.flatMap_assoc]
  congr 1
  funext c
  by_cases h1 : c = 92
  · subst h1
    rfl
  · rw [if_neg h1]
    by_cases h2 : c = 34
    · subst h2
      rfl
    · rw [if_neg (by omega : ¬ (c = 92 ∨ c = 34))]
      simp [h2]
theorem esc_len (l : List Nat) : (esc l).length ≤ 2 * l.length := by
  unfold esc
  induction l with
  | nil => exact Nat.le_refl _
  | cons c r ih =>
    rw [List.flatMap_cons, List.length_append, List.length_cons]
    by_cases h : c = 92 ∨ c = 34
    · rw [if_pos h]
      have : ([92, c] : List Nat).length = 2 := rfl
      omega
    · rw [if_neg h]
      have : ([c] : List Nat).length = 1 := rfl
      omega
theorem okT {x qual : Str} {st : Stmt} {f : Addr} {fd : FuncData} {N ps : List Str} {k : Nat} {sp : Sp} (F : Fun K x qual st f fd) (S : FnScope N ps (defScope st)) (hnc : ∀ y ∈ (defScope st).names, y.2 ≠ .cell) (hps : 1 ≤ ps.length) (len : ∀ vs H Q E, sp vs H Q E → vs.length = ps.length)
    (hbody : ∀ (cdv : Value) (A : Around) (outer : List Env) (s : Shared) (H : Hp) (vs : List V) (Q : VK) (E : XK), Room k (A.deeper (envOfC qual (defScope st) s.heap.objs.size f cdv)) → sp vs H Q E →
      ∃ t, PSsT (cxOf CX0 P w K mg base N qual (defScope st) f cdv A outer s H E) (defBody st) t ∧ t { nx := fun _ H' => Q .non H', rt := Q } (start N vs) H) : FnOk P w K mg base CX0 (k + 1) f fd ps sp := by
  obtain ⟨oc, od, kV, doc, pm, an, cdv, ct, osl, rfl, lk, hcd⟩ := F.ex
  exact fn_ofT lk hcd S hnc hps len fun A outer s H vs Q E hr hsp => hbody cdv A outer s H vs Q E hr hsp
theorem pst_set {X : Cx} {i : Nat} {x : Str} {e : Expr} {te : TE} {pos pos' : Pos} (hN : X.N.Nodup) (hi : X.N[i]? = some x) (hx : Loc X.env.scope x) (he : PET X e te) (hs : swapsWith e (some (.Name x pos')) pos.line X.env = pure false := by rfl) (hf : X.fn x = true ∨ X.env.scope.names.lookup x = some .local := by first | exact .inl rfl | exact .inr rfl | assumption) :
    PST X (.Assign [.Name x pos'] e pos) (tAsg te (gName i)) := by
  intro pins s σ H D h0 I h
  refine wpAny_Assign_Name (thn (he pins s σ H _ h0 I h) fun v s1 ⟨y, H1, I1, r1, q1⟩ => ?_) hs
  exact store_ok I1 hN hi hx r1 (fun s2 I2 => ⟨_, H1, I2, q1⟩) hf
theorem r_quoted (A : FnAt K mg "quoted" sQuoted) (RL : Ready P w K mg base 3 "is_line" ["value"] (spLine K isLn)) (RE : Ready P w K mg base 3 "_atom_end" ["text", "begin"] spAtomEnd) (ml : mg "len" = none) :
    Ready P w K mg base 4 "quoted" ["text"] spQuoted := by
  obtain ⟨f1, fd1, g1, k1, b1, G1⟩ := RL
  obtain ⟨f2, fd2, g2, k2, b2, G2⟩ := RE
  refine ready_of A (fun _ _ _ _ _ _ us hl => match us, hl with | [_], _ => rfl) fun f fd F => ?_
  refine okT F scQuoted (by decide +kernel) (by decide) (fun vs H Q E h => ?_) (fun cdv A outer s H vs Q E hr h => ?_)
  · obtain ⟨z, rfl, _⟩ := h
    rfl
  · obtain ⟨z, rfl, hz, hl, q⟩ := h
    have sc := scQuoted
    refine ⟨_, psst_cons (PST.of (ps_if (pt_not (pt_val (pe_call G1 hr (by rfl) g1 k1 b1 .nil pass0 (pa_cons (pv 0) pa_nil)))) (pss_one ps_never) pss_nil))
      (psst_cons (PST.of (ps_if (PW.pt (pw_and (pt_cmpR op_ne (pv 0) pe_str (nomark _)) (pw_and1 (pt_cmpR op_eq (pe_call G2 hr (by rfl) g2 k2 b2 .nil pass0 (pa_cons (pv 0) (pa_cons pe_int pa_nil)))
          (pe_callB call_len_str (by rfl) ml PySem.boot_len (pa_cons (pv 0) pa_nil)) (nomark _))))) (pss_one (ps_ret (pv 0))) pss_nil))
      (psst_cons (pst_set (i := 1) sc.nd rfl (.inl rfl) (CwR.pet_replT (CwR.pet_replC (pv 0))))
      (PSsT.of (pss_one (ps_ret (pe_op op_add_str (pe_op op_add_str pe_str (pv 1)) pe_str)))))), ?_⟩
    refine ⟨_, rfl, _, rfl, .inl ⟨z, rfl, Nat.le_trans hz (by decide), fun H0 s0 => ⟨_, rfl, ?_⟩⟩⟩
    rw [hl]
    refine iteF ?_
    have hzl := len_cps z
    have e0 : decide (V.str z = V.str ("" : Str)) = decide (z.cps.toList = []) := decide_eq_decide.mpr ⟨fun h => by
      injection h with h
      rw [h]
      decide +kernel, fun h => by
      have : z = mk [] := mk_eq h
      rw [this]
      rfl⟩
    have e92 : (("\\" : Str)).cps.toList = [92] := by decide +kernel
    have e9292 : (("\\\\" : Str)).cps.toList = [92, 92] := by decide +kernel
    have e34 : (("\"" : Str)).cps.toList = [34] := by decide +kernel
    have e9234 : (("\\\"" : Str)).cps.toList = [92, 34] := by decide +kernel
    have r1 : (Txt.replace z ("\\" : Str) ("\\\\" : Str)).cps.toList = z.cps.toList.flatMap fun c => if c = 92 then [92, 92] else [c] := by
      rw [PySem.StrLaws.replace_list (by decide +kernel), e92, e9292, replL_one]
    have r2 : (Txt.replace (Txt.replace z ("\\" : Str) ("\\\\" : Str)) ("\"" : Str) ("\\\"" : Str)).cps.toList = esc z.cps.toList := by
      rw [PySem.StrLaws.replace_list (by decide +kernel), e34, e9234, replL_one, r1, esc_two]
    have l1 : (Txt.replace z ("\\" : Str) ("\\\\" : Str)).length ≤ z.length + (z.length + 1) * 2 := TK.replace_len z ("\\" : Str) ("\\\\" : Str)
    have tail : quotedL z.cps.toList = 34 :: (esc z.cps.toList ++ [34]) → tSeq (tAsg (CwR.tReplC (CwR.tReplC (tVar 0) ("\\" : Str) ("\\\\" : Str)) ("\"" : Str) ("\\\"" : Str)) (gName 1)) (tSeq (tRet (tOp (fun x y H Q => ∃ i j, x = .str i ∧ y = .str j ∧ i.length + j.length ≤ sizeLine ∧ Q (.str (i ++ j)) H) (tOp (fun x y H Q => ∃ i j, x = .str i ∧ y = .str j ∧ i.length + j.length ≤ sizeLine ∧ Q (.str (i ++ j)) H) (tC (.str ("\"" : Str))) (tVar 1)) (tC (.str ("\"" : Str))))) tNext) { nx := fun _ H' => Q .non H', rt := Q } (start ["text", "inner"] [.str z]) H0 := fun hq => by
      have h2 : ("\\\\" : Str).length = 2 := by decide +kernel
      have h3 : ("\\\"" : Str).length = 2 := by decide +kernel
      have h1 : ("\"" : Str).length = 1 := by decide +kernel
      have l2 : (Txt.replace (Txt.replace z ("\\" : Str) ("\\\\" : Str)) ("\"" : Str) ("\\\"" : Str)).length ≤ 2000 := by
        rw [← len_cps, r2]
        have := esc_len z.cps.toList
        omega
      refine ⟨_, rfl, z, rfl, by rw [h2]; omega, _, rfl, by rw [h3]; omega, ?_⟩
      refine ⟨_, rfl, _, _, rfl, rfl, by rw [h1]; exact Nat.le_of_lt (szl (by omega)), _, _, rfl, rfl, by rw [len_append, h1]; exact Nat.le_of_lt (szl (by omega)), ?_⟩
      have := q H0 s0
      rw [hq] at this
      have ee : ("\"" : Str) ++ (Txt.replace (Txt.replace z ("\\" : Str) ("\\\\" : Str)) ("\"" : Str) ("\\\"" : Str)) ++ ("\"" : Str) = mk (34 :: (esc z.cps.toList ++ [34])) := by
        rw [mk_eq r2, mk_eq e34, mk_app, mk_app]
        rfl
      show Q (.str (("\"" : Str) ++ (Txt.replace (Txt.replace z ("\\" : Str) ("\\\\" : Str)) ("\"" : Str) ("\\\"" : Str)) ++ ("\"" : Str))) H0
      rw [ee]
      exact this
    refine ⟨_, rfl, rfl, _, rfl, ?_⟩
    rw [e0]
    by_cases hn : z.cps.toList = []
    · rw [decide_eq_true hn]
      refine iteF (iteF (tail ?_))
      unfold quotedL
      rw [if_neg (fun h => h.1 hn)]
    · rw [decide_eq_false hn]
      refine iteT ?_
      refine ⟨_, rfl, z, 0, rfl, Nat.le_trans hz (by decide), Nat.zero_le _, _, rfl, z, rfl, Nat.le_of_lt (szl (by omega)), rfl, _, rfl, ?_⟩
      refine ite2 (fun h => ?_) (fun h => ?_)
      · have h1 : atomEnd z.cps.toList 0 = z.cps.toList.length := by
          have := V.int.inj (of_decide_eq_true h)
          omega
        refine ⟨_, rfl, ?_⟩
        have := q H0 s0
        unfold quotedL at this
        rw [if_pos ⟨hn, h1⟩, mk_of] at this
        exact this
      · refine tail ?_
        unfold quotedL
        rw [if_neg]
        rintro ⟨_, h2⟩
        exact h (decide_eq_true (by rw [h2, hzl]))
end
end FL

namespace FL
open PySem PySem.Spec PyProof.Rows L2
/-! ### numbers by a format -/
section
open Builtin Builtin.Str Builtin.Int Builtin.Float
/-- the codes of a number's figures -/
def dgs (b : Nat) (f : Char → Char) (n : Nat) : List Nat := (Nat.toDigits b n).map fun c => (f c).toNat
/-- s the sign, D the figures, filled up by 0 to w -/
def fld (w : Nat) (s D : List Nat) : List Nat :=
  let ds := if D.isEmpty then [] else List.replicate (((w : Int) - ((s.length : Int) + ((0 : Nat) : Int) + ((0 : Nat) : Int))).toNat - D.length) 48 ++ D
  List.replicate 0 48 ++ s ++ [] ++ List.replicate ((w : Int) - ((s.length : Int) + ((0 : Nat) : Int) + ((0 : Nat) : Int)) - (ds.length : Int)).toNat 48 ++ ds ++ [] ++ List.replicate 0 48
theorem fld_of {w : Nat} {D : List Nat} (h : D ≠ []) : fld w [] D = List.replicate (w - D.length) 48 ++ D := by
  unfold fld
  have h1 : D.isEmpty = false := by cases D with
    | nil => exact absurd rfl h
    | cons a r => rfl
  simp only [h1, List.length_nil, Bool.false_eq_true, if_false, List.replicate_zero, List.nil_append, List.append_nil]
  have h2 : (((w : Int) - (((0 : Nat) : Int) + ((0 : Nat) : Int) + ((0 : Nat) : Int))).toNat) = w := by omega
  rw [h2]
  have h3 : ((w : Int) - (((0 : Nat) : Int) + ((0 : Nat) : Int) + ((0 : Nat) : Int)) - ((List.replicate (w - D.length) 48 ++ D).length : Int)).toNat = 0 := by
    rw [List.length_append, List.length_replicate]
    omega
  rw [h3]
  rfl
theorem neg_no (n : Nat) : (if decide ((n : Int) < 0) = true then [45] else ([] : List Nat)) = [] := if_neg (by rw [decide_eq_false (by omega : ¬ (n : Int) < 0)]; exact Bool.false_ne_true)
theorem small_log {n : Nat} (h : n < 10000) : (n : Int).natAbs.log2 < 1920 := by
  rw [Int.natAbs_natCast]
  by_cases h0 : n = 0
  · subst h0; decide
  · have h1 : n.log2 < 14 := (Nat.log2_lt h0).mpr (Nat.lt_of_lt_of_le h (by decide))
    omega
theorem dgs_lt {b n : Nat} {f : Char → Char} (h : n < b) : dgs b f n = [(f n.digitChar).toNat] := by
  unfold dgs
  rw [Nat.toDigits_of_lt_base h]
  rfl
theorem dgs_ge {b n : Nat} {f : Char → Char} (h1 : 1 < b) (h : b ≤ n) : dgs b f n = dgs b f (n / b) ++ [(f (n % b).digitChar).toNat] := by
  unfold dgs
  rw [Nat.toDigits_of_base_le h1 h, List.map_append]
  rfl
theorem dig10 : ∀ k, k < 10 → (id k.digitChar).toNat = 48 + k := by decide
def hexd (k : Nat) : Nat := if k < 10 then 48 + k else 55 + k
theorem dig16 : ∀ k, k < 16 → (k.digitChar.toUpper).toNat = hexd k := by decide +kernel
def hex2 (n : Nat) : List Nat := [hexd (n / 16), hexd (n % 16)]
def dec2 (n : Nat) : List Nat := [48 + n / 10, 48 + n % 10]
def dec4 (n : Nat) : List Nat := [48 + n / 1000, 48 + n / 100 % 10, 48 + n / 10 % 10, 48 + n % 10]
/-- without a 0 ahead -/
def decs (n : Nat) : List Nat := if n < 10 then [48 + n] else if n < 100 then [48 + n / 10, 48 + n % 10] else if n < 1000 then [48 + n / 100, 48 + n / 10 % 10, 48 + n % 10] else dec4 n
theorem dgs10 {n : Nat} (h : n < 10000) : dgs 10 id n = decs n := by
  unfold decs
  split
  · rename_i h1
    rw [dgs_lt h1, dig10 n h1]
  · split
    · rename_i h1 h2
      rw [dgs_ge (by decide) (by omega), dgs_lt (by omega), dig10 _ (by omega), dig10 _ (by omega)]
      rfl
    · split
      · rename_i h1 h2 h3
        rw [dgs_ge (by decide) (by omega), dgs_ge (by decide) (by omega), dgs_lt (by omega), dig10 _ (by omega), dig10 _ (by omega), dig10 _ (by omega), Nat.div_div_eq_div_mul]
        rfl
      · rw [dgs_ge (by decide) (by omega), dgs_ge (by decide) (by omega), dgs_ge (by decide) (by omega), dgs_lt (by omega), dig10 _ (by omega), dig10 _ (by omega), dig10 _ (by omega), dig10 _ (by omega)]
        unfold dec4
        rw [show n / 1000 = n / 10 / 10 / 10 by omega, show n / 100 % 10 = n / 10 / 10 % 10 by omega]
        rfl
theorem fld2 {n : Nat} (h : n < 100) : fld 2 (if decide ((n : Int) < 0) = true then [45] else []) (dgs 10 id n) = dec2 n := by
  rw [neg_no, dgs10 (by omega)]
  unfold decs dec2
  split
  · rename_i h1
    rw [fld_of (by simp), show n / 10 = 0 by omega, show n % 10 = n by omega]
    rfl
  · rw [fld_of (by simp)]
    rfl
theorem fld4 {n : Nat} (h : n < 10000) : fld 4 (if decide ((n : Int) < 0) = true then [45] else []) (dgs 10 id n) = dec4 n := by
  rw [neg_no, dgs10 h]
  unfold decs
  split
  · rw [fld_of (by simp)]
    unfold dec4
    rw [show n / 1000 = 0 by omega, show n / 100 % 10 = 0 by omega, show n / 10 % 10 = 0 by omega, show n % 10 = n by omega]
    rfl
  · split
    · rw [fld_of (by simp)]
      unfold dec4
      rw [show n / 1000 = 0 by omega, show n / 100 % 10 = 0 by omega, show n / 10 % 10 = n / 10 by omega]
      rfl
    · split
      · rw [fld_of (by simp)]
        unfold dec4
        rw [show n / 1000 = 0 by omega, show n / 100 % 10 = n / 100 by omega]
        rfl
      · rw [fld_of (by simp [dec4])]
        rfl
theorem fldX {n : Nat} (h : n < 256) : fld 2 (if decide ((n : Int) < 0) = true then [45] else []) (dgs 16 Char.toUpper n) = hex2 n := by
  rw [neg_no]
  unfold hex2
  by_cases h1 : n < 16
  · rw [dgs_lt h1, dig16 n h1, fld_of (by simp), show n / 16 = 0 by omega, show n % 16 = n by omega]
    rfl
  · rw [dgs_ge (by decide) (by omega), dgs_lt (by omega), dig16 _ (by omega), dig16 _ (by omega), fld_of (by simp)]
    rfl
theorem fmt_X (t u : Tok) (n : Nat) : Gives («int.__format__» ⟨[.int (n : Int) t, .str "02X" u], []⟩) (.str ⟨(fld 2 (if decide ((n : Int) < 0) = true then [45] else []) (dgs 16 Char.toUpper n)).toArray⟩) := by
  exact .of_eq rfl
theorem fmt_02d (t u : Tok) (n : Nat) (h : (n : Int).natAbs.log2 < 1920) : Gives («int.__format__» ⟨[.int (n : Int) t, .str "02d" u], []⟩) (.str ⟨(fld 2 (if decide ((n : Int) < 0) = true then [45] else []) (dgs 10 id n)).toArray⟩) := by
  refine (show Gives (Bind.bind (overDigitLimit? (n : Int)) _) _ from ?_)
  rw [PySem.overDigitLimit_small h]
  exact .of_eq rfl
theorem fmt_04d (t u : Tok) (n : Nat) (h : (n : Int).natAbs.log2 < 1920) : Gives («int.__format__» ⟨[.int (n : Int) t, .str "04d" u], []⟩) (.str ⟨(fld 4 (if decide ((n : Int) < 0) = true then [45] else []) (dgs 10 id n)).toArray⟩) := by
  refine (show Gives (Bind.bind (overDigitLimit? (n : Int)) _) _ from ?_)
  rw [PySem.overDigitLimit_small h]
  exact .of_eq rfl
end
section
variable {X : Cx} {e : Expr} {te : TE} {k : Nat} {p1 p2 pos : Pos}
/-- {e:sp}, e a whole number from 0 on below b -/
def tFmtS (f : Nat → List Nat) (b : Nat) (te : TE) : TE := fun σ H Q => te σ H fun x H1 => ∃ n : Nat, x = .int (n : Int) ∧ n < b ∧ Q (.str (mk (f n))) H1
theorem pe_fmtS {sp : Str} {f : Nat → List Nat} {b : Nat} (hne : (sp.length == 0) = false) (hsz : sp.length ≤ sizeLine) (hf : ∀ n, n < b → (f n).length ≤ 100)
    (g : ∀ (t u : Tok) (n : Nat), n < b → Gives (Builtin.«int.__format__» ⟨[.int (n : Int) t, .str sp u], []⟩) (.str (mk (f n)))) (he : PE X e te) :
    PE X (.FormattedValue e (-1) (some (.JoinedStr [.Constant (.str sp) k p1] p2)) pos) (tFmtS f b te) := by
  refine ⟨fun pins s σ H Q I h => ?_⟩
  refine wpAny_FormattedValue_spec (thn (he.run pins s σ H _ I h) fun v s1 hv => ?_)
  obtain ⟨x, H1, I1, r1, n, rfl, hn, q⟩ := hv
  obtain ⟨t, rfl⟩ := r1
  refine thn ((pe_joined1 pe_str).run pins s1 σ H1 (fun y H2 => y = .str sp ∧ H2 = H1) I1 ⟨rfl, rfl⟩) fun r s2 hr => ?_
  obtain ⟨y, H2, I2, r2, rfl, rfl⟩ := hr
  obtain ⟨u, rfl⟩ := r2
  refine ⟨sp, u, rfl, ?_⟩
  refine wpAny_formatField_spec hne (fun s' => typeIs_int s' _ t) F.slot_int_format F.entry_int_format (fun a b => F.args_int_format_2 a b) (fun u => g t u n hn) ⟨.str (mk (f n)), _, I2.tok _, ⟨_, rfl⟩, q⟩ hsz ?_
  rw [mk_len]
  exact Nat.le_of_lt (szl (by have := hf n hn; omega))
theorem pe_fmtX (he : PE X e te) : PE X (.FormattedValue e (-1) (some (.JoinedStr [.Constant (.str "02X") k p1] p2)) pos) (tFmtS hex2 256 te) :=
  pe_fmtS (by decide +kernel) (by decide +kernel) (fun _ _ => by simp [hex2]) (fun t u n hn => by have := fmt_X t u n; rw [fldX hn] at this; exact this) he
theorem pe_fmt2 (he : PE X e te) : PE X (.FormattedValue e (-1) (some (.JoinedStr [.Constant (.str "02d") k p1] p2)) pos) (tFmtS dec2 100 te) :=
  pe_fmtS (by decide +kernel) (by decide +kernel) (fun _ _ => by simp [dec2]) (fun t u n hn => by have := fmt_02d t u n (small_log (by omega)); rw [fld2 hn] at this; exact this) he
theorem pe_fmt4 (he : PE X e te) : PE X (.FormattedValue e (-1) (some (.JoinedStr [.Constant (.str "04d") k p1] p2)) pos) (tFmtS dec4 10000 te) :=
  pe_fmtS (by decide +kernel) (by decide +kernel) (fun _ _ => by simp [dec4]) (fun t u n hn => by have := fmt_04d t u n (small_log hn); rw [fld4 hn] at this; exact this) he
/-- str(n) -/
theorem toString_codes {n : Nat} (h : n < 10000) : ((toString (n : Int) : String) : Str) = mk (decs n) := by
  refine mk_eq ?_
  rw [← dgs10 h]
  exact TL.tl_num n
end
end FL


namespace FL
open PySem PySem.Spec PyProof.Rows L2
/-! ### sixes -/
def SIXS : Str := "ABCDEFGHIJKLMNOPQRSTUVWXYZabcdefghijklmnopqrstuvwxyz0123456789+/"
def six (n : Nat) : Nat := SIXS.cps.getD n 0
theorem six_at : ∀ n, n < 64 → SIXS.cps[n]? = some (six n) := by decide +kernel
theorem six_len : SIXS.length = 64 := by decide +kernel
def four : List Nat → List Nat
  | [a] => [six (a / 4), six (a % 4 * 16), 61, 61]
  | [a, b] => [six (a / 4), six (a % 4 * 16 + b / 16), six (b % 16 * 4), 61]
  | [a, b, c] => [six (a / 4), six (a % 4 * 16 + b / 16), six (b % 16 * 4 + c / 64), six (c % 64)]
  | _ => []
def sixC : List Nat → List Nat
  | [] => []
  | [a] => four [a]
  | [a, b] => four [a, b]
  | a :: b :: c :: r => four [a, b, c] ++ sixC r
theorem four_len {l : List Nat} (h1 : 1 ≤ l.length) (h2 : l.length ≤ 3) : (four l).length = 4 := by
  match l, h1, h2 with
  | [_], _, _ => rfl
  | [_, _], _, _ => rfl
  | [_, _, _], _, _ => rfl
theorem sixC_step {l : List Nat} (h : l ≠ []) : sixC l = four (l.take 3) ++ sixC (l.drop 3) := by
  match l, h with
  | [_], _ => rfl
  | [_, _], _ => rfl
  | [a, b, c], _ => rfl
  | a :: b :: c :: d :: r, _ => rfl
theorem e61 : ("=" : Str) = mk [61] := by decide +kernel
theorem szX {l : List Nat} (h : l.length ≤ 10000) : (mk l).length ≤ sizeLine := by rw [mk_len]; exact Nat.le_of_lt (szl h)
theorem catX {a b : Str} {l m : List Nat} (ha : a = mk l) (hb : b = mk m) : a ++ b = mk (l ++ m) := by rw [ha, hb, mk_app]
theorem szE {x : Str} {l : List Nat} (h : x = mk l) (hl : l.length ≤ 10000) : x.length ≤ sizeLine := by rw [h]; exact szX hl
theorem cut_toX (z : Str) {p : Nat} (h : p ≤ z.length) : (cutS z none (some (p : Nat))).cps.toList = z.cps.toList.take p := by
  unfold cutS
  rw [HT.sIx_none, HT.sIx_nat, Nat.min_eq_left h]
  show (List.take _ (List.drop 0 _)) = _
  rw [List.drop_zero, Nat.sub_zero]
section
variable {P : Program} {w : World} {K : PySem.W.Frag} {mg : Str → Option Value} {base : Heap}
def spFour : Sp := fun vs H Q _ => ∃ (a : Addr) (l : List Nat), vs = [.ref a] ∧ H a = some (.lst (iv l)) ∧ (∀ n ∈ l, n < 256) ∧ 1 ≤ l.length ∧ l.length ≤ 3 ∧ ∀ H', Same H H' → Q (.str (mk (four l))) H'
theorem size_up {L c : Nat} (h1 : 1 ≤ c) : Builtin.Range.rangeSize 0 (L : Int) (c : Nat) = (((L + c - 1) / c : Nat) : Int) := by
  unfold Builtin.Range.rangeSize
  rw [if_pos (by omega)]
  by_cases h0 : L = 0
  · subst h0
    rw [if_neg (by simp), show 0 + c - 1 = c - 1 by omega, Nat.div_eq_of_lt (by omega)]
    rfl
  · rw [if_pos (by omega)]
    have e : (L + c - 1) / c = (L - 1) / c + 1 := by
      rw [show L + c - 1 = L - 1 + c by omega, Nat.add_div_right _ (by omega)]
    rw [e]
    have : ((L : Int) - 0 - 1) = ((L - 1 : Nat) : Int) := by omega
    rw [this, ← Int.natCast_ediv]
    omega
theorem rg_up {L c : Nat} (h : L ≤ 100000) (h1 : 1 ≤ c) (h2 : c ≤ 1000) : RgC 0 (L : Int) (c : Nat) ((L + c - 1) / c) := by
  refine ⟨by omega, by omega, ?_, size_up h1⟩
  have hs : (L + c - 1) / c ≤ 101000 := Nat.le_trans (Nat.div_le_self _ _) (by omega)
  unfold Builtin.Range.small
  rw [size_up h1]
  generalize (L + c - 1) / c = n at hs
  simp only [Builtin.Range.rangeFitsLong, Bool.and_eq_true, Bool.or_eq_true, decide_eq_true_eq, beq_iff_eq]
  rw [if_pos (show ((c : Nat) : Int) > 0 by omega), Bool.and_eq_true, decide_eq_true_eq, decide_eq_true_eq]
  omega
def spSixes : Sp := fun vs H Q _ => ∃ (a : Addr) (l : List Nat), vs = [.ref a] ∧ H a = some (.lst (iv l)) ∧ (∀ n ∈ l, n < 256) ∧ l.length ≤ 9000 ∧ ∀ H', Same H H' → Q (.str (mk (sixC l))) H'
/-- the fours, one by one -/
def foursOf (l : List Nat) (k : Nat) : List (List Nat) := (List.range k).map fun i => four ((l.drop (3 * i)).take 3)
theorem fours_all : ∀ (k : Nat) (l : List Nat), k = (l.length + 2) / 3 → (foursOf l k).flatten = sixC l
  | 0, l, h => by
    have : l = [] := List.eq_nil_of_length_eq_zero (by omega)
    rw [this]
    rfl
  | k + 1, l, h => by
    have hl : l ≠ [] := fun e => by
      rw [e] at h
      simp at h
    rw [sixC_step hl, ← fours_all k (l.drop 3) (by rw [List.length_drop]; omega)]
    unfold foursOf
    rw [List.range_succ_eq_map, List.map_cons, List.flatten_cons, List.map_map]
    congr 2
    refine List.map_congr_left fun i _ => ?_
    show four ((l.drop (3 * (i + 1))).take 3) = four (((l.drop 3).drop (3 * i)).take 3)
    rw [List.drop_drop, show 3 + 3 * i = 3 * (i + 1) by omega]
end
end FL


namespace FL
open PySem PySem.Spec PyProof.Rows L2
/-! ### drawn octets -/
theorem cut_takeR (l : List Nat) (j : Nat) : cutV (iv l) none (some (j : Nat)) = iv (l.take j) := by
  unfold cutV
  rw [HT.sIx_none, HT.sIx_nat, iv_len, List.drop_zero, Nat.sub_zero]
  unfold iv
  rw [← List.map_take]
  congr 1
  by_cases h : j ≤ l.length
  · rw [Nat.min_eq_left h]
  · rw [Nat.min_eq_right (by omega), List.take_of_length_le (Nat.le_refl _), List.take_of_length_le (by omega)]
theorem cut_dropR (l : List Nat) (i : Nat) : cutV (iv l) (some (i : Nat)) none = iv (l.drop i) := by
  unfold cutV
  rw [HT.sIx_nat]
  show ((iv l).drop (min i (iv l).length)).take ((iv l).length - min i (iv l).length) = _
  by_cases h : i ≤ (iv l).length
  · rw [Nat.min_eq_left h, List.take_of_length_le (by rw [List.length_drop]; exact Nat.le_refl _), ← iv_drop]
  · rw [Nat.min_eq_right (by omega : (iv l).length ≤ i), List.drop_eq_nil_of_le (Nat.le_refl (iv l).length), List.drop_eq_nil_of_le (by rw [iv_len] at h; omega : l.length ≤ i)]
    simp [iv]
theorem rep_intR (k n : Nat) : (List.replicate ((k : Nat) : Int).toNat [V.int (n : Nat)]).flatten = iv (List.replicate k n) := by
  rw [Int.toNat_natCast]
  induction k with
  | zero => rfl
  | succ k ih =>
    rw [List.replicate_succ, List.flatten_cons, ih, List.replicate_succ]
    rfl
/-- drawn from a since H; at fp stands o -/
structure DR (a : Addr) (H : Hp) (fp : Addr) (o : HO) (Hc : Hp) : Prop where
  d : Drawn a H Hc
  f : Hc fp = some o
  n : fp ≠ a
  h : H fp = none
theorem Src.neR {H : Hp} {a q : Addr} (s : Src H a) (n : H q = none) : q ≠ a := fun e => by
  obtain ⟨x, y, z, h⟩ := s
  rw [e, h] at n
  cases n
theorem Src.newR {H : Hp} {a q : Addr} {o : HO} (s : Src H a) (n : H q = none) : Src (upd H q o) a := ((Drawn.refl s).same (same_new n)).src
theorem DR.free {a fp q : Addr} {H Hc : Hp} {o : HO} (s : DR a H fp o Hc) (n : Hc q = none) : H q = none ∧ q ≠ a ∧ q ≠ fp := by
  have h1 := s.d.src.neR n
  refine ⟨?_, h1, fun e => by rw [e, s.f] at n; cases n⟩
  cases hh : H q with
  | none => rfl
  | some o => rw [s.d.old q o h1 hh] at n; cases n
theorem DR.same {a fp : Addr} {H Hc H' : Hp} {o : HO} (s : DR a H fp o Hc) (k : Same Hc H') : DR a H fp o H' := ⟨s.d.same k, k _ _ s.f, s.n, s.h⟩
theorem DR.draw {a fp : Addr} {H Hc H' : Hp} {o : HO} (s : DR a H fp o Hc) (dr : Drawn a Hc H') : DR a H fp o H' := ⟨s.d.trans dr, dr.old _ _ s.n s.f, s.n, s.h⟩
theorem DR.other {a fp q : Addr} {H Hc : Hp} {o x : HO} (s : DR a H fp o Hc) (hq : H q = none) (hqa : q ≠ a) (hqf : q ≠ fp) : DR a H fp o (upd Hc q x) :=
  ⟨drawn_set s.d hq hqa.symm, by rw [upd_ne hqf.symm]; exact s.f, s.n, s.h⟩
theorem DR.set {a fp : Addr} {H Hc : Hp} {o x : HO} (s : DR a H fp o Hc) : DR a H fp x (upd Hc fp x) := ⟨drawn_set s.d s.h s.n.symm, upd_same, s.n, s.h⟩
theorem DR.new {a fp q : Addr} {H Hc : Hp} {o x : HO} (s : DR a H fp o Hc) (n : Hc q = none) : DR a H q x (upd Hc q x) := ⟨(s.d.same (same_new n)), upd_same, (s.free n).2.1, (s.free n).1⟩
def IsOc (v : V) : Prop := ∃ n : Nat, v = .int (n : Nat) ∧ n < 256
theorem pickNR {r : Nat} {ms : List Nat} (h : r < ms.length) : atI (ms.map fun m => V.int (m : Nat)) (r : Int) = some (.int (ms[r]'h : Nat)) :=
  atI_nat (by rw [List.getElem?_map, List.getElem?_eq_getElem h]; rfl)
theorem pickPR {p : V → Prop} {xs : List V} {r : Nat} (h : r < xs.length) (hp : ∀ v ∈ xs, p v) : ∃ v, atI xs (r : Int) = some v ∧ p v :=
  ⟨xs[r]'h, atI_nat (List.getElem?_eq_getElem h), hp _ (List.getElem_mem h)⟩
structure OcR (l : List Nat) : Prop where
  lt : ∀ n ∈ l, n < 256
  len : l.length ≤ 200
def longs (i : Nat) : List Nat := (List.range i).map fun k => 97 + k % 26
section
variable {P : Program} {w : World} {K : PySem.W.Frag} {mg : Str → Option Value} {base : Heap}
def spLawRow : Sp := fun vs H Q _ => ∃ (a : Addr) (m : Nat), vs = [.ref a, .int (m : Nat)] ∧ 1 ≤ m ∧ m ≤ 250 ∧ Src H a ∧ ∀ H' p (l : List Nat), Drawn a H H' → H p = none → H' p = some (.lst (iv l)) → OcR l → Q (.ref p) H'
end
end FL


namespace FL
open PySem PySem.Spec PyProof.Rows L2
/-! ### repr, where nothing shows itself yet: the law's own def is called from the top -/
/-- a def's promise, where no repr goes on around it -/
structure FnOkG (P : Program) (w : World) (K : PySem.W.Frag) (mg : Str → Option Value) (base : Heap) (CX : CXT) (k : Nat) (f : Addr) (fd : FuncData) (ps : List Str) (sp : Sp) : Prop where
  many : ∀ vs H Q E, sp vs H Q E → vs.length = ps.length
  goes : ∀ (A : Around) (around : List Env) (s : Shared) (H : Hp) (args : Args) (us : List Value) (vs : List V) (Q : VK) (E : XK), A.guards = some [] → Room k A → Env0 P w K mg base A around s H → BindsTo s fd args (ps.zip us) → Vals vs us → sp vs H Q E →
    codeAny (model P w) A (.call (.ref f) args) (CR CX around P w H s Q E) s
theorem okG {P : Program} {w : World} {K : PySem.W.Frag} {mg : Str → Option Value} {base : Heap} {x qual : Str} {st : Stmt} {f : Addr} {fd : FuncData} {N ps : List Str} {k : Nat} {sp : Sp} (F : Fun K x qual st f fd) (S : FnScope N ps (defScope st)) (many : ∀ vs H Q E, sp vs H Q E → vs.length = ps.length)
    (body : ∀ (cdv : Value) (A : Around) (around : List Env) (s : Shared) (H : Hp) (vs : List V) (Q : VK) (E : XK), (A.deeper (envOfC qual (defScope st) s.heap.objs.size f cdv)).guards = some [] → Room k (A.deeper (envOfC qual (defScope st) s.heap.objs.size f cdv)) → sp vs H Q E →
      ∃ t, PSs (cxOf CX0 P w K mg base N qual (defScope st) f cdv A around s H E).nox (defBody st) t ∧ t { nx := fun _ H' => Q .non H', rt := Q } (start N vs) H) : FnOkG P w K mg base CX0 (k + 1) f fd ps sp := by
  obtain ⟨oc, od, kV, doc, pm, an, cdv, ct, osl, rfl, lk, hcd⟩ := F.ex
  refine ⟨many, fun A around s H args us vs Q E hgd room e0 hb rv hsp => ?_⟩
  have hlen := many _ _ _ _ hsp
  have inK : K.In s.heap := e0.mod.kin.keeps fun b o e => (e0.bs b o e).1
  have noL : s.heap.NoLimit := e0.mod.nolimit.keeps fun b o e => (e0.bs b o e).1
  have kinds : ∀ y ∈ ps.zip us, (defScope st).names.lookup y.1 = some .local ∨ ((defScope st).names.lookup y.1 = some .cell ∧ ((cellsFrom (s.heap.objs.size + 1) (defScope st).names []).lookup y.1).isSome = true) := fun ⟨m, v⟩ hy => by
    cases S.par m (List.of_mem_zip hy).1 with
    | inl q => exact .inl q
    | inr q => exact .inr ⟨q, PySem.W.cellsFrom_some _ _ _ (.inl q)⟩
  refine codeAny_call_function room.depth (inK _ _ lk) rfl S.co S.gen rfl (PySem.W.codeRec_of inK hcd) (hb _ _ _ _ (wpAny_newFunctionEnv_cells S.kind kinds fun env he s1 ic => ?_))
  subst he
  refine ⟨noL.keeps ic.toInCall.keep, codeAny_func ?_⟩
  obtain ⟨t, h0, hq⟩ := body cdv A around s H vs Q E hgd (room.deeper _) hsp
  have ht := h0.nox
  have I : Inv (cxOf CX0 P w K mg base N qual (defScope st) f cdv A around s H E) [] (start N vs) H s1 := inv_start S room.hd e0 hlen rv ic
  refine wpAny_mono (ht.run [] s1 (start N vs) H _ I hq) (fun way s' hs => ?_) fun e s' hs => hs
  have back : ∀ {σ' : L2.St} {H' : Hp} {v : V} {u : Value}, Inv (cxOf CX0 P w K mg base N qual (defScope st) f cdv A around s H E) [] σ' H' s' → RelV v u → Q v H' → CE around P w H s Q u s' :=
    fun {σ' H' v u} J ru q => ⟨v, H', J.os, J.bare, J.base, J.hok, ru, q⟩
  cases way with
  | next =>
    obtain ⟨_, _, J, q⟩ := hs
    exact back (v := V.non) (u := Value.none) J rfl q
  | ret u =>
    obtain ⟨_, _, _, J, ru, q⟩ := hs
    exact back J ru q
  | brk =>
    obtain ⟨_, _, _, q⟩ := hs
    exact q.elim
  | cont =>
    obtain ⟨_, _, _, q⟩ := hs
    exact q.elim
section
variable {X : Cx}
/-- repr of data -/
def rRepr (K : PySem.W.Frag) : List V → Hp → VK → Prop := fun xs H Q => ∃ (p : Addr) (d : PyData), xs = [.ref p] ∧ Dp K H (.ref p) d ∧ d.showable = true ∧ d.hasDict = false ∧ d.depth ≤ 60 ∧ d.shown.length ≤ sizeLine ∧ Q (.str d.shown) H
theorem call_repr (hg : X.A.guards = some []) (hu : X.A.units + 200 < cLine) : CallR X (.builtin "repr") (rRepr X.K) := by
  intro pins s σ H xs us Q I r h
  obtain ⟨p, d, rfl, hd, hs, hn, hdp, hz, q⟩ := h
  cases r with
  | cons r1 r2 =>
    cases r2
    cases r1
    obtain ⟨as, rd⟩ := Dp.reads I d (.ref p) (.ref p) hd rfl
    refine repr_of_reads' rd hs (PyData.noDict_hsm hn) hg (by omega) (fun _ _ e => e) (fun h' u tk hk => ?_) hz
    exact ⟨.str d.shown, H, I.kept (t' := tk) hk, ⟨u, rfl⟩, q⟩
end
section
open PySem.W
/-- the law's own call, its def's promise for the top alone -/
theorem law_callG {P : Program} {w : World} {K : PySem.W.Frag} {mg mb : Str → Option Value} {CX : CXT} {k : Nat} {fa a : Addr} {fd : FuncData} {x : Str} {sp : Sp} {s₁ : Shared} {vs : List Value} {ns : List Int}
    (inK : K.In s₁.heap) (hns : s₁.heap.Ns mainGlobals mg) (hb : s₁.heap.Ns builtinsNs mb) (hbb : ∀ x : Str, x ≠ "__name__" → mb x = bootBuiltins x) (noL : s₁.heap.NoLimit) (hg : s₁.gens = #[])
    (ha : s₁.heap.get? a = some { cls := .type "list", data := .seq vs.toArray }) (hi : IntsAre vs ns) (hl : ns.length ≤ sizeLine) (room : Room k callerA)
    (F : ∀ base : Heap, K.In base → base.Ns mainGlobals mg → FnOkG P w K mg base CX k fa fd [x] sp) (hbind : ∀ (s : Shared) (u : Value), BindsTo s fd ⟨[u], []⟩ [(x, u)])
    (hsp : ∀ H : Hp, Only H → SqL K H a (ns.map V.int) → sp [.ref a] H (fun v _ => v = .bl true) fun _ _ _ => False)
    (hCX : ∀ H e s', CX [] H s₁ (fun _ _ _ => False) e s' → False) :
    codeAny (model P w) callerA (.call (.ref fa) ⟨[.ref a], []⟩) (fun r s' => r = .ok (.ret (.bool true)) ∧ OldK s₁.heap s'.heap ∧ s'.os = s₁.os ∧ AllBare s'.gens) s₁ := by
  have intV := vals_ints hi
  have sz := hi.length
  have key : ∀ G : Hp, Only G → SqL K G a (ns.map V.int) → HOk P w G s₁.heap → (∀ b, G b ≠ none → b = a) → (G a ≠ none → K.lookup a = none) →
      codeAny (model P w) callerA (.call (.ref fa) ⟨[.ref a], []⟩) (fun r s' => r = .ok (.ret (.bool true)) ∧ OldK s₁.heap s'.heap ∧ s'.os = s₁.os ∧ AllBare s'.gens) s₁ := fun G only told hok alone notK => by
    have base_of : ∀ {b : Addr} {o : Obj}, s₁.heap.get? b = some o → G b = none → (hidT s₁.heap G).get? b = some o := fun e n => hidT_get e n
    have none_of : ∀ {b : Addr} {o : Obj}, s₁.heap.get? b = some o → (b = a → False) → G b = none := fun {b o} e hne => by
      cases q : G b with
      | none => rfl
      | some u => exact (hne (alone b (by rw [q]; simp))).elim
    have nsOf : ∀ {b : Addr} {m : Str → Option Value}, s₁.heap.Ns b m → (hidT s₁.heap G).Ns b m := fun {b m} ⟨o, es, ep, e, d, r⟩ => ⟨o, es, ep, base_of e (none_of e fun z => by
      subst z
      rw [ha] at e
      cases e
      have bad : Data.seq vs.toArray _ = Data.dict es ep := d
      cases bad), d, r⟩
    have inB : K.In (hidT s₁.heap G) := fun b o e => base_of (inK b o e) (by
      cases q : G b with
      | none => rfl
      | some u =>
        have z := alone b (by rw [q]; simp)
        subst z
        rw [notK (by rw [q]; simp)] at e
        cases e)
    have hM : Mod K mg (hidT s₁.heap G) := ⟨inB, nsOf hns, ⟨mb, nsOf hb, hbb⟩, let ⟨mc, h1, h2⟩ := noL; ⟨mc, nsOf h1, h2⟩⟩
    have e0 : Env0 P w K mg (hidT s₁.heap G) callerA [] s₁ G := ⟨rfl, hM, fun b o e => of_hidT e, Nat.le_of_eq (hidT_size _ _), trivial, fun b hb => (by cases hb), hok, .of_eq hg⟩
    refine codeAny_mono ((F _ inB (nsOf hns)).goes callerA [] s₁ G ⟨[.ref a], []⟩ [.ref a] [.ref a] _ _ rfl room e0 (hbind s₁ (.ref a)) (.cons rfl .nil) (hsp G only told)) fun r s' h => ?_
    cases r with
    | error e => exact (hCX G e s' h).elim
    | ok way =>
      cases way with
      | brk => exact False.elim h
      | cont => exact False.elim h
      | next => exact False.elim h
      | ret u =>
        obtain ⟨v, H', os, bare, un, hok', r', rfl⟩ := h
        obtain rfl : u = Value.bool true := r'
        refine ⟨rfl, OldK.of_keep fun b o e => ?_, os, bare⟩
        cases q : G b with
        | none => exact un.keep b o e q (fun z => by cases z) (by simp)
        | some u =>
          rcases only b with z | ⟨ob, xs, z⟩
          · rw [q] at z
            cases z
          · obtain ⟨e1, _⟩ := hok b _ z
            obtain ⟨e2, _⟩ := hok' b _ (un.frzs b ob _ z)
            rw [e] at e1
            cases e1
            exact e2
  cases hk : K.lookup a with
  | some o =>
    have e := inK a o hk
    rw [ha] at e
    cases e
    exact key (fun _ => none) (fun _ => .inl rfl) (.inr ⟨_, vs.toArray, _, hk, rfl, rfl, rfl, by rw [List.size_toArray, sz]; exact hl, by simpa using intV⟩) (fun b u z => by cases (show (none : Option HO) = some u from z)) (fun b z => absurd rfl z) fun z => absurd rfl z
  | none =>
    refine key (fun b => if b = a then some (.frz { cls := .type "list", data := .seq vs.toArray } (.lst (ns.map V.int))) else none) (fun b => ?_) (.inl (.inr ⟨{ cls := .type "list", data := .seq vs.toArray }, if_pos rfl⟩)) (fun b u z => ?_) (fun b z => Classical.byContradiction fun n => z (if_neg n)) fun _ => hk
    · by_cases hb : b = a
      · exact .inr ⟨_, _, if_pos hb⟩
      · exact .inl (if_neg hb)
    · by_cases hb : b = a
      · subst hb
        cases (if_pos rfl).symm.trans z
        exact ⟨ha, by rw [List.length_map]; exact hl, vs, _, intV, ha⟩
      · cases (if_neg hb).symm.trans z
theorem walk_ofG {l : PySem.W.OpenLaw} {n k : Nat} {q : Program} {loose : List Str} {XP : (Str → Option Value) → Heap → Prop} {YP : World → Heap → Prop} {d : DefRec} {K : Params → PySem.W.Frag} {CX : World → CXT} {sp : World → Sp} {x : Str}
    (hn : l.most = some n) (hn2 : n ≤ sizeLine) (hdf : d.params.defaults = []) (room : Room k callerA)
    (hY : ∀ (w : World) (h : Heap), YP w h → (K w.params).In h)
    (F : ∀ (w : World) (mg : Str → Option Value) (fa : Addr) (h : Heap), (K w.params).In h → h.Ns mainGlobals mg → mg d.name = some (.ref fa) →
      ∃ fd : FuncData, (∀ (s : Shared) (u : Value), BindsTo s fd ⟨[u], []⟩ [(x, u)]) ∧
        ∀ base : Heap, (K w.params).In base → base.Ns mainGlobals mg → FnOkG l.prog w (K w.params) mg base (CX w) k fa fd [x] (sp w))
    (hsp : ∀ (w : World) (H : Hp) (a : Addr) (ns : List Int), ns.length ≤ n → Only H → SqL (K w.params) H a (ns.map V.int) → sp w [.ref a] H (fun v _ => v = .bl true) fun _ _ _ => False)
    (hCX : ∀ (w : World) (H : Hp) (s : Shared) (e : Value) (s' : Shared), CX w [] H s (fun _ _ _ => False) e s' → False) :
    PySem.W.WalkO q loose XP YP l.row.toRowW d [] (fun f vs => PySem.call f vs) := by
  refine Att.attach_call hn hdf fun w s₀ s₁ mg mb fa o pm cd doc a vs ns G Y h0 h1 h2 hmg hobj hints hlen hg => ?_
  obtain ⟨fd, bd, good⟩ := F w mg fa _ (hY w _ Y) G.T.g hmg
  exact law_callG (hY w _ Y) G.T.g G.T.b G.T.builtins G.T.nolimit hg hobj hints (Nat.le_trans hlen hn2) room good bd (fun H ho hs => hsp w H a ns hlen ho hs) fun H e s' => hCX w H s₁ e s'
end
end FL

namespace FL
open PySem PySem.Spec PyProof.Rows L2
/-! ### {e for x in xs}, e a text or a whole number -/
/-- nothing in it yet -/
def SetK0 (P : Program) (w : World) (D : Addr) : HO := SetK P w D (fun _ => false) 0
/-- one more in it -/
def SetK1 (P : Program) (w : World) (D : Addr) (S : Key → Bool) (n : Nat) (k : Key) : HO := SetK P w D (fun j => S j || decide (j = k)) (if S k = true then n else n + 1)
def tScK (P : Program) (w : World) (wi : TI) (g : TG) (tt : TT) (te : TE) (vs : List Nat) : TE := fun σ H Q => wi σ H fun J H1 => ∀ D, H1 D = none → ∃ W : Nat → Nat → Hp → Prop, (∃ m, W 0 m (upd H1 D (SetK0 P w D))) ∧ ∀ i m H, W i m H →
  (J.stop i H ∧ Q (.ref D) H) ∨ (J.go i H ∧ ∃ M : Hp → Prop, (∀ H', M H' → ∃ m', m' < m ∧ W (i + 1) m' H') ∧ ∀ x H', J.yld i H x H' → g x (wipe σ vs) H' fun σ2 H2 => wipe σ2 vs = wipe σ vs ∧ tt σ2 H2 fun b H3 =>
    if b = true then te σ2 H3 fun y H4 => ∃ (k : Key) (S : Key → Bool) (n : Nat), y = kV k ∧ H4 D = some (SetK P w D S n) ∧ n + 1 < scanBound ∧ M (upd H4 D (SetK1 P w D S n k)) else M H3)
section
variable {X : Cx}
theorem pe_scK {elt tg iter : Expr} {ifs : List Expr} {scope : Scope} {own : List (PySem.Str × Nat)} {pos : Pos} {wi : TI} {g : TG} {tt : TT} {te : TE} (hc : X.calm = true) (hN : X.N.Nodup) (hi : PI X tg iter wi) (ok : BlkOk X.N X.env.scope scope own)
    (hg : ∀ (s : Shared) (H : Hp) (C : Addr) (cl : List (PySem.Str × Addr)) (fp : List Addr), PG (X.blk s H scope (compEnvC scope cl C X.env) fp) tg g) (ht : ∀ (s : Shared) (H : Hp) (C : Addr) (cl : List (PySem.Str × Addr)) (fp : List Addr), PTs (X.blk s H scope (compEnvC scope cl C X.env) fp) ifs tt)
    (he : ∀ (s : Shared) (H : Hp) (C : Addr) (cl : List (PySem.Str × Addr)) (fp : List Addr), PE (X.blk s H scope (compEnvC scope cl C X.env) fp) elt te) (fold : ∀ x, foldedSetIterable iter X.env x = pure x := by intro _; rfl) :
    PE X (.SetComp elt [⟨tg, iter, ifs, 0⟩] scope pos) (tScK X.prog X.w wi g tt te (own.map (·.2))) := by
  refine ⟨fun pins s σ H Q I h => ?_⟩
  rw [PpSet.eval_SetComp]
  have cells : ∀ y ∈ scope.names, y.2 = .free → ∃ c, X.env.cells.lookup y.1 = some c := fun y hy e => (ok.free y hy e).elim (fun k => I.ok.has _ (.inl k)) fun k => I.ok.has _ (.inr k)
  refine wpAny_comprehension_free rfl fold (closure_ok cells) ok.kind (fun y hy e => by rw [ok.uniq y hy, e])
    (thn (hi.run pins s σ H _ I h) fun xv s1 hx => thn hx fun itv s2 h2 => ?_)
  obtain ⟨it, fp, tn, J, H2, e, I2, T, st2, f2, q⟩ := h2
  subst e
  refine PpSet.newSet_ok (newEnv_comp ?_)
  generalize hD : s2.heap.objs.size = D
  have fresh : H2 D = none := I2.hok.fresh (Nat.le_of_eq hD)
  obtain ⟨W, ⟨m0, w0⟩, turn⟩ := q D fresh
  generalize hs3 : ({ s2 with heap := s2.heap.push { cls := .type "set", dict := none, data := .set #[] 0 (.fresh 0 0 (!X.w.params.followText "set-order")) } } : Shared) = s3
  have I3 : Inv X pins σ (upd H2 D (SetK0 X.prog X.w D)) s3 := by
    rw [← hs3]
    refine I2.laid (t' := s2.toks) (fun b o e => Heap.get?_push_of_some _ e) (Nat.le_of_eq hD) ?_
    rw [← hD]
    exact setK_new ⟨_, #[], 0, _, Heap.get?_push_size _ rfl, ⟨rfl, rfl, rfl⟩, rfl, (fun e he => by simp at he), (fun k => by simp), (by decide), (by rfl), rfl⟩
  have grown : s3.heap = s2.heap.push { cls := .type "set", dict := none, data := .set #[] 0 (.fresh 0 0 (!X.w.params.followText "set-order")) } := by rw [← hs3]
  have below : ∀ b ∈ fp, b < s2.heap.objs.size := fun b hb => let ⟨_, e, _⟩ := T.obj _ _ st2 b hb; Heap.lt_size e
  have f3 : ∀ b ∈ fp, FpOk X pins (upd H2 D (SetK0 X.prog X.w D)) b ∧ b < s3.heap.objs.size := fun b hb => by
    have lt := below b hb
    refine ⟨⟨?_, (f2 b hb).2⟩, by rw [grown, Heap.size_push]; exact Nat.lt_succ_of_lt lt⟩
    rw [upd_ne (by rw [← hD]; exact Nat.ne_of_lt lt)]
    exact (f2 b hb).1
  have st3 : tn 0 s3.heap := T.keep _ _ _ st2 fun b _ o e => by
    rw [grown]
    exact Heap.get?_push_of_some _ e
  have I4 := block_start I3 ok hN f3
  generalize hcl : cellsFrom (s3.heap.objs.size + 1) scope.names (cloFrom X.env.cells scope.names []) = cl at I4
  have pg := hg s3 (upd H2 D (SetK0 X.prog X.w D)) s3.heap.objs.size cl fp
  have pt := ht s3 (upd H2 D (SetK0 X.prog X.w D)) s3.heap.objs.size cl fp
  have pe := he s3 (upd H2 D (SetK0 X.prog X.w D)) s3.heap.objs.size cl fp
  have none3 : ∀ b ∈ fp, (upd H2 D (SetK0 X.prog X.w D)) b = none := fun b hb => (f3 b hb).1.1
  generalize hce : compEnvC scope cl s3.heap.objs.size X.env = ce at I4 pg pt pe
  have at_ : ce.locals = s3.heap.objs.size := by
    subst hce
    rfl
  generalize hH3 : upd H2 D (SetK0 X.prog X.w D) = H3 at I3 I4 pg pt pe w0 none3 f3
  generalize hs4 : ({ s3 with heap := pushCells (s3.heap.push { cls := .type "dict", data := .dict #[] }) scope.names } : Shared) = s4 at I4
  have st4 : tn 0 s4.heap := T.keep _ _ _ st3 fun b _ o e => by
    rw [← hs4]
    exact pushCells_keeps _ _ _ _ (Heap.get?_push_of_some _ e)
  have stat : ∀ {σ' : L2.St} {H' : Hp} {s' : Shared}, Inv (X.blk s3 H3 scope ce fp) [] σ' H' s' → (∀ b ∈ fp, H' b = none) → ∀ b ∈ fp, FpOk (X.blk s3 H3 scope ce fp) [] H' b := fun {σ' H' s'} J' no b hb =>
    ⟨no b hb, (J'.ok.exf b hb).1, J'.ok.exfs b hb, .inl hb, fun x c e => (J'.ok.exf b hb).2 x c e, fun p hp => (by cases (show p ∈ ([] : List (Addr × Obj)) from by simpa using hp))⟩
  have loop : codeAny (model X.prog X.w) X.A (.compLoop (.SetComp elt [⟨tg, iter, ifs, 0⟩] scope pos) 0 (.ref it) (.ref D) ce) (compPost (model X.prog X.w) X.A X.xe none (EP X pins σ Q) (.ref D) s3.heap.objs.size) s4 := by
    refine PpSet.compLoopS_any (fun n s' => ∃ i H', Inv (X.blk s3 H3 scope ce fp) [] (wipe σ (own.map (·.2))) H' s' ∧ tn i s'.heap ∧ (∀ b ∈ fp, H' b = none) ∧ W i n H') ?_ m0 ⟨0, H3, I4, st4, none3, w0⟩
    rintro n s5 ⟨i, H5, I5, st5, n5, w5⟩
    rcases turn i n H5 w5 with ⟨stop, done⟩ | ⟨go, M, hM, step⟩
    · refine thnF (T.done (X.blk s3 H3 scope ce fp) rfl rfl rfl hc i [] s5 _ H5 (fun _ _ => False) I5 (stat I5 n5) st5 stop) fun r s6 ⟨hr, I6⟩ => ?_
      subst hr
      have I7 : Inv X pins σ H5 s6 := I3.call' (ch := fp) I6.os I6.base I6.hok I6.bare fun b hb => ⟨(f3 b hb).1.2.2.2.1, (f3 b hb).1.2.1, (f3 b hb).1.2.2.2.2.1, (f3 b hb).1.2.2.2.2.2⟩
      have nC : H5 s3.heap.objs.size = none := at_ ▸ I6.free
      obtain ⟨m, hn, _⟩ := I6.loc
      have hn : s6.heap.Ns s3.heap.objs.size m := at_ ▸ hn
      refine ⟨m, hn, fun h'' sb => ?_⟩
      obtain ⟨f0, f1, f2, f3, f4, f5⟩ := I3.fpOk (Nat.le_refl _) nC
      exact ⟨.ref D, H5, I7.turned (t' := s6.toks) (fun b o hb e => (sb.2 b hb).trans e) f0 f1 f3 f4 f5, rfl, done⟩
    · refine thnF (T.item (X.blk s3 H3 scope ce fp) rfl rfl rfl hc i [] s5 _ H5 (fun _ _ => False) I5 (stat I5 n5) st5 go) fun r s6 ⟨u, hr, h6⟩ => ?_
      subst hr
      refine thnF h6 fun _ s7 ⟨x, H7, I7, r7, y7, st7, n7⟩ => ?_
      have I7' := I7.pinned (stat I7 n7) (T.obj _ _ st7)
      refine thnF (pg.run _ s7 _ H7 x u _ I7' r7 (step x H7 y7)) fun _ s8 ⟨σ8, H8, I8, hw8, q8⟩ => ?_
      refine thnF (pt.run _ s8 σ8 H8 _ I8 q8) fun b s9 ⟨H9, I9, q9⟩ => ?_
      have next : ∀ {s' : Shared} {H' : Hp}, Inv (X.blk s3 H3 scope ce fp) ([] ++ pinsAt fp s7.heap) σ8 H' s' → M H' → ∃ m, m < n ∧ ∃ i H', Inv (X.blk s3 H3 scope ce fp) [] (wipe σ (own.map (·.2))) H' s' ∧ tn i s'.heap ∧ (∀ b ∈ fp, H' b = none) ∧ W i m H' := fun {s' H'} J' nx => by
        obtain ⟨m', lt, w'⟩ := hM H' nx
        have pin : ∀ b ∈ fp, ∀ o, s7.heap.get? b = some o → s'.heap.get? b = some o ∧ H' b = none := fun b hb o e =>
          let z := J'.pin (b, o) (List.mem_append_right _ (List.mem_append_right _ (mem_pinsAt hb e)))
          ⟨z.1, z.2.1⟩
        refine ⟨m', lt, i + 1, H', (J'.unpinned (pins := [])).weak (by rw [← hw8, wipe_length]) (fun j v e => ?_), T.keep _ _ _ st7 fun b hb o e => (pin b hb o e).1, fun b hb => ?_, w'⟩
        · rw [← hw8] at e
          exact (wipe_some e).1
        · obtain ⟨o, e, _⟩ := T.obj _ _ st7 b hb
          exact (pin b hb o e).2
      cases b with
      | false =>
        simp only [Bool.false_eq_true, if_false] at q9 ⊢
        exact next I9 q9
      | true =>
        simp only [if_true] at q9 ⊢
        refine thnF (pe.run _ s9 σ8 H9 _ I9 q9) fun z s10 ⟨yv, H10, I10, r10, k, S, n0, ey, hD10, room, nx⟩ => ?_
        subst ey
        exact thnF (mt_saddK (X := X.blk s3 H3 scope ce fp) _ s10 σ8 H10 (.ref D) [kV k] (.ref D) [z] (fun _ H' => M H') I10 rfl (.cons r10 .nil) ⟨D, k, S, n0, rfl, rfl, hD10, room, nx⟩) fun _ s11 ⟨_, H11, I11, _, nx⟩ => next I11 nx
  show codeAny _ _ (.compStart (.SetComp elt [⟨tg, iter, ifs, 0⟩] scope pos) 0 (.ref it) (.ref D) (compEnvC scope cl s3.heap.objs.size X.env)) (compPost (model X.prog X.w) X.A X.xe none (EP X pins σ Q) (.ref D) s3.heap.objs.size) s4
  rw [hce]
  exact PpSet.codeAny_compStart_set loop (T.self X.A 0 _ _ _ st4 loop)
/-- how many are in it -/
def rLenK (P : Program) (w : World) : List V → Hp → VK → Prop := fun xs H Q => ∃ (D : Addr) (S : Key → Bool) (n : Nat), xs = [.ref D] ∧ H D = some (SetK P w D S n) ∧ n ≤ 10000 ∧ Q (.int (n : Nat)) H
theorem call_lenK : CallR X (.builtin "len") (rLenK X.prog X.w) := by
  intro pins s σ H xs us Q I r h
  obtain ⟨D, S, n, rfl, hD, hn, q⟩ := h
  cases r with
  | cons r1 r2 =>
    cases r2
    cases r1
    obtain ⟨o, es, ep, t, ho, hex, hd, _, _, _, hf, hsz⟩ := setK_get I hD
    exact call_len_set ho hex hd hf (by rw [hsz]; omega) ⟨.int (n : Nat), H, I.tok _, ⟨_, by rw [hsz]⟩, q⟩
end
/-- over what is walked -/
theorem sc_itK {P : Program} {w : World} {J : It} {n : Nat} {G : Hp → Prop} {Y : Nat → Hp → V → Hp → Prop} (wk : Walk J n G Y) {g : TG} {tt : TT} {te : TE} {vs : List Nat} {σ : L2.St} {H1 : Hp} {D : Addr} {Qd : Hp → Prop} (Pv : Nat → Hp → Prop) (h0 : Pv 0 (upd H1 D (SetK0 P w D))) (hG : ∀ i H, i ≤ n → Pv i H → G H)
    (turn : ∀ i x H H', i < n → Pv i H → Y i H x H' → g x (wipe σ vs) H' fun σ2 H2 => wipe σ2 vs = wipe σ vs ∧ tt σ2 H2 fun b H3 =>
      if b = true then te σ2 H3 fun y H4 => ∃ (k : Key) (S : Key → Bool) (m : Nat), y = kV k ∧ H4 D = some (SetK P w D S m) ∧ m + 1 < scanBound ∧ Pv (i + 1) (upd H4 D (SetK1 P w D S m k)) else Pv (i + 1) H3) (done : ∀ H, Pv n H → Qd H) :
    ∃ W : Nat → Nat → Hp → Prop, (∃ m, W 0 m (upd H1 D (SetK0 P w D))) ∧ ∀ i m H, W i m H →
      (J.stop i H ∧ Qd H) ∨ (J.go i H ∧ ∃ M : Hp → Prop, (∀ H', M H' → ∃ m', m' < m ∧ W (i + 1) m' H') ∧ ∀ x H', J.yld i H x H' → g x (wipe σ vs) H' fun σ2 H2 => wipe σ2 vs = wipe σ vs ∧ tt σ2 H2 fun b H3 =>
        if b = true then te σ2 H3 fun y H4 => ∃ (k : Key) (S : Key → Bool) (m : Nat), y = kV k ∧ H4 D = some (SetK P w D S m) ∧ m + 1 < scanBound ∧ M (upd H4 D (SetK1 P w D S m k)) else M H3) := by
  refine ⟨fun i m H => m = n - i ∧ i ≤ n ∧ Pv i H, ⟨n, by simp, Nat.zero_le _, h0⟩, fun i m H z => ?_⟩
  obtain ⟨rfl, hi, p⟩ := z
  have ok := hG i H hi p
  by_cases lt : i < n
  · exact .inr ⟨wk.goes i H lt ok, Pv (i + 1), fun H' p' => ⟨n - (i + 1), by omega, rfl, lt, p'⟩, fun x H' y => turn i x H H' lt p (wk.yields i H x H' lt ok y)⟩
  · have e : i = n := by omega
    subst e
    exact .inl ⟨wk.stops H ok, done H p⟩
end FL

namespace FL
open PySem PySem.Spec PyProof.Rows L2
/-! ### how long a repr is -/
theorem from_len {n : Nat} : ∀ (ts : List Str) (k : Nat) (acc : Str), (∀ t ∈ ts, t.length ≤ n) → (textFrom k acc ts).length ≤ acc.length + (n + 2) * ts.length
  | [], _, acc, _ => by
    show acc.length ≤ _
    omega
  | t :: r, k, acc, h => by
    have ih := from_len r (k + 1) (acc ++ (if k > 0 then ", " else "" : String) ++ t) fun x hx => h x (List.mem_cons_of_mem _ hx)
    have ht := h t (List.mem_cons_self ..)
    have e1 : ((if k > 0 then ", " else "" : String) : Str).length ≤ 2 := by
      split <;> decide +kernel
    rw [len_append, len_append] at ih
    show (textFrom (k + 1) (acc ++ (if k > 0 then ", " else "" : String) ++ t) r).length ≤ _
    rw [List.length_cons, Nat.mul_succ]
    omega
theorem list_len {n : Nat} {ts : List Str} (h : ∀ t ∈ ts, t.length ≤ n) : (listText ts).length ≤ (n + 2) * ts.length + 2 := by
  unfold listText
  rw [len_append]
  have := from_len ts 0 "[" h
  have e1 : ("[" : Str).length = 1 := rfl
  have e2 : ("]" : Str).length = 1 := rfl
  omega
theorem piled_len {n : Nat} : ∀ {ts : List Str}, (∀ t ∈ ts, t.length ≤ n) → piled ts ≤ (n + 2) * ts.length
  | [], _ => Nat.zero_le _
  | t :: r, h => by
    have ih := piled_len (ts := r) fun x hx => h x (List.mem_cons_of_mem _ hx)
    have ht := h t (List.mem_cons_self ..)
    have e : piled (t :: r) = t.length + 2 + piled r := by simp [piled]
    rw [e, List.length_cons, Nat.mul_succ]
    omega
theorem tuple_len {n : Nat} {ts : List Str} (h : ∀ t ∈ ts, t.length ≤ n) : (tupleText ts).length ≤ (n + 2) * ts.length + 2 := Nat.le_trans (fmt_text ts) (Nat.add_le_add_right (piled_len h) 2)
theorem shownAll_len {n : Nat} : ∀ {ds : List PyData}, (∀ d ∈ ds, d.shown.length ≤ n) → (PyData.shownAll ds).length = ds.length ∧ ∀ t ∈ PyData.shownAll ds, t.length ≤ n
  | [], _ => by
    rw [PyData.shownAll]
    exact ⟨rfl, fun t h => by cases h⟩
  | d :: r, h => by
    obtain ⟨h1, h2⟩ := shownAll_len (ds := r) fun x hx => h x (List.mem_cons_of_mem _ hx)
    rw [PyData.shownAll]
    refine ⟨by rw [List.length_cons, h1, List.length_cons], fun t ht => ?_⟩
    rcases List.mem_cons.mp ht with rfl | ht
    · exact h d (List.mem_cons_self ..)
    · exact h2 t ht
theorem shown_list {n : Nat} {ds : List PyData} (h : ∀ d ∈ ds, d.shown.length ≤ n) : (PyData.list ds).shown.length ≤ (n + 2) * ds.length + 2 := by
  obtain ⟨h1, h2⟩ := shownAll_len h
  rw [PyData.shown, ← h1]
  exact list_len h2
theorem shown_tuple {n : Nat} {ds : List PyData} (h : ∀ d ∈ ds, d.shown.length ≤ n) : (PyData.tuple ds).shown.length ≤ (n + 2) * ds.length + 2 := by
  obtain ⟨h1, h2⟩ := shownAll_len h
  rw [PyData.shown, ← h1]
  exact tuple_len h2
theorem shown_str {z : Str} (h : ∀ c ∈ z.cps.toList, c < 128) : (PyData.str z).shown.length ≤ 10 * z.length + 2 := by
  rw [PyData.shown]
  exact StrLaws.reprText_len z fun c hc => Nat.lt_trans (h c hc) (by decide)
theorem showable_all {ds : List PyData} (h : ∀ d ∈ ds, d.showable = true) : PyData.showableAll ds = true := by
  induction ds with
  | nil => rw [PyData.showableAll]
  | cons d r ih =>
    rw [PyData.showableAll, h d (List.mem_cons_self ..), ih fun x hx => h x (List.mem_cons_of_mem _ hx)]
    rfl
theorem noDict_all {ds : List PyData} (h : ∀ d ∈ ds, d.hasDict = false) : PyData.hasDictAll ds = false := by
  induction ds with
  | nil => rw [PyData.hasDictAll]
  | cons d r ih =>
    rw [PyData.hasDictAll, h d (List.mem_cons_self ..), ih fun x hx => h x (List.mem_cons_of_mem _ hx)]
    rfl
end FL

namespace FL
open PySem PySem.Spec PyProof.Rows L2
/-! ### kinds: words, pairs -/
def isSml (c : Nat) : Bool := decide (97 ≤ c ∧ c ≤ 122)
def wdSign (o : List Nat) (c : Nat) : Bool := isSml c || (isFig c || decide (c ∈ o))
def isWd (o l : List Nat) : Bool := isLn l && (decide (1 ≤ l.length ∧ l.length ≤ 20) && (isSml (l.headD 0) && l.all (wdSign o)))
section
variable {P : Program} {w : World} {K : PySem.W.Frag} {mg : Str → Option Value} {base : Heap}
theorem scIsSmallLetter : FnScope ["sign"] ["sign"] (defScope sIsSmallLetter) := ⟨rfl, rfl, rfl, by decide +kernel, rfl, by decide +kernel, by decide +kernel⟩
theorem r_is_small (A : FnAt K mg "is_small_letter" sIsSmallLetter) : Ready P w K mg base 1 "is_small_letter" ["sign"] (spSign isSml) := by
  refine ready_of A (fun _ _ _ _ _ _ us hl => match us, hl with | [_], _ => rfl) fun f fd F => ?_
  refine F.ok scIsSmallLetter (fun vs H Q E h => ?_) (fun cdv A outer s H vs Q E hr h => ?_)
  · obtain ⟨c, rfl, _⟩ := h
    rfl
  · obtain ⟨c, rfl, q⟩ := h
    exact ⟨_, pss_one (ps_ret (pe_btw (lo := 97) (hi := 122) 0 rfl rfl (pv 0))), c, rfl, q⟩
/-- of a text, whether it is a word with such signs; of what is none, False -/
def spWordP (K : PySem.W.Frag) : Sp := fun vs H Q _ => ∃ (v : V) (o : Str), vs = [v, .str o] ∧
  ((∃ z : Str, v = .str z ∧ z.length ≤ 10000 ∧ ∀ H', Same H H' → Q (.bl (isWd o.cps.toList z.cps.toList)) H') ∨ (∃ t, TyX K H v t ∧ PySem.W.kitOne K t (.type "str") = some false ∧ Q (.bl false) H))
theorem scIsWord : FnScope ["value", "others", "sign"] ["value", "others"] (defScope sIsWord) := ⟨rfl, rfl, rfl, by decide +kernel, rfl, by decide +kernel, by decide +kernel⟩
theorem r_is_word (A : FnAt K mg "_is_word" sIsWord) (R1 : Ready P w K mg base 1 "is_small_letter" ["sign"] (spSign isSml)) (R2 : Ready P w K mg base 3 "is_line" ["value"] (spLine K isLn)) (R3 : Ready P w K mg base 1 "is_figure" ["sign"] (spSign isFig))
    (m_len : mg "len" = none) (m_all : mg "all" = none) {tW : Tok} (m_WORD_SIZE : mg "WORD_SIZE" = some (.int 20 tW)) : Ready P w K mg base 4 "_is_word" ["value", "others"] (spWordP K) := by
  obtain ⟨f1, fd1, g1, k1, b1, G1⟩ := R1
  obtain ⟨f2, fd2, g2, k2, b2, G2⟩ := R2
  obtain ⟨f3, fd3, g3, k3, b3, G3⟩ := R3
  refine ready_of A (fun _ _ _ _ _ _ us hl => match us, hl with | [_, _], _ => rfl) fun f fd F => ?_
  refine F.ok scIsWord (fun vs H Q E h => ?_) (fun cdv A outer s H vs Q E hr h => ?_)
  · obtain ⟨v, o, rfl, _⟩ := h
    rfl
  · obtain ⟨v, o, rfl, q⟩ := h
    have sc := scIsWord
    refine ⟨_, pss_cons (ps_if (PW.pt (pw_or (pt_not (pt_val (pe_call G2 (hr.mono (by decide)) (by rfl) g2 k2 b2 .nil pass0 (pa_cons (pv 0) pa_nil)))) (pw_or (pt_not (pt_chain op_le op_le pe_int (pe_callB call_len_str (by rfl) m_len PySem.boot_len (pa_cons (pv 0) pa_nil)) (pe_glob (v := .int 20) rfl m_WORD_SIZE ⟨_, rfl⟩) (by with_unfolding_all rfl))) (pw_or1 (pt_not (pt_val (pe_call G1 (hr.mono (by decide)) (by rfl) g1 k1 b1 .nil pass0 (pa_cons (pe_item_str (pv 0) pe_int (fun _ _ => rfl)) pa_nil))))))))
        (pss_one (ps_ret pe_bl))
        pss_nil)
      (pss_one (ps_ret (pe_callB (cr_all rfl) (by rfl) m_all (by decide +kernel) (pa_cons (pe_lc (own := [("sign", 2)]) (g := gName 2) (tt := tYes) (te := (tOrV (tCall _ [] _ (tCons (tVar 2) tNil)) (tOrV (tCall _ [] _ (tCons (tVar 2) tNil)) (tOp _ (tVar 2) (tVar 1))))) (by rfl) sc.nd (pi_str (pv 0)) (blkOk_by (own := [("sign", 2)]) (N := ["value", "others", "sign"]) (sc := defScope sIsWord) (by decide +kernel)) (fun _ _ _ _ _ => (pg_name (i := 2) sc.nd rfl (.inl rfl))) (fun _ _ _ _ _ => pts_nil) (fun _ _ _ _ _ => (pe_or (pe_call G1 (hr.mono (by decide)) (by rfl) g1 k1 b1 .nil pass0 (pa_cons (pv 2) pa_nil)) (pe_or (pe_call G3 (hr.mono (by decide)) (by rfl) g3 k3 b3 .nil pass0 (pa_cons (pv 2) pa_nil)) (pe_one (pe_cmpR op_in_sign (pv 2) (pv 1) (by rfl))))))) pa_nil)))), ?_⟩
    rcases q with ⟨z, rfl, hz, q⟩ | ⟨t, ht, hk, q⟩
    case' inr => exact ⟨_, rfl, v, rfl, .inr ⟨t, ht, hk, _, rfl, iteT (iteT q)⟩⟩
    have hzl : z.length ≤ sizeLine := Nat.le_of_lt (szl hz)
    have hlz := len_cps z
    refine ⟨_, rfl, _, rfl, .inl ⟨z, rfl, hz, fun H0 s0 => ⟨_, rfl, ?_⟩⟩⟩
    have qAll := q
    have q := q H0 s0
    unfold isWd at q
    cases h1 : isLn z.cps.toList with
    | false =>
      rw [h1] at q
      exact iteT (iteT q)
    | true =>
      rw [h1] at q
      refine iteF ?_
      refine ⟨_, rfl, z, rfl, hzl, _, _, rfl, rfl, _, rfl, ?_⟩
      by_cases hl1 : 1 ≤ z.length
      case' neg =>
        rw [decide_eq_false (by omega : ¬ (1 : Int) ≤ (z.length : Int))]
        rw [decide_eq_false (by omega : ¬ (1 ≤ z.cps.toList.length ∧ z.cps.toList.length ≤ 20))] at q
        exact iteF ⟨_, rfl, iteT (iteT q)⟩
      rw [decide_eq_true (by omega : (1 : Int) ≤ (z.length : Int))]
      refine iteT ⟨_, _, rfl, rfl, _, rfl, ?_⟩
      by_cases hl2 : z.length ≤ 20
      case' neg =>
        rw [decide_eq_false (by omega : ¬ ((z.length : Nat) : Int) ≤ 20)]
        rw [decide_eq_false (by omega : ¬ (1 ≤ z.cps.toList.length ∧ z.cps.toList.length ≤ 20))] at q
        exact iteT (iteT q)
      rw [decide_eq_true (by omega : ((z.length : Nat) : Int) ≤ 20)]
      rw [decide_eq_true (by omega : 1 ≤ z.cps.toList.length ∧ z.cps.toList.length ≤ 20)] at q
      obtain ⟨c, hc⟩ : ∃ c, z.cps[0]? = some c := ⟨_, Array.getElem?_eq_getElem (show 0 < z.cps.size from hl1)⟩
      have hhd : z.cps.toList.headD 0 = c := by
        have := cps_at hc
        cases hz0 : z.cps.toList with
        | nil =>
          rw [hz0] at this
          cases this
        | cons a r =>
          rw [hz0] at this
          exact Option.some.inj this
      rw [hhd] at q
      refine iteF ⟨_, rfl, z, _, c, rfl, rfl, by decide, by decide, by omega, hc, c, rfl, _, rfl, ?_⟩
      cases h3 : isSml c with
      | false =>
        rw [h3] at q
        exact iteT q
      | true =>
        rw [h3] at q
        refine iteF ?_
        refine ⟨_, rfl, z, rfl, fun D hD => ?_⟩
        refine lc_it walk_str (fun i H' => Same H0 H' ∧ H' D = some (.lst ((z.cps.toList.take i).map fun c => V.bl (wdSign o.cps.toList c)))) ⟨same_new hD, upd_same⟩ (fun _ _ _ _ => trivial) (fun i x H1 H2 hi hp hy => ?_) (fun H1 hp => ?_)
        · obtain ⟨rfl, c2, hc2, rfl⟩ := hy
          obtain ⟨sm, hd⟩ := hp
          have hc' := cps_at hc2
          have fin : ∃ acc, H2 D = some (.lst acc) ∧ acc.length < sizeLine ∧ (Same H0 (upd H2 D (.lst (acc ++ [V.bl (wdSign o.cps.toList c2)]))) ∧ (upd H2 D (.lst (acc ++ [V.bl (wdSign o.cps.toList c2)]))) D = some (.lst ((z.cps.toList.take (i + 1)).map fun c => V.bl (wdSign o.cps.toList c)))) := by
            refine ⟨_, hd, ?_, same_set sm hD, ?_⟩
            · rw [List.length_map]
              exact Nat.lt_of_le_of_lt (List.length_take_le _ _) (szl (by have h2 : z.cps.size = z.length := rfl; omega))
            · rw [upd_same, take_more hc', List.map_append]
              rfl
          refine ⟨rfl, ?_⟩
          unfold tYes
          refine iteT ⟨_, rfl, c2, rfl, _, rfl, ?_⟩
          cases s1 : isSml c2 with
          | true =>
            refine iteT ?_
            have e : wdSign o.cps.toList c2 = true := by unfold wdSign; rw [s1]; rfl
            rw [e] at fin
            exact fin
          | false =>
            refine iteF ⟨_, rfl, c2, rfl, _, rfl, ?_⟩
            cases s2 : isFig c2 with
            | true =>
              refine iteT ?_
              have e : wdSign o.cps.toList c2 = true := by unfold wdSign; rw [s1, s2]; rfl
              rw [e] at fin
              exact fin
            | false =>
              refine iteF ⟨_, rfl, _, rfl, c2, o, rfl, rfl, ?_⟩
              have e : wdSign o.cps.toList c2 = decide (c2 ∈ o.cps.toList) := by unfold wdSign; rw [s1, s2]; rfl
              rw [e] at fin
              exact fin
        · obtain ⟨sm, hd⟩ := hp
          have e : z.cps.toList.take z.cps.size = z.cps.toList := List.take_of_length_le (by simp)
          rw [e] at hd
          refine ⟨D, z.cps.toList.map (wdSign o.cps.toList), rfl, SqL.of (by rw [List.map_map]; exact hd), ?_⟩
          refine bl_to ?_ (qAll H1 (s0.trans sm))
          unfold isWd
          rw [h1, decide_eq_true (by omega : 1 ≤ z.cps.toList.length ∧ z.cps.toList.length ≤ 20), hhd, h3, List.all_map]
          rfl
theorem scIsSort : FnScope ["value"] ["value"] (defScope sIsSort) := ⟨rfl, rfl, rfl, by decide +kernel, rfl, by decide +kernel, by decide +kernel⟩
def isSort (l : List Nat) : Bool := isWd [45, 43] l
def isPnm (l : List Nat) : Bool := isWd [45] l
theorem r_is_sort (A : FnAt K mg "is_sort" sIsSort) (R1 : Ready P w K mg base 4 "_is_word" ["value", "others"] (spWordP K)) : Ready P w K mg base 5 "is_sort" ["value"] (spLine K isSort) := by
  obtain ⟨f1, fd1, g1, k1, b1, G1⟩ := R1
  refine ready_of A (fun _ _ _ _ _ _ us hl => match us, hl with | [_], _ => rfl) fun f fd F => ?_
  refine F.ok scIsSort (fun vs H Q E h => ?_) (fun cdv A outer s H vs Q E hr h => ?_)
  · obtain ⟨v, rfl, _⟩ := h
    rfl
  · obtain ⟨v, rfl, q⟩ := h
    have e : ("-+" : Str).cps.toList = [45, 43] := by decide +kernel
    refine ⟨_, pss_one (ps_ret (pe_call G1 (hr.mono (by decide)) (by rfl) g1 k1 b1 .nil pass0 (pa_cons (pv 0) (pa_cons pe_str pa_nil)))), _, rfl, v, _, rfl, ?_⟩
    rcases q with ⟨z, rfl, hz, q⟩ | q
    · exact .inl ⟨z, rfl, hz, fun H' s => bl_to (by rw [e]; rfl) (q H' s)⟩
    · exact .inr q
theorem scIsPairName : FnScope ["value"] ["value"] (defScope sIsPairName) := ⟨rfl, rfl, rfl, by decide +kernel, rfl, by decide +kernel, by decide +kernel⟩
theorem r_is_pair_name (A : FnAt K mg "_is_pair_name" sIsPairName) (R1 : Ready P w K mg base 4 "_is_word" ["value", "others"] (spWordP K)) : Ready P w K mg base 5 "_is_pair_name" ["value"] (spLine K isPnm) := by
  obtain ⟨f1, fd1, g1, k1, b1, G1⟩ := R1
  refine ready_of A (fun _ _ _ _ _ _ us hl => match us, hl with | [_], _ => rfl) fun f fd F => ?_
  refine F.ok scIsPairName (fun vs H Q E h => ?_) (fun cdv A outer s H vs Q E hr h => ?_)
  · obtain ⟨v, rfl, _⟩ := h
    rfl
  · obtain ⟨v, rfl, q⟩ := h
    have e : ("-" : Str).cps.toList = [45] := by decide +kernel
    refine ⟨_, pss_one (ps_ret (pe_call G1 (hr.mono (by decide)) (by rfl) g1 k1 b1 .nil pass0 (pa_cons (pv 0) (pa_cons pe_str pa_nil)))), _, rfl, v, _, rfl, ?_⟩
    rcases q with ⟨z, rfl, hz, q⟩ | q
    · exact .inl ⟨z, rfl, hz, fun H' s => bl_to (by rw [e]; rfl) (q H' s)⟩
    · exact .inr q
/-! ### pairs and kinds that are -/
/-- a kind's pairs: each name and its value -/
structure Kd where
  main : Str
  sub : Str
  ps : List (Str × Str)
def OkP (p : Str × Str) : Prop := p.1.length ≤ 1000 ∧ isPnm p.1.cps.toList = true ∧ p.2.length ≤ 1000 ∧ isLn p.2.cps.toList = true
structure OkKd (k : Kd) : Prop where
  ml : k.main.length ≤ 1000
  sl : k.sub.length ≤ 1000
  mn : isSort k.main.cps.toList = true
  sn : isSort k.sub.cps.toList = true
  pn : k.ps.length ≤ 100
  po : ∀ p ∈ k.ps, OkP p
  nd : (k.ps.map (·.1)).Nodup
/-- where its pairs stand -/
def PairsAt (H : Hp) (Ts : List Addr) (ps : List (Str × Str)) : Prop := ∀ (i : Nat) (p : Str × Str), ps[i]? = some p → ∃ T, Ts[i]? = some T ∧ H T = some (.tup [.str p.1, .str p.2])
structure KdAt (H : Hp) (v : Addr) (k : Kd) : Prop where
  ex : ∃ (L : Addr) (Ts : List Addr), H v = some (.tup [.str k.main, .str k.sub, .ref L]) ∧ H L = some (.lst (Ts.map V.ref)) ∧ Ts.length = k.ps.length ∧ PairsAt H Ts k.ps
theorem KdAt.same {H H' : Hp} {v : Addr} {k : Kd} (h : KdAt H v k) (s : Same H H') : KdAt H' v k := by
  obtain ⟨L, Ts, h1, h2, h3, h4⟩ := h.ex
  exact ⟨L, Ts, s _ _ h1, s _ _ h2, h3, fun i p hp => let ⟨T, a, b⟩ := h4 i p hp; ⟨T, a, s _ _ b⟩⟩
def spPairG : Sp := fun vs H Q _ => ∃ (T : Addr) (p : Str × Str), vs = [.ref T] ∧ H T = some (.tup [.str p.1, .str p.2]) ∧ OkP p ∧ ∀ H', Same H H' → Q (.bl true) H'
theorem scIsPair : FnScope ["value"] ["value"] (defScope sIsPair) := ⟨rfl, rfl, rfl, by decide +kernel, rfl, by decide +kernel, by decide +kernel⟩
theorem r_is_pairG (A : FnAt K mg "_is_pair" sIsPair) (R1 : Ready P w K mg base 5 "_is_pair_name" ["value"] (spLine K isPnm)) (R2 : Ready P w K mg base 3 "is_line" ["value"] (spLine K isLn)) (m_isinstance : mg "isinstance" = none) (m_tuple : mg "tuple" = none) (m_len : mg "len" = none) :
    Ready P w K mg base 6 "_is_pair" ["value"] spPairG := by
  obtain ⟨f1, fd1, g1, k1, b1, G1⟩ := R1
  obtain ⟨f2, fd2, g2, k2, b2, G2⟩ := R2
  refine ready_of A (fun _ _ _ _ _ _ us hl => match us, hl with | [_], _ => rfl) fun f fd F => ?_
  refine F.ok scIsPair (fun vs H Q E h => ?_) (fun cdv A outer s H vs Q E hr h => ?_)
  · obtain ⟨T, p, rfl, _⟩ := h
    rfl
  · obtain ⟨T, p, rfl, hT, ⟨o1, o2, o3, o4⟩, q⟩ := h
    have sc := scIsPair
    refine ⟨_, pss_cons (ps_if (PW.pt (pw_or (pt_not (pt_val (pe_callB call_isi (by rfl) m_isinstance (by decide +kernel) (pa_cons (pv 0) (pa_cons (pe_bltn (v := .ty "tuple") (by rfl) m_tuple (by decide +kernel) rfl) pa_nil))))) (pw_or1 (pt_cmpR op_ne (pe_callB call_len_seq (by rfl) m_len PySem.boot_len (pa_cons (pv 0) pa_nil)) pe_int (nomark _)))))
        (pss_one (ps_ret pe_bl))
        pss_nil)
      (pss_one (ps_ret (pe_and (pe_call G1 (hr.mono (by decide)) (by rfl) g1 k1 b1 .nil pass0 (pa_cons (pe_ix ix_tup (pv 0) pe_int (fun _ _ => rfl)) pa_nil)) (pe_one (pe_call G2 (hr.mono (by decide)) (by rfl) g2 k2 b2 .nil pass0 (pa_cons (pe_ix ix_tup (pv 0) pe_int (fun _ _ => rfl)) pa_nil)))))), ?_⟩
    refine ⟨_, rfl, _, _, .type "tuple", .type "tuple", true, rfl, ClsV.ty "tuple", .base (.tup hT), kit_ty (by decide +kernel), _, rfl, iteF ?_⟩
    refine ⟨_, rfl, T, _, rfl, .inr (SqT.of hT), rfl, _, rfl, iteF ?_⟩
    refine ⟨_, rfl, T, _, _, _, rfl, rfl, SqT.of hT, rfl, _, rfl, .inl ⟨_, rfl, by omega, fun H1 s1 => ⟨_, rfl, ?_⟩⟩⟩
    rw [o2]
    refine iteT ⟨_, rfl, T, _, _, _, rfl, rfl, SqT.of (s1 _ _ hT), rfl, _, rfl, .inl ⟨_, rfl, by omega, fun H2 s2 => ?_⟩⟩
    rw [o4]
    exact q H2 (s1.trans s2)
/-- what is shown of a good kind: is_kind says yes -/
def spKindG : Sp := fun vs H Q _ => ∃ (a : Addr) (k : Kd), vs = [.ref a] ∧ KdAt H a k ∧ OkKd k ∧ ∀ H', Same H H' → Q (.bl true) H'
theorem scIsKind : FnScope ["value", "main", "sub", "pairs", "pair"] ["value"] (defScope sIsKind) := ⟨rfl, rfl, rfl, by decide +kernel, rfl, by decide +kernel, by decide +kernel⟩
theorem r_is_kindG (A : FnAt K mg "is_kind" sIsKind) (R1 : Ready P w K mg base 5 "is_sort" ["value"] (spLine K isSort)) (R2 : Ready P w K mg base 6 "_is_pair" ["value"] spPairG) (m_isinstance : mg "isinstance" = none) (m_tuple : mg "tuple" = none) (m_list : mg "list" = none) (m_len : mg "len" = none) (m_all : mg "all" = none) :
    Ready P w K mg base 7 "is_kind" ["value"] spKindG := by
  obtain ⟨f1, fd1, g1, k1, b1, G1⟩ := R1
  obtain ⟨f2, fd2, g2, k2, b2, G2⟩ := R2
  refine ready_of A (fun _ _ _ _ _ _ us hl => match us, hl with | [_], _ => rfl) fun f fd F => ?_
  refine F.ok scIsKind (fun vs H Q E h => ?_) (fun cdv A outer s H vs Q E hr h => ?_)
  · obtain ⟨a, k, rfl, _⟩ := h
    rfl
  · obtain ⟨a, k, rfl, hK, ok, q⟩ := h
    have sc := scIsKind
    refine ⟨_, pss_cons (ps_if (PW.pt (pw_or (pt_not (pt_val (pe_callB call_isi (by rfl) m_isinstance (by decide +kernel) (pa_cons (pv 0) (pa_cons (pe_bltn (v := .ty "tuple") (by rfl) m_tuple (by decide +kernel) rfl) pa_nil))))) (pw_or1 (pt_cmpR op_ne (pe_callB call_len_seq (by rfl) m_len PySem.boot_len (pa_cons (pv 0) pa_nil)) pe_int (nomark _)))))
        (pss_one (ps_ret pe_bl))
        pss_nil)
      (pss_cons (ps_asg (pv 0) (pg_tup rfl (pgs_cons (pg_name (i := 1) sc.nd rfl (.inl rfl)) (pgs_cons (pg_name (i := 2) sc.nd rfl (.inl rfl)) (pgs_cons (pg_name (i := 3) sc.nd rfl (.inl rfl)) pgs_nil)))))
      (pss_cons (ps_if (PW.pt (pw_or (pt_not (pt_val (pe_call G1 (hr.mono (by decide)) (by rfl) g1 k1 b1 .nil pass0 (pa_cons (pv 1) pa_nil)))) (pw_or (pt_not (pt_val (pe_call G1 (hr.mono (by decide)) (by rfl) g1 k1 b1 .nil pass0 (pa_cons (pv 2) pa_nil)))) (pw_or1 (pt_not (pt_val (pe_callB call_isi (by rfl) m_isinstance (by decide +kernel) (pa_cons (pv 3) (pa_cons (pe_bltn (v := .ty "list") (by rfl) m_list (by decide +kernel) rfl) pa_nil)))))))))
        (pss_one (ps_ret pe_bl))
        pss_nil)
      (pss_cons (ps_if (pt_not (pt_val (pe_callB (cr_all rfl) (by rfl) m_all (by decide +kernel) (pa_cons (pe_lc (own := [("pair", 4)]) (g := gName 4) (tt := tYes) (te := (tCall _ [] _ (tCons (tVar 4) tNil))) (by rfl) sc.nd (pi_list (pv 3)) (blkOk_by (own := [("pair", 4)]) (N := ["value", "main", "sub", "pairs", "pair"]) (sc := defScope sIsKind) (by decide +kernel)) (fun _ _ _ _ _ => (pg_name (i := 4) sc.nd rfl (.inl rfl))) (fun _ _ _ _ _ => pts_nil) (fun _ _ _ _ _ => (pe_call G2 (hr.mono (by decide)) (by rfl) g2 k2 b2 .nil pass0 (pa_cons (pv 4) pa_nil)))) pa_nil))))
        (pss_one (ps_ret pe_bl))
        pss_nil)
      (pss_one (ps_ret (pe_cmpR op_eq (pe_callB call_lenK (by rfl) m_len PySem.boot_len (pa_cons (pe_scK (own := [("pair", 4)]) (g := gName 4) (tt := tYes) (te := (tOp (rIxT K) (tVar 4) (tC (.int 0)))) (by rfl) sc.nd (pi_list (pv 3)) (blkOk_by (own := [("pair", 4)]) (N := ["value", "main", "sub", "pairs", "pair"]) (sc := defScope sIsKind) (by decide +kernel)) (fun _ _ _ _ _ => (pg_name (i := 4) sc.nd rfl (.inl rfl))) (fun _ _ _ _ _ => pts_nil) (fun _ _ _ _ _ => (pe_ix ix_tup (pv 4) pe_int (fun _ _ => rfl)))) pa_nil)) (pe_callB call_len_seq (by rfl) m_len PySem.boot_len (pa_cons (pv 3) pa_nil)) (nomark _))))))), ?_⟩
    obtain ⟨L, Ts, ha, hL, hlen, hp⟩ := hK.ex
    refine ⟨_, rfl, _, _, .type "tuple", .type "tuple", true, rfl, ClsV.ty "tuple", .base (.tup ha), kit_ty (by decide +kernel), _, rfl, iteF ?_⟩
    refine ⟨_, rfl, a, _, rfl, .inr (SqT.of ha), rfl, _, rfl, iteF ?_⟩
    refine ⟨_, rfl, a, _, rfl, SqT.of ha, rfl, _, _, rfl, _, _, rfl, _, _, rfl, rfl, ?_⟩
    have o1 := ok.ml
    have o2 := ok.sl
    have o3 := ok.pn
    refine ⟨_, rfl, _, rfl, .inl ⟨_, rfl, by omega, fun H1 s1 => ⟨_, rfl, ?_⟩⟩⟩
    rw [ok.mn]
    refine iteF ⟨_, rfl, _, rfl, .inl ⟨_, rfl, by omega, fun H2 s2 => ⟨_, rfl, ?_⟩⟩⟩
    rw [ok.sn]
    have s12 := s1.trans s2
    refine iteF ⟨_, rfl, _, _, .type "list", .type "list", true, rfl, ClsV.ty "list", .base (.lst (s12 _ _ hL)), kit_ty (by decide +kernel), _, rfl, iteF ?_⟩
    have hL2 := s12 _ _ hL
    have hTl : (Ts.map V.ref).length = k.ps.length := by rw [List.length_map, hlen]
    refine ⟨_, rfl, L, rfl, ⟨_, SqL.of hL2⟩, fun D hD => ?_⟩
    refine lc_it (walk_list (K := K) (a := L) (xs := Ts.map V.ref)) (fun i H' => Same H2 H' ∧ H' D = some (.lst ((List.replicate i true).map V.bl))) ⟨same_new hD, upd_same⟩ (fun i H' _ p1 => SqL.of (p1.1 _ _ hL2)) (fun i x X1 X2 hi hp1 hy => ?_) (fun X1 hp1 => ?_)
    · obtain ⟨rfl, hx⟩ := hy
      obtain ⟨sm, hd⟩ := hp1
      rw [hTl] at hi
      obtain ⟨T, hTi, hT⟩ := hp i _ (List.getElem?_eq_getElem hi)
      rw [List.getElem?_map, hTi] at hx
      injection hx with hx
      subst hx
      refine ⟨rfl, ?_⟩
      unfold tYes
      refine iteT ⟨_, rfl, T, _, rfl, sm _ _ (s12 _ _ hT), ok.po _ (List.getElem_mem hi), fun X3 s3 => ?_⟩
      refine ⟨_, s3 _ _ hd, ?_, same_set (sm.trans s3) hD, ?_⟩
      · rw [List.length_map, List.length_replicate]
        exact szl (by omega)
      · rw [upd_same, List.replicate_succ', List.map_append]
        rfl
    obtain ⟨sm, hd⟩ := hp1
    refine ⟨D, List.replicate (Ts.map V.ref).length true, rfl, SqL.of hd, _, rfl, ?_⟩
    have hall : (List.replicate (Ts.map V.ref).length true).all id = true := List.all_eq_true.mpr fun x hx => (List.mem_replicate.mp hx).2
    rw [hall]
    refine iteF ?_
    have s3 := s12.trans sm
    have hL3 := s3 _ _ hL
    refine ⟨_, rfl, L, rfl, ⟨_, SqL.of hL3⟩, fun D2 hD2 => ?_⟩
    refine sc_itK (walk_list (K := K) (a := L) (xs := Ts.map V.ref)) (fun i H' => Same X1 H' ∧ ∃ S : Key → Bool, H' D2 = some (SetK P w D2 S i) ∧ ∀ key, S key = true ↔ ∃ p ∈ k.ps.take i, key = Sum.inr p.1) ⟨same_new hD2, fun _ => false, upd_same, fun key => by simp⟩ (fun i H' _ p1 => SqL.of (p1.1 _ _ hL3)) (fun i x Y1 Y2 hi hp1 hy => ?_) (fun Y1 hp1 => ?_)
    · obtain ⟨rfl, hx⟩ := hy
      obtain ⟨sm2, S, hd2, hS⟩ := hp1
      rw [hTl] at hi
      have hpi := List.getElem?_eq_getElem hi
      obtain ⟨T, hTi, hT⟩ := hp i _ hpi
      rw [List.getElem?_map, hTi] at hx
      injection hx with hx
      subst hx
      refine ⟨rfl, ?_⟩
      unfold tYes
      have new : S (Sum.inr (k.ps[i]).1) = false := by
        cases hc : S (Sum.inr (k.ps[i]).1) with
        | false => rfl
        | true =>
          obtain ⟨p, hpm, he⟩ := (hS _).mp hc
          obtain ⟨j, hj, hje⟩ := List.mem_iff_getElem.mp hpm
          rw [List.length_take] at hj
          rw [List.getElem_take] at hje
          have hne := ok.nd
          have e2 : (k.ps.map (·.1))[j]'(by rw [List.length_map]; omega) = (k.ps.map (·.1))[i]'(by rw [List.length_map]; omega) := by
            rw [List.getElem_map, List.getElem_map, hje]
            exact (Sum.inr.inj he).symm
          exact absurd e2 (List.pairwise_iff_getElem.mp hne j i (by rw [List.length_map]; omega) (by rw [List.length_map]; omega) (by omega))
      refine iteT ⟨_, rfl, T, _, _, .str (k.ps[i]).1, rfl, rfl, SqT.of (sm2 _ _ (s3 _ _ hT)), rfl, Sum.inr (k.ps[i]).1, S, i, rfl, hd2, Nat.lt_of_le_of_lt (by omega : i + 1 ≤ 101) (by decide), ?_, ?_⟩
      · exact same_set sm2 hD2
      · refine ⟨fun j => S j || decide (j = Sum.inr (k.ps[i]).1), ?_, fun key => ?_⟩
        · rw [upd_same]
          unfold SetK1
          rw [new, if_neg Bool.false_ne_true]
          rfl
        · rw [take_more hpi]
          constructor
          · intro h
            rcases Bool.or_eq_true_iff.mp h with h | h
            · obtain ⟨p, a, b⟩ := (hS key).mp h
              exact ⟨p, List.mem_append_left _ a, b⟩
            · exact ⟨k.ps[i], List.mem_append_right _ (List.mem_singleton.mpr rfl), of_decide_eq_true h⟩
          · rintro ⟨p, hpm, rfl⟩
            refine Bool.or_eq_true_iff.mpr ?_
            rcases List.mem_append.mp hpm with h | h
            · exact .inl ((hS _).mpr ⟨p, h, rfl⟩)
            · refine .inr (decide_eq_true ?_)
              rw [List.mem_singleton.mp h]
    obtain ⟨sm2, S, hd2, _⟩ := hp1
    have s4 := s3.trans sm2
    refine ⟨D2, S, (Ts.map V.ref).length, rfl, hd2, by rw [hTl]; omega, _, rfl, L, _, rfl, .inl (SqL.of (s4 _ _ hL)), rfl, ?_⟩
    exact bl_to (decide_eq_true rfl) (q Y1 s4)
end
end FL

namespace FL
open PySem PySem.Spec PyProof.Rows L2
/-! ### kinds shown -/
/-- a number's figures -/
def figS (i : Nat) : Str := Str.ofString (toString ((i : Nat) : Int))
def figL (i : Nat) : List Nat := (figS i).cps.toList
theorem figL_len : ∀ i, i < 100 → (figL i).length ≤ 2 := by decide +kernel
theorem figS_mk (i : Nat) : figS i = mk (figL i) := (mk_eq rfl)
def pcs (v : List Nat) : List (List Nat) := (List.range ((v.length + 39) / 40)).map fun i => (v.drop (40 * i)).take 40
def numd (n : List Nat) (i : Nat) (p : List Nat) : List Nat := n ++ (42 :: (figL i ++ (61 :: quotedL p)))
def showP (n v : List Nat) : List (List Nat) := if v.length ≤ 40 then [n ++ (61 :: quotedL v)] else (List.range ((v.length + 39) / 40)).map fun i => numd n i ((v.drop (40 * i)).take 40)
def txs (l : List (List Nat)) : List V := (l.map mk).map V.str
theorem txs_len (l : List (List Nat)) : (txs l).length = l.length := by unfold txs; rw [List.length_map, List.length_map]
theorem txs_app (l m : List (List Nat)) : txs (l ++ m) = txs l ++ txs m := by unfold txs; rw [List.map_append, List.map_append]
theorem txs_mk (l : List (List Nat)) : txs l = (l.map mk).map V.str := rfl
theorem cutS_codesK (z : Str) {i j : Nat} (h1 : i ≤ z.length) : (cutS z (some (i : Nat)) (some (j : Nat))).cps.toList = (z.cps.toList.drop i).take (j - i) := by
  unfold cutS
  rw [HT.sIx_nat, HT.sIx_nat, Nat.min_eq_left h1]
  show (List.take _ (List.drop _ _)) = _
  have hl := len_cps z
  by_cases h2 : j ≤ z.length
  · rw [Nat.min_eq_left h2]
  · rw [Nat.min_eq_right (by omega), List.take_of_length_le (by rw [List.length_drop]; omega), List.take_of_length_le (by rw [List.length_drop]; omega)]
theorem isLn_sub {l m : List Nat} (h : ∀ c ∈ m, c ∈ l) (hl : isLn l = true) : isLn m = true := by
  unfold isLn allSig at *
  obtain ⟨h1, h2⟩ := Bool.and_eq_true_iff.mp hl
  refine Bool.and_eq_true_iff.mpr ⟨List.all_eq_true.mpr fun c hc => List.all_eq_true.mp h1 c (h c hc), ?_⟩
  rw [decide_eq_false fun z => ?_]
  · rfl
  · rw [decide_eq_true (h 10 z)] at h2
    cases h2
theorem quoted_len (l : List Nat) : (quotedL l).length ≤ 2 * l.length + 2 := by
  unfold quotedL
  split
  · omega
  · have := esc_len l
    rw [List.length_cons, List.length_append, List.length_singleton]
    omega
section
variable {P : Program} {w : World} {K : PySem.W.Frag} {mg : Str → Option Value} {base : Heap}
def spShowPair : Sp := fun vs H Q _ => ∃ (n v : Str), vs = [.str n, .str v] ∧ n.length ≤ 1000 ∧ v.length ≤ 1000 ∧ isLn v.cps.toList = true ∧ ∀ H' p, Same H H' → H p = none → H' p = some (.lst (txs (showP n.cps.toList v.cps.toList))) → Q (.ref p) H'
theorem scShowPair : FnScope ["name", "value", "pieces", "begin", "number", "piece"] ["name", "value"] (defScope sShowPair) := ⟨rfl, rfl, rfl, by decide +kernel, rfl, by decide +kernel, by decide +kernel⟩
theorem r_show_pair (A : FnAt K mg "_show_pair" sShowPair) (R1 : Ready P w K mg base 4 "quoted" ["text"] spQuoted) (m_len : mg "len" = none) (m_range : mg "range" = none) (m_enumerate : mg "enumerate" = none) {tW : Tok} (m_PIECE_SIZE : mg "PIECE_SIZE" = some (.int 40 tW)) :
    Ready P w K mg base 5 "_show_pair" ["name", "value"] spShowPair := by
  obtain ⟨f1, fd1, g1, k1, b1, G1⟩ := R1
  refine ready_of A (fun _ _ _ _ _ _ us hl => match us, hl with | [_, _], _ => rfl) fun f fd F => ?_
  refine F.ok scShowPair (fun vs H Q E h => ?_) (fun cdv A outer s H vs Q E hr h => ?_)
  · obtain ⟨n, v, rfl, _⟩ := h
    rfl
  · obtain ⟨n, v, rfl, hn, hv, hvl, q⟩ := h
    have sc := scShowPair
    refine ⟨_, pss_cons (ps_if (pt_cmpR op_le (pe_callB call_len_str (by rfl) m_len PySem.boot_len (pa_cons (pv 1) pa_nil)) (pe_glob (v := .int 40) rfl m_PIECE_SIZE ⟨_, rfl⟩) (nomark _))
        (pss_one (ps_ret (pe_lst (pa_cons (pe_op op_add_str (pe_op op_add_str (pv 0) pe_str) (pe_call G1 (hr.mono (by decide)) (by rfl) g1 k1 b1 .nil pass0 (pa_cons (pv 1) pa_nil))) pa_nil))))
        pss_nil)
      (pss_cons (ps_setLc (i := 2) (own := [("begin", 3)]) (g := gName 3) (tt := tYes) (te := (tSl _ (tVar 1) (tPart (tVar 3)) (tPart (tOp _ (tVar 3) (tC (.int 40)))))) (by rfl) sc.nd rfl rfl (sw_true rfl rfl rfl (by decide +kernel)) (pi_range3 (by rfl) m_range (pa_cons pe_int (pa_cons (pe_callB call_len_str (by rfl) m_len PySem.boot_len (pa_cons (pv 1) pa_nil)) (pa_cons (pe_glob (v := .int 40) rfl m_PIECE_SIZE ⟨_, rfl⟩) pa_nil)))) (blkOk_by (own := [("begin", 3)]) (N := ["name", "value", "pieces", "begin", "number", "piece"]) (sc := defScope sShowPair) (by decide +kernel)) (fun _ _ _ _ _ => (pg_name (i := 3) sc.nd rfl (.inl rfl))) (fun _ _ _ _ _ => pts_nil) (fun _ _ _ _ _ => (pe_slice sl_str (pv 1) (po_some (pv 3)) (po_some (pe_op op_add (pv 3) (pe_glob (v := .int 40) rfl m_PIECE_SIZE ⟨_, rfl⟩))))))
      (pss_one (ps_ret (pe_lc (own := [("number", 4), ("piece", 5)]) (g := gTup K 2 (gCons (gName 4) (gCons (gName 5) gNil))) (tt := tYes) (te := (tOp _ (fun σ H Q => tJs [(tFmt (tVar 0)), (tC (.str ("*" : Str))), (tFmt (tVar 4)), (tC (.str ("=" : Str)))] Str.empty σ H fun out H1 => Q (.str out) H1) (tCall _ [] _ (tCons (tVar 5) tNil)))) (by rfl) sc.nd (pi_enum (by rfl) m_enumerate (pa_cons (pv 2) pa_nil)) (blkOk_by (own := [("number", 4), ("piece", 5)]) (N := ["name", "value", "pieces", "begin", "number", "piece"]) (sc := defScope sShowPair) (by decide +kernel)) (fun _ _ _ _ _ => (pg_tup rfl (pgs_cons (pg_name (i := 4) sc.nd rfl (.inl rfl)) (pgs_cons (pg_name (i := 5) sc.nd rfl (.inl rfl)) pgs_nil)))) (fun _ _ _ _ _ => pts_nil) (fun _ _ _ _ _ => (pe_op op_add_str (pe_joined (.cons (pe_fmt (pv 0)) (.cons pe_str (.cons (pe_fmt (pv 4)) (.cons pe_str .nil))))) (pe_call G1 (hr.mono (by decide)) (by rfl) g1 k1 b1 .nil pass0 (pa_cons (pv 5) pa_nil)))))))), ?_⟩
    have hvs : v.length ≤ sizeLine := Nat.le_of_lt (szl (by omega))
    have hlv := len_cps v
    have hln := len_cps n
    have en : n = mk n.cps.toList := (mk_eq rfl)
    have e61 : ("=" : Str) = mk [61] := by decide +kernel
    have hql := quoted_len v.cps.toList
    unfold showP at q
    refine ⟨_, rfl, v, rfl, hvs, _, _, rfl, rfl, _, rfl, ?_⟩
    by_cases h40 : v.length ≤ 40
    case' pos =>
      rw [decide_eq_true (by omega : ((v.length : Nat) : Int) ≤ 40)]
      rw [if_pos (by omega : v.cps.toList.length ≤ 40)] at q
      have e1 := catX en e61
      refine iteT ⟨_, rfl, _, _, rfl, rfl, by rw [← len_append]; exact szE e1 (by simp only [List.length_append, List.length_cons, List.length_nil]; omega), ?_⟩
      rw [e1]
      refine ⟨_, rfl, v, rfl, hv, hvl, fun H1 s1 => ?_⟩
      have e2 := catX (rfl : mk (n.cps.toList ++ [61]) = _) (rfl : mk (quotedL v.cps.toList) = _)
      refine ⟨_, _, rfl, rfl, by rw [← len_append]; exact szE e2 (by simp only [List.length_append, List.length_cons, List.length_nil]; omega), ?_⟩
      rw [e2]
      refine ⟨(by show 1 ≤ sizeLine; decide), fun p np => q _ p (s1.trans (same_new np)) (Same.free s1 np) ?_⟩
      rw [upd_same, List.append_assoc]
      rfl
    rw [decide_eq_false (by omega : ¬ ((v.length : Nat) : Int) ≤ 40)]
    rw [if_neg (by omega : ¬ v.cps.toList.length ≤ 40)] at q
    generalize hN : (v.cps.toList.length + 39) / 40 = N at q
    have hNb : N ≤ 26 := by omega
    have hV : v = mk v.cps.toList := (mk_eq rfl)
    generalize hVc : v.cps.toList = V0 at q hN hql hV hlv hvl
    have eV : ((v.length : Nat) : Int) = ((V0.length : Nat) : Int) := by rw [hlv]
    refine iteF ⟨_, rfl, v, rfl, hvs, 0, ((v.length : Nat) : Int), 40, N, rfl, by rw [eV, ← hN]; exact rg_up (c := 40) (by omega) (by decide) (by decide), fun D hD => ?_⟩
    refine lc_it (walk_rangeC (lo := 0) (c := 40) (n := N)) (fun i H' => Same H H' ∧ H' D = some (.lst (txs ((List.range i).map fun i => (V0.drop (40 * i)).take 40)))) ⟨same_new hD, upd_same⟩ (fun _ _ _ _ => trivial) (fun i x H2 H3 hi hp hy => ?_) (fun H2 hp => ?_)
    · obtain ⟨rfl, hx⟩ := hy
      obtain ⟨sm, hd⟩ := hp
      have hx' : x = .int ((40 * i : Nat) : Int) := by
        rw [hx]
        exact congrArg V.int (by omega)
      subst hx'
      refine ⟨rfl, ?_⟩
      unfold tYes
      have ec : cutS v (some ((40 * i : Nat) : Int)) (some (((40 * i : Nat) : Int) + 40)) = mk ((V0.drop (40 * i)).take 40) := mk_eq (by
        rw [show (((40 * i : Nat) : Int) + 40) = ((40 * i + 40 : Nat) : Int) by omega, cutS_codesK v (by omega), hVc, show 40 * i + 40 - 40 * i = 40 by omega])
      refine iteT ⟨_, rfl, _, rfl, _, rfl, _, rfl, _, _, rfl, rfl, _, rfl, v, rfl, hvs, ?_⟩
      rw [ec]
      refine ⟨_, hd, ?_, same_set sm hD, ?_⟩
      · rw [txs_len, List.length_map, List.length_range]
        exact szl (by omega)
      · rw [upd_same, List.range_succ, List.map_append, txs_app]
        rfl
    obtain ⟨sm, hd⟩ := hp
    refine ⟨_, rfl, D, _, rfl, SqL.of hd, fun D2 hD2 => ?_⟩
    refine lc_it (walk_enum (K := K) (a := D) (xs := txs ((List.range N).map fun i => (V0.drop (40 * i)).take 40))) (fun i H' => Same H2 H' ∧ H' D2 = some (.lst (txs ((List.range i).map fun i => numd n.cps.toList i ((V0.drop (40 * i)).take 40))))) ⟨same_new hD2, upd_same⟩ (fun i H' _ p1 => SqL.of (p1.1 _ _ hd)) (fun i x H3 H4 hi hp hy => ?_) (fun H3 hp => ?_)
    · obtain ⟨T, xx, yy, rfl, nT, rfl, hxx, hyy⟩ := hy
      obtain ⟨sm2, hd2⟩ := hp
      injection hxx with hxx
      subst hxx
      have hi : i < N := by
        rw [txs_len, List.length_map, List.length_range] at hi
        exact hi
      have hyy : (txs ((List.range N).map fun i => (V0.drop (40 * i)).take 40))[i]? = some yy := hyy
      unfold txs at hyy
      rw [List.getElem?_map, List.getElem?_map, List.getElem?_map, List.getElem?_range hi] at hyy
      obtain rfl : yy = V.str (mk ((V0.drop (40 * i)).take 40)) := (Option.some.inj hyy).symm
      generalize hp0 : (V0.drop (40 * i)).take 40 = p0
      have hpl : p0.length ≤ 40 := by rw [← hp0]; exact List.length_take_le _ _
      have hpn : isLn p0 = true := by
        rw [← hp0]
        exact isLn_sub (fun c hc => List.mem_of_mem_drop (List.mem_of_mem_take hc)) hvl
      refine ⟨T, _, rfl, SqT.of upd_same, rfl, _, _, rfl, _, _, rfl, rfl, rfl, ?_⟩
      unfold tYes
      have sm3 := sm2.trans (same_new (o := .tup [.int (i : Nat), .str (mk p0)]) nT)
      have hd3 := kn (x := .tup [.int (i : Nat), .str (mk p0)]) hd2 nT
      generalize upd H3 T (.tup [.int (i : Nat), .str (mk p0)]) = H5 at sm3 hd3 ⊢
      have hnz : n.length ≤ sizeLine := Nat.le_of_lt (szl (by omega))
      have e0 : Str.empty ++ n = mk n.cps.toList := by
        rw [en, mk_codes]
        exact catX (l := []) (by decide +kernel) rfl
      have e42 : ("*" : Str) = mk [42] := by decide +kernel
      have e1 := catX e0 e42
      have e2 := catX e1 (figS_mk i)
      have e3 := catX e2 e61
      have hf := figL_len i (by omega)
      refine iteT ⟨_, rfl, .inl ⟨n, rfl, hnz, _, rfl, szE e0 (by omega), _, rfl, szE e1 (by simp only [List.length_append, List.length_cons, List.length_nil]; omega), ?_⟩⟩
      refine ⟨_, rfl, .inr ⟨_, rfl, small_log (by omega), _, rfl, szE e2 (by simp only [List.length_append, List.length_cons, List.length_nil]; omega), _, rfl, szE e3 (by simp only [List.length_append, List.length_cons, List.length_nil]; omega), ?_⟩⟩
      have hq0 := quoted_len p0
      refine ⟨_, rfl, mk p0, rfl, by rw [mk_len]; omega, by rw [mk_codes]; exact hpn, fun H6 s6 => ?_⟩
      rw [mk_codes]
      have e4 := catX e3 (rfl : mk (quotedL p0) = _)
      have hout : n.cps.toList ++ [42] ++ figL i ++ [61] ++ quotedL p0 = numd n.cps.toList i p0 := by
        unfold numd
        simp
      refine ⟨_, _, rfl, rfl, by rw [← len_append]; exact szE e4 (by simp only [List.length_append, List.length_cons, List.length_nil]; omega), ?_⟩
      refine ⟨_, s6 _ _ hd3, ?_, same_set (sm3.trans s6) hD2, ?_⟩
      · rw [txs_len, List.length_map, List.length_range]
        exact szl (by omega)
      · rw [upd_same, List.range_succ, List.map_append, txs_app]
        show some (HO.lst (_ ++ [V.str (Str.empty ++ n ++ ("*" : Str) ++ figS i ++ ("=" : Str) ++ mk (quotedL p0))])) = _
        rw [e4, hout, ← hp0]
        rfl
    · obtain ⟨sm2, hd2⟩ := hp
      rw [txs_len, List.length_map, List.length_range] at hd2
      exact q _ D2 (sm.trans sm2) (Same.free sm hD2) hd2
theorem flat_len {α β : Type} {f : α → List β} {n : Nat} : ∀ {l : List α}, (∀ x ∈ l, (f x).length ≤ n) → (l.flatMap f).length ≤ n * l.length
  | [], _ => by simp
  | x :: r, h => by
    have h1 := h x (List.mem_cons_self ..)
    have := flat_len (l := r) fun y hy => h y (List.mem_cons_of_mem _ hy)
    rw [List.flatMap_cons, List.length_append, List.length_cons, Nat.mul_succ]
    omega
/-- a kind as it is shown -/
def kindL (k : Kd) : List Nat := TL.joinL [59, 32] ((k.main.cps.toList ++ (47 :: k.sub.cps.toList)) :: k.ps.flatMap fun p => showP p.1.cps.toList p.2.cps.toList)
theorem showP_len (n v : List Nat) : (showP n v).length ≤ v.length + 1 := by
  unfold showP
  split
  · simp
  · rw [List.length_map, List.length_range]
    omega
theorem showP_few {n v : List Nat} (hv : v.length ≤ 1000) : (showP n v).length ≤ 26 := by
  unfold showP
  split
  · simp
  · rw [List.length_map, List.length_range]
    omega
theorem showP_each {n v : List Nat} (hv : v.length ≤ 1000) : ∀ x ∈ showP n v, x.length ≤ n.length + 90 := by
  intro x hx
  unfold showP at hx
  split at hx
  · rw [List.mem_singleton.mp hx, List.length_append, List.length_cons]
    have := quoted_len v
    omega
  · obtain ⟨i, hi, rfl⟩ := List.mem_map.mp hx
    have hi := List.mem_range.mp hi
    unfold numd
    rw [List.length_append, List.length_cons, List.length_append, List.length_cons]
    have := quoted_len ((v.drop (40 * i)).take 40)
    have h2 := List.length_take_le 40 (v.drop (40 * i))
    have := figL_len i (by omega)
    omega
theorem joinM (s : List Nat) (ps : List (List Nat)) : Txt.join (mk s) (ps.map mk) = mk (TL.joinL s ps) := by
  refine mk_eq ?_
  show TL.tl _ = _
  rw [TL.join_eq, TL.tl_join, List.map_map]
  have e : TL.tl (mk s) = s := mk_codes s
  rw [e]
  congr 1
  exact (List.map_congr_left (fun p _ => mk_codes p)).trans (List.map_id _)
def spShowKind : Sp := fun vs H Q _ => ∃ (a : Addr) (k : Kd), vs = [.ref a] ∧ KdAt H a k ∧ OkKd k ∧ k.ps.length ≤ 20 ∧ ∀ H', Same H H' → Q (.str (mk (kindL k))) H'
theorem scShowKind : FnScope ["kind", "main", "sub", "pairs", "shown", "name", "value"] ["kind"] (defScope sShowKind) := ⟨rfl, rfl, rfl, by decide +kernel, rfl, by decide +kernel, by decide +kernel⟩
theorem r_show_kind (A : FnAt K mg "show_kind" sShowKind) (R1 : Ready P w K mg base 7 "is_kind" ["value"] spKindG) (R2 : Ready P w K mg base 5 "_show_pair" ["name", "value"] spShowPair) :
    Ready P w K mg base 8 "show_kind" ["kind"] spShowKind := by
  obtain ⟨f1, fd1, g1, k1, b1, G1⟩ := R1
  obtain ⟨f2, fd2, g2, k2, b2, G2⟩ := R2
  refine ready_of A (fun _ _ _ _ _ _ us hl => match us, hl with | [_], _ => rfl) fun f fd F => ?_
  refine F.ok scShowKind (fun vs H Q E h => ?_) (fun cdv A outer s H vs Q E hr h => ?_)
  · obtain ⟨a, k, rfl, _⟩ := h
    rfl
  · obtain ⟨a, k, rfl, hK, ok, hpn, q⟩ := h
    have sc := scShowKind
    refine ⟨_, pss_cons (ps_if (pt_not (pt_val (pe_call G1 (hr.mono (by decide)) (by rfl) g1 k1 b1 .nil pass0 (pa_cons (pv 0) pa_nil))))
        (pss_one ps_never)
        pss_nil)
      (pss_cons (ps_asg (pv 0) (pg_tup rfl (pgs_cons (pg_name (i := 1) sc.nd rfl (.inl rfl)) (pgs_cons (pg_name (i := 2) sc.nd rfl (.inl rfl)) (pgs_cons (pg_name (i := 3) sc.nd rfl (.inl rfl)) pgs_nil)))))
      (pss_cons (ps_set (i := 4) sc.nd rfl (.inl rfl) (pe_lst (pa_cons (pe_op op_add_str (pe_op op_add_str (pv 1) pe_str) (pv 2)) pa_nil)))
      (pss_cons (ps_for PassesOwn.never rfl (pi_list (pv 3)) (pg_tup rfl (pgs_cons (pg_name (i := 5) sc.nd rfl (.inl rfl)) (pgs_cons (pg_name (i := 6) sc.nd rfl (.inl rfl)) pgs_nil)))
        (pss_one (ps_expr (pe_bm PySem.F.plainAttrs_list PySem.F.slot_list_extend PySem.F.type_list_extend mt_extend (pv 4) (pa_cons (pe_call G2 (hr.mono (by decide)) (by rfl) g2 k2 b2 .nil pass0 (pa_cons (pv 5) (pa_cons (pv 6) pa_nil))) pa_nil)))))
      (pss_one (ps_ret (pe_join pe_str (pv 4))))))), ?_⟩
    refine ⟨_, rfl, a, k, rfl, hK, ok, fun H1 s1 => ⟨_, rfl, iteF ?_⟩⟩
    have hK1 := hK.same s1
    obtain ⟨L, Ts, ha, hL, hlen, hp⟩ := hK1.ex
    refine ⟨_, rfl, a, _, rfl, SqT.of ha, rfl, _, _, rfl, _, _, rfl, _, _, rfl, rfl, ?_⟩
    have o1 := ok.ml
    have o2 := ok.sl
    have l1 := len_cps k.main
    have l2 := len_cps k.sub
    have e1 := catX (show k.main = mk k.main.cps.toList from mk_eq rfl) (show ("/" : Str) = mk [47] by decide +kernel)
    have e2 := catX e1 (show k.sub = mk k.sub.cps.toList from mk_eq rfl)
    refine ⟨_, rfl, _, _, rfl, rfl, by rw [← len_append]; exact szE e1 (by simp only [List.length_append, List.length_cons, List.length_nil]; omega), ?_⟩
    refine ⟨_, rfl, _, _, rfl, rfl, by rw [← len_append]; exact szE e2 (by simp only [List.length_append, List.length_cons, List.length_nil]; omega), ?_⟩
    rw [e2]
    refine ⟨(by show 1 ≤ sizeLine; decide), fun fp nfp => ?_⟩
    have nfp0 := Same.free s1 nfp
    have hTl : (Ts.map V.ref).length = k.ps.length := by rw [List.length_map, hlen]
    have hmain : k.main.cps.toList ++ [47] ++ k.sub.cps.toList = k.main.cps.toList ++ (47 :: k.sub.cps.toList) := by simp
    have s2 : Same H1 (upd H1 fp (.lst [.str (mk (k.main.cps.toList ++ [47] ++ k.sub.cps.toList))])) := same_new nfp
    have hfp : (upd H1 fp (.lst [.str (mk (k.main.cps.toList ++ [47] ++ k.sub.cps.toList))])) fp = some (.lst (txs ((k.main.cps.toList ++ (47 :: k.sub.cps.toList)) :: (k.ps.take 0).flatMap fun p => showP p.1.cps.toList p.2.cps.toList))) := by
      rw [upd_same, hmain]
      rfl
    generalize upd H1 fp (.lst [.str (mk (k.main.cps.toList ++ [47] ++ k.sub.cps.toList))]) = H2 at s2 hfp ⊢
    have hL2 := s2 _ _ hL
    refine ⟨_, rfl, L, rfl, ⟨_, SqL.of hL2⟩, ?_⟩
    refine for_it (walk_list (K := K) (a := L) (xs := Ts.map V.ref)) (fun i σ H' => ∃ y5 y6, σ = [some (.ref a), some (.str k.main), some (.str k.sub), some (.ref L), some (.ref fp), y5, y6] ∧ Same H1 H' ∧ H' fp = some (.lst (txs ((k.main.cps.toList ++ (47 :: k.sub.cps.toList)) :: (k.ps.take i).flatMap fun p => showP p.1.cps.toList p.2.cps.toList)))) ⟨none, none, rfl, s2, hfp⟩ (fun i σ H' _ p1 => let ⟨_, _, _, sm, _⟩ := p1; SqL.of (sm _ _ hL)) (fun i x σ X1 X2 hi hp1 hy => ?_) (fun σ X1 hp1 => ?_)
    · obtain ⟨rfl, hx⟩ := hy
      obtain ⟨y5, y6, rfl, sm, hd⟩ := hp1
      rw [hTl] at hi
      have hpi := List.getElem?_eq_getElem hi
      obtain ⟨T, hTi, hT⟩ := hp i _ hpi
      rw [List.getElem?_map, hTi] at hx
      injection hx with hx
      subst hx
      obtain ⟨p1, p2, p3, p4⟩ := ok.po _ (List.getElem_mem hi)
      refine ⟨T, _, rfl, SqT.of (sm _ _ hT), rfl, _, _, rfl, _, _, rfl, rfl, ?_⟩
      have hsz : (txs ((k.main.cps.toList ++ (47 :: k.sub.cps.toList)) :: (k.ps.take i).flatMap fun p => showP p.1.cps.toList p.2.cps.toList)).length ≤ 1001 * i + 1 := by
        rw [txs_len, List.length_cons]
        have := flat_len (l := k.ps.take i) (f := fun p => showP p.1.cps.toList p.2.cps.toList) (n := 1001) fun p hp => by
          have h1 := showP_len p.1.cps.toList p.2.cps.toList
          obtain ⟨_, _, h3, _⟩ := ok.po p (List.mem_of_mem_take hp)
          have := len_cps p.2
          omega
        rw [List.length_take] at this
        have h2 : 1001 * min i k.ps.length ≤ 1001 * i := Nat.mul_le_mul_left _ (Nat.min_le_left _ _)
        omega
      refine ⟨_, rfl, .inl ⟨rfl, _, SqL.of hd⟩, _, rfl, _, rfl, _, _, rfl, p1, p3, p4, fun X3 b s3 nb hb => ?_⟩
      refine ⟨fp, b, _, _, rfl, rfl, s3 _ _ hd, hb, ?_, ?_⟩
      · have h1 := showP_len (k.ps[i]).1.cps.toList (k.ps[i]).2.cps.toList
        have := len_cps (k.ps[i]).2
        rw [txs_len (showP _ _), sizeLine_eq]
        omega
      · refine ⟨_, _, rfl, same_set (sm.trans s3) nfp, ?_⟩
        rw [upd_same, take_more hpi, List.flatMap_append, ← txs_app, List.cons_append, List.flatMap_singleton]
    · obtain ⟨y5, y6, rfl, sm, hd⟩ := hp1
      rw [hTl, List.take_length] at hd
      have e2s : ("; " : Str) = mk [59, 32] := by decide +kernel
      refine ⟨⟨_, rfl⟩, _, rfl, ("; " : Str), fp, _, rfl, rfl, .inl (SqL.of hd), ?_, ?_⟩
      · have hall : ∀ x ∈ (k.main.cps.toList ++ (47 :: k.sub.cps.toList)) :: k.ps.flatMap (fun p => showP p.1.cps.toList p.2.cps.toList), x.length ≤ 3000 := fun x hx => by
          rcases List.mem_cons.mp hx with rfl | hx
          · rw [List.length_append, List.length_cons]
            omega
          · obtain ⟨p, hp, hx⟩ := List.mem_flatMap.mp hx
            obtain ⟨h1, _, h3, _⟩ := ok.po p hp
            have a1 := len_cps p.1
            have a2 := len_cps p.2
            have := showP_each (n := p.1.cps.toList) (v := p.2.cps.toList) (by omega) x hx
            omega
        have hcnt := flat_len (l := k.ps) (f := fun p => showP p.1.cps.toList p.2.cps.toList) (n := 26) fun p hp => by
          obtain ⟨_, _, h3, _⟩ := ok.po p hp
          have a2 := len_cps p.2
          exact showP_few (by omega)
        have hsum : ∀ ps : List (List Nat), (∀ x ∈ ps, x.length ≤ 3000) → ((ps.map mk).map (·.length)).sum ≤ 3000 * ps.length := fun ps => by
          induction ps with
          | nil => intro _; simp
          | cons a r ih =>
            intro h
            have h1 := ih fun x hx => h x (List.mem_cons_of_mem _ hx)
            have h2 := h a (List.mem_cons_self ..)
            rw [List.map_cons, List.map_cons, List.sum_cons, List.length_cons, mk_len, Nat.mul_succ]
            omega
        have h1 := hsum _ hall
        rw [List.length_cons] at h1
        have h2 : ("; " : Str).length = 2 := by decide +kernel
        rw [h2, List.length_map, List.length_cons]
        omega
      · rw [e2s, joinM]
        exact q _ (s1.trans sm)
end
end FL

namespace FL
open PySem PySem.Spec PyProof.Rows L2
/-! ### drawn kinds -/
theorem wdSign_ln {o : List Nat} (ho : ∀ c ∈ o, isSig c = true ∧ c ≠ 10) {l : List Nat} (h : ∀ c ∈ l, wdSign o c = true) : isLn l = true := by
  have key : ∀ c ∈ l, isSig c = true ∧ c ≠ 10 := fun c hc => by
    have := h c hc
    unfold wdSign isSml isFig at this
    simp only [Bool.or_eq_true, decide_eq_true_eq] at this
    rcases this with h1 | h1 | h1
    · exact ⟨by unfold isSig; rw [decide_eq_true (by omega : 32 ≤ c ∧ c ≤ 126), decide_eq_false (by omega : ¬ c = 37)]; simp, by omega⟩
    · exact ⟨by unfold isSig; rw [decide_eq_true (by omega : 32 ≤ c ∧ c ≤ 126), decide_eq_false (by omega : ¬ c = 37)]; simp, by omega⟩
    · exact ho c h1
  unfold isLn allSig
  refine Bool.and_eq_true_iff.mpr ⟨List.all_eq_true.mpr fun c hc => (key c hc).1, ?_⟩
  rw [decide_eq_false fun z => (key 10 z).2 rfl]
  rfl
theorem isWd_of {o : List Nat} (ho : ∀ c ∈ o, isSig c = true ∧ c ≠ 10) {c : Nat} {r : List Nat} (hc : isSml c = true) (hr : ∀ d ∈ r, wdSign o d = true) (hl : r.length ≤ 19) : isWd o (c :: r) = true := by
  have hall : ∀ d ∈ c :: r, wdSign o d = true := fun d hd => by
    rcases List.mem_cons.mp hd with rfl | hd
    · unfold wdSign
      rw [hc]
      rfl
    · exact hr d hd
  unfold isWd
  rw [wdSign_ln ho hall, decide_eq_true (by rw [List.length_cons]; omega), List.headD_cons, hc, List.all_eq_true.mpr hall]
  rfl
def IsMany (v : V) : Prop := ∃ n : Nat, v = .int (n : Nat) ∧ n ≤ 19
def IsManyV (v : V) : Prop := ∃ n : Nat, v = .int (n : Nat) ∧ n ≤ 139
def TITL : Str := "abyz059-"
theorem titl_ok : ∀ c ∈ TITL.cps.toList, wdSign [45] c = true := by decide +kernel
theorem titl_len : TITL.length = 8 := by decide +kernel
section
variable {P : Program} {w : World} {K : PySem.W.Frag} {mg : Str → Option Value} {base : Heap}
def spTitle : Sp := fun vs H Q _ => ∃ (a : Addr) (f g : Str), vs = [.ref a, .str f, .str g] ∧ Src H a ∧ 1 ≤ f.length ∧ f.length ≤ 10 ∧ (∀ c ∈ f.cps.toList, isSml c = true) ∧ g.length ≤ 1 ∧ (∀ c ∈ g.cps.toList, c = 43) ∧
  ∀ H' z, Drawn a H H' → z.length ≤ 20 → isWd (45 :: g.cps.toList) z.cps.toList = true → z.cps.toList.headD 0 ∈ f.cps.toList → Q (.str z) H'
theorem scLawTitle : FnScope ["_law_source_here", "_law_first", "_law_signs_here", "_law_many"] ["_law_source_here", "_law_first", "_law_signs_here"] (defScope sLawTitle) := ⟨rfl, rfl, rfl, by decide +kernel, rfl, by decide +kernel, by decide +kernel⟩
theorem r_title (A : FnAt K mg "_law_title" sLawTitle) (RN : Ready P w K mg base 2 "_law_next" ["_law_source_here", "_law_many"] spNextM) (RS : Ready P w K mg base 3 "_law_signs" ["_law_source_here", "_law_signs_here", "_law_many"] spSigns) :
    Ready P w K mg base 4 "_law_title" ["_law_source_here", "_law_first", "_law_signs_here"] spTitle := by
  obtain ⟨f1, fd1, g1, k1, b1, G1⟩ := RN
  obtain ⟨f2, fd2, g2, k2, b2, G2⟩ := RS
  refine ready_of A (fun _ _ _ _ _ _ us hl => match us, hl with | [_, _, _], _ => rfl) fun f fd F => ?_
  refine F.ok scLawTitle (fun vs H Q E h => ?_) (fun cdv A outer s H vs Q E hr h => ?_)
  · obtain ⟨a, f, g, rfl, _⟩ := h
    rfl
  · obtain ⟨a, f0, g0, rfl, hS, hf1, hf2, hf3, hg1, hg2, q⟩ := h
    have sc := scLawTitle
    refine ⟨_, pss_cons (ps_set (i := 3) sc.nd rfl (.inl rfl) (pe_ix ix_list (pe_lst (pa_cons pe_int (pa_cons pe_int (pa_cons pe_int (pa_cons pe_int (pa_cons pe_int pa_nil)))))) (pe_call G1 (hr.mono (by decide)) (by rfl) g1 k1 b1 .nil pass0 (pa_cons (pv 0) (pa_cons pe_int pa_nil))) (fun _ _ => rfl)))
      (pss_one (ps_ret (pe_op op_add_str (pe_call G2 (hr.mono (by decide)) (by rfl) g2 k2 b2 .nil pass0 (pa_cons (pv 0) (pa_cons (pv 1) (pa_cons pe_int pa_nil)))) (pe_call G2 (hr.mono (by decide)) (by rfl) g2 k2 b2 .nil pass0 (pa_cons (pv 0) (pa_cons (pe_op op_add_str pe_str (pv 2)) (pa_cons (pv 3) pa_nil))))))), ?_⟩
    refine ⟨(by show 5 ≤ sizeLine; decide), fun pl npl => ?_⟩
    have hpl : (upd H pl (.lst [.int 0, .int 2, .int 7, .int 18, .int 19])) pl = some (.lst [.int 0, .int 2, .int 7, .int 18, .int 19]) := upd_same
    have wpl := hS.neR npl
    have d1 := (Drawn.refl hS).same (same_new (o := .lst [.int 0, .int 2, .int 7, .int 18, .int 19]) npl)
    refine ⟨_, rfl, a, 5, rfl, by decide, by decide, d1.src, fun r H2 hr2 d2 => ?_⟩
    obtain ⟨v1, hv1, m, rfl, hm⟩ := pickPR (p := IsMany) (xs := [.int 0, .int 2, .int 7, .int 18, .int 19]) (r := r) hr2 (fun v hv => by
      simp only [List.mem_cons, List.not_mem_nil, or_false] at hv
      rcases hv with rfl | rfl | rfl | rfl | rfl
      · exact ⟨0, rfl, by decide⟩
      · exact ⟨2, rfl, by decide⟩
      · exact ⟨7, rfl, by decide⟩
      · exact ⟨18, rfl, by decide⟩
      · exact ⟨19, rfl, by decide⟩)
    refine ⟨pl, _, _, _, rfl, rfl, SqL.of (d2.old _ _ wpl hpl), hv1, ?_⟩
    have d12 := d1.trans d2
    refine ⟨_, rfl, _, rfl, a, f0, 1, rfl, hf1, by omega, by decide, d12.src, fun t H3 ht htl d3 => ?_⟩
    have d13 := d12.trans d3
    have hTl := titl_len
    refine ⟨_, rfl, _, rfl, _, _, rfl, rfl, by rw [sizeLine_eq]; have : ("abyz059-" : Str).length = 8 := titl_len; omega, _, rfl, a, TITL ++ g0, m, rfl, by rw [len_append]; omega, by rw [len_append]; omega, by omega, d13.src, fun u H4 hu hul d4 => ?_⟩
    refine ⟨_, _, rfl, rfl, by rw [htl, hul, sizeLine_eq]; omega, ?_⟩
    have htc := len_cps t
    have huc := len_cps u
    have hap : (t ++ u).cps.toList = t.cps.toList ++ u.cps.toList := TL.tl_append t u
    obtain ⟨c, hc⟩ : ∃ c, t.cps.toList = [c] := by
      match h : t.cps.toList, htc with
      | [c], _ => exact ⟨c, rfl⟩
      | [], h2 => simp at h2; omega
      | _ :: _ :: _, h2 => simp at h2; omega
    have hcf : c ∈ f0.cps.toList := ht c (by rw [hc]; exact List.mem_singleton.mpr rfl)
    rw [hc, List.singleton_append] at hap
    refine q _ _ (d13.trans d4) (by rw [len_append]; omega) ?_ ?_
    · rw [hap]
      refine isWd_of (fun c hc => ?_) (hf3 c hcf) (fun d hd => ?_) (by omega)
      · rcases List.mem_cons.mp hc with rfl | hc
        · decide
        · rw [hg2 c hc]
          decide
      · have := hu d hd
        rw [show (TITL ++ g0).cps.toList = TITL.cps.toList ++ g0.cps.toList from TL.tl_append TITL g0] at this
        unfold wdSign
        rcases List.mem_append.mp this with h | h
        · have := titl_ok d h
          unfold wdSign at this
          simp only [Bool.or_eq_true, decide_eq_true_eq] at this ⊢
          rcases this with h1 | h1 | h1
          · exact .inl h1
          · exact .inr (.inl h1)
          · exact .inr (.inr (List.mem_cons.mpr (.inl (List.mem_singleton.mp h1))))
        · simp only [Bool.or_eq_true, decide_eq_true_eq]
          exact .inr (.inr (List.mem_cons_of_mem _ h))
    · rw [hap]
      exact hcf
/-! its pairs, as the draws go on -/
theorem PairsAt.same {H H' : Hp} {Ts : List Addr} {ps : List (Str × Str)} (h : PairsAt H Ts ps) (s : Same H H') : PairsAt H' Ts ps := fun i p hp => let ⟨T, a, b⟩ := h i p hp; ⟨T, a, s _ _ b⟩
theorem PairsAt.draw {a : Addr} {H H' : Hp} {Ts : List Addr} {ps : List (Str × Str)} (h : PairsAt H Ts ps) (hs : Src H a) (d : Drawn a H H') : PairsAt H' Ts ps := fun i p hp => by
  obtain ⟨T, e, b⟩ := h i p hp
  refine ⟨T, e, d.old T _ (fun z => ?_) b⟩
  obtain ⟨x, y, u, hx⟩ := hs
  rw [z, hx] at b
  cases b
theorem PairsAt.set {fp : Addr} {H : Hp} {xs ys : List V} {Ts : List Addr} {ps : List (Str × Str)} (h : PairsAt H Ts ps) (hf : H fp = some (.lst xs)) : PairsAt (upd H fp (.lst ys)) Ts ps := fun i p hp => by
  obtain ⟨T, e, b⟩ := h i p hp
  refine ⟨T, e, ?_⟩
  rw [upd_ne fun z => ?_]
  · exact b
  · rw [z, hf] at b
    cases b
theorem PairsAt.snoc {H : Hp} {Ts : List Addr} {ps : List (Str × Str)} (h : PairsAt H Ts ps) (hl : Ts.length = ps.length) {T : Addr} {p : Str × Str} (hT : H T = some (.tup [.str p.1, .str p.2])) : PairsAt H (Ts ++ [T]) (ps ++ [p]) := fun i x hx => by
  by_cases hi : i < ps.length
  · rw [List.getElem?_append_left hi] at hx
    obtain ⟨T2, e, b⟩ := h i x hx
    exact ⟨T2, by rw [List.getElem?_append_left (by omega)]; exact e, b⟩
  · rw [List.getElem?_append_right (by omega)] at hx
    have h0 : i - ps.length = 0 := by
      cases hd : i - ps.length with
      | zero => rfl
      | succ n =>
        rw [hd] at hx
        cases hx
    rw [h0] at hx
    have hx : p = x := Option.some.inj hx
    subst hx
    exact ⟨T, by rw [List.getElem?_append_right (by omega), show i - Ts.length = 0 by omega]; rfl, hT⟩
def SmallP (p : Str × Str) : Prop := p.1.length ≤ 20 ∧ p.2.length ≤ 540
structure SmallKd (k : Kd) : Prop where
  m : k.main.length ≤ 20
  s : k.sub.length ≤ 20
  p : ∀ p ∈ k.ps, SmallP p
/-- the j-th name begins with the j-th letter -/
def Firsts (ps : List (Str × Str)) : Prop := ∀ (j : Nat) (p : Str × Str), ps[j]? = some p → p.1.cps.toList.headD 0 = 97 + j
theorem Firsts.nd {ps : List (Str × Str)} (h : Firsts ps) : (ps.map (·.1)).Nodup := by
  refine List.pairwise_iff_getElem.mpr fun i j hi hj hij e => ?_
  rw [List.length_map] at hi hj
  rw [List.getElem_map, List.getElem_map] at e
  have h1 := h i _ (List.getElem?_eq_getElem hi)
  have h2 := h j _ (List.getElem?_eq_getElem hj)
  rw [e, h2] at h1
  omega
def SGNS : List Str := ["abZ9./=?'_", "ab \"\\;=*()", "aB9 "]
theorem sgns_ok : ∀ z ∈ SGNS, (1 ≤ z.length ∧ z.length ≤ 100) ∧ isLn z.cps.toList = true := by decide +kernel
def IsSgn (v : V) : Prop := ∃ z : Str, v = .str z ∧ (1 ≤ z.length ∧ z.length ≤ 100) ∧ isLn z.cps.toList = true
def ABCH : Str := "abcdefgh"
theorem abch_ok : ∀ i, i < 8 → ABCH.cps[i]? = some (97 + i) := by decide +kernel
theorem small_ok : ∀ i, i < 8 → isSml (97 + i) = true := by decide
def spKindD : Sp := fun vs H Q _ => ∃ (a : Addr) (m : Nat), vs = [.ref a, .int (m : Nat)] ∧ Src H a ∧ m ≤ 7 ∧ ∀ H' v kd, Drawn a H H' → H v = none → KdAt H' v kd → OkKd kd → kd.ps.length ≤ m → SmallKd kd → Q (.ref v) H'
theorem scLawKind : FnScope ["_law_source_here", "_law_most", "_law_pairs", "_law_k", "_law_name", "_law_signs_here", "_law_many", "_law_one", "_law_value"] ["_law_source_here", "_law_most"] (defScope sLawKind) := ⟨rfl, rfl, rfl, by decide +kernel, rfl, by decide +kernel, by decide +kernel⟩
theorem r_kindD (A : FnAt K mg "_law_kind" sLawKind) (RN : Ready P w K mg base 2 "_law_next" ["_law_source_here", "_law_many"] spNextM) (RT : Ready P w K mg base 4 "_law_title" ["_law_source_here", "_law_first", "_law_signs_here"] spTitle) (RS : Ready P w K mg base 3 "_law_signs" ["_law_source_here", "_law_signs_here", "_law_many"] spSigns)
    (m_len : mg "len" = none) (m_range : mg "range" = none) (m_sum : mg "sum" = none) : Ready P w K mg base 5 "_law_kind" ["_law_source_here", "_law_most"] spKindD := by
  obtain ⟨f1, fd1, g1, k1, b1, G1⟩ := RN
  obtain ⟨f2, fd2, g2, k2, b2, G2⟩ := RT
  obtain ⟨f3, fd3, g3, k3, b3, G3⟩ := RS
  refine ready_of A (fun _ _ _ _ _ _ us hl => match us, hl with | [_, _], _ => rfl) fun f fd F => ?_
  refine F.ok scLawKind (fun vs H Q E h => ?_) (fun cdv A outer s H vs Q E hr h => ?_)
  · obtain ⟨a, m, rfl, _⟩ := h
    rfl
  · obtain ⟨a, m, rfl, hS, hm, q⟩ := h
    have sc := scLawKind
    refine ⟨_, pss_cons (ps_set (i := 2) sc.nd rfl (.inl rfl) (pe_lst pa_nil))
      (pss_cons (ps_for PassesOwn.never rfl (pi_range1 (by rfl) m_range (pa_cons (pe_call G1 (hr.mono (by decide)) (by rfl) g1 k1 b1 .nil pass0 (pa_cons (pv 0) (pa_cons (pe_op op_add (pv 1) pe_int) pa_nil))) pa_nil)) (pg_name (i := 3) sc.nd rfl (.inl rfl))
        (pss_cons (ps_set (i := 4) sc.nd rfl (.inl rfl) (pe_call G2 (hr.mono (by decide)) (by rfl) g2 k2 b2 .nil pass0 (pa_cons (pv 0) (pa_cons (pe_item_str pe_str (pv 3) (fun _ _ => rfl)) (pa_cons pe_str pa_nil)))))
          (pss_cons (ps_set (i := 5) sc.nd rfl (.inl rfl) (pe_ix ix_list (pe_lst (pa_cons pe_str (pa_cons pe_str (pa_cons pe_str pa_nil)))) (pe_call G1 (hr.mono (by decide)) (by rfl) g1 k1 b1 .nil pass0 (pa_cons (pv 0) (pa_cons pe_int pa_nil))) (fun _ _ => rfl)))
          (pss_cons (ps_set (i := 6) sc.nd rfl (.inl rfl) (pe_ix ix_list (pe_lst (pa_cons pe_int (pa_cons pe_int (pa_cons pe_int (pa_cons pe_int (pa_cons pe_int (pa_cons pe_int (pa_cons pe_int (pa_cons pe_int (pa_cons pe_int (pa_cons (pe_call G1 (hr.mono (by decide)) (by rfl) g1 k1 b1 .nil pass0 (pa_cons (pv 0) (pa_cons pe_int pa_nil))) pa_nil))))))))))) (pe_call G1 (hr.mono (by decide)) (by rfl) g1 k1 b1 .nil pass0 (pa_cons (pv 0) (pa_cons pe_int pa_nil))) (fun _ _ => rfl)))
          (pss_cons (ps_if (PW.pt (pw_and (pt_cmpR op_eq (pe_call G1 (hr.mono (by decide)) (by rfl) g1 k1 b1 .nil pass0 (pa_cons (pv 0) (pa_cons pe_int pa_nil))) pe_int (nomark _)) (pw_and1 (pt_cmpR op_lt (pe_callB (cr_sum rfl) (by rfl) m_sum (by decide +kernel) (pa_cons (pe_lc (own := [("_law_one", 7), ("_law_value", 8)]) (g := gTup K 2 (gCons (gName 7) (gCons (gName 8) gNil))) (tt := tYes) (te := (tCB _ (tCons (tVar 8) tNil))) (by rfl) sc.nd (pi_list (pv 2)) (blkOk_by (own := [("_law_one", 7), ("_law_value", 8)]) (N := ["_law_source_here", "_law_most", "_law_pairs", "_law_k", "_law_name", "_law_signs_here", "_law_many", "_law_one", "_law_value"]) (sc := defScope sLawKind) (by decide +kernel)) (fun _ _ _ _ _ => (pg_tup rfl (pgs_cons (pg_name (i := 7) sc.nd rfl (.inl rfl)) (pgs_cons (pg_name (i := 8) sc.nd rfl (.inl rfl)) pgs_nil)))) (fun _ _ _ _ _ => pts_nil) (fun _ _ _ _ _ => (pe_callB call_len_str (by rfl) m_len PySem.boot_len (pa_cons (pv 8) pa_nil)))) pa_nil)) pe_int (nomark _)))))
            (pss_one (ps_set (i := 6) sc.nd rfl (.inl rfl) (pe_op op_add pe_int (pe_call G1 (hr.mono (by decide)) (by rfl) g1 k1 b1 .nil pass0 (pa_cons (pv 0) (pa_cons pe_int pa_nil))))))
            pss_nil)
          (pss_one (ps_expr (pe_bm PySem.F.plainAttrs_list PySem.F.slot_list_append PySem.F.type_list_append mt_append (pv 2) (pa_cons (pe_tup (pa_cons (pv 4) (pa_cons (pe_call G3 (hr.mono (by decide)) (by rfl) g3 k3 b3 .nil pass0 (pa_cons (pv 0) (pa_cons (pv 5) (pa_cons (pv 6) pa_nil)))) pa_nil))) pa_nil)))))))))
      (pss_one (ps_ret (pe_tup (pa_cons (pe_call G2 (hr.mono (by decide)) (by rfl) g2 k2 b2 .nil pass0 (pa_cons (pv 0) (pa_cons pe_str (pa_cons pe_str pa_nil)))) (pa_cons (pe_call G2 (hr.mono (by decide)) (by rfl) g2 k2 b2 .nil pass0 (pa_cons (pv 0) (pa_cons pe_str (pa_cons pe_str pa_nil)))) (pa_cons (pv 2) pa_nil))))))), ?_⟩
    refine ⟨(by show 0 ≤ sizeLine; decide), fun fp nfp => ?_⟩
    have s1 : DR a H fp (.lst (([] : List Addr).map V.ref)) (upd H fp (.lst [])) := ⟨(Drawn.refl hS).same (same_new nfp), upd_same, hS.neR nfp, nfp⟩
    generalize upd H fp (.lst []) = H1 at s1 ⊢
    refine ⟨_, rfl, _, rfl, _, _, rfl, rfl, a, m + 1, rfl, by omega, by omega, s1.d.src, fun N H2 hN d2 => ⟨(N : Int), rfl, by omega, by omega, ?_⟩⟩
    refine for_it walk_range (fun i σ H' => ∃ (Ts : List Addr) (ps : List (Str × Str)) (y3 y4 y5 y6 y7 y8 : Option V), σ = [some (.ref a), some (.int (m : Nat)), some (.ref fp), y3, y4, y5, y6, y7, y8] ∧ DR a H fp (.lst (Ts.map V.ref)) H' ∧ Ts.length = i ∧ ps.length = i ∧ PairsAt H' Ts ps ∧ (∀ p ∈ ps, OkP p ∧ SmallP p) ∧ Firsts ps)
      ⟨[], [], none, none, none, none, none, none, rfl, s1.draw d2, rfl, rfl, (fun i p h => by simp at h), (fun p h => by cases h), (fun i p h => by simp at h)⟩ (fun _ _ _ _ _ => trivial) (fun i x σ H6 H7 hi hp hy => ?_) (fun σ H6 hp => ?_)
    · obtain ⟨Ts, ps, y3, y4, y5, y6, y7, y8, rfl, t1, hT1, hT2, hPA, hok, hfi⟩ := hp
      obtain ⟨rfl, hxv⟩ := hy
      have hi : i < ((N : Int)).toNat := hi
      have hx' : x = .int (i : Nat) := by
        rw [hxv]
        exact congrArg V.int (Int.zero_add _)
      subst hx'
      have hi8 : i < 8 := by omega
      have hab := abch_ok i hi8
      have hABl : ABCH.length = 8 := by decide +kernel
      have hE0 : ∀ c ∈ ("" : Str).cps.toList, c = 43 := by decide +kernel
      refine ⟨_, rfl, _, rfl, ABCH, _, _, rfl, rfl, by omega, by omega, by omega, by rw [Int.toNat_natCast]; exact hab, ?_⟩
      refine ⟨a, ⟨#[97 + i]⟩, _, rfl, t1.d.src, Nat.le_refl 1, by show 1 ≤ 10; decide, (fun c hc => by rw [show c = 97 + i from by simpa using hc]; exact small_ok i hi8), by decide +kernel, hE0, fun H8 nm d8 hnl hnw hnh => ?_⟩
      have e0 : ("" : Str).cps.toList = [] := by decide +kernel
      rw [e0] at hnw
      have hnh : nm.cps.toList.headD 0 = 97 + i := by simpa using hnh
      have t2 := t1.draw d8
      have p2 := hPA.draw t1.d.src d8
      refine ⟨(by show 3 ≤ sizeLine; decide), fun q1 n1 => ?_⟩
      have hq1 : (upd H8 q1 (.lst (SGNS.map V.str))) q1 = some (.lst (SGNS.map V.str)) := upd_same
      have t3 := t2.same (same_new (o := .lst (SGNS.map V.str)) n1)
      have p3 := p2.same (same_new (o := .lst (SGNS.map V.str)) n1)
      have w1 := t2.d.src.neR n1
      refine ⟨_, rfl, a, 3, rfl, by decide, by decide, t3.d.src, fun r4 H9 hr4 d9 => ?_⟩
      obtain ⟨v1, hv1, sg, rfl, ⟨hsg1, hsg2⟩, hsg3⟩ := pickPR (p := IsSgn) (xs := SGNS.map V.str) (r := r4) hr4 (fun v hv => by
        obtain ⟨y, hy, rfl⟩ := List.mem_map.mp hv
        exact ⟨y, rfl, sgns_ok y hy⟩)
      refine ⟨q1, _, _, _, rfl, rfl, SqL.of (d9.old _ _ w1 hq1), hv1, ?_⟩
      have t4 := t3.draw d9
      have p4 := p3.draw t3.d.src d9
      refine ⟨_, rfl, a, 140, rfl, by decide, by decide, t4.d.src, fun rv H10 hrv d10 => ?_⟩
      have t5 := t4.draw d10
      have p5 := p4.draw t4.d.src d10
      refine ⟨(by show 10 ≤ sizeLine; decide), fun q2 n2 => ?_⟩
      have w2 := t5.d.src.neR n2
      have hq2 : (upd H10 q2 (.lst [.int 0, .int 1, .int 5, .int 39, .int 40, .int 41, .int 79, .int 80, .int 81, .int (rv : Nat)])) q2 = some (.lst [.int 0, .int 1, .int 5, .int 39, .int 40, .int 41, .int 79, .int 80, .int 81, .int (rv : Nat)]) := upd_same
      have t6 := t5.same (same_new (o := .lst [.int 0, .int 1, .int 5, .int 39, .int 40, .int 41, .int 79, .int 80, .int 81, .int (rv : Nat)]) n2)
      have p6 := p5.same (same_new (o := .lst [.int 0, .int 1, .int 5, .int 39, .int 40, .int 41, .int 79, .int 80, .int 81, .int (rv : Nat)]) n2)
      refine ⟨_, rfl, a, 10, rfl, by decide, by decide, t6.d.src, fun r6 H11 hr6 d11 => ?_⟩
      obtain ⟨v2, hv2, mn, rfl, hmn⟩ := pickPR (p := IsManyV) (xs := [.int 0, .int 1, .int 5, .int 39, .int 40, .int 41, .int 79, .int 80, .int 81, .int (rv : Nat)]) (r := r6) hr6 (fun v hv => by
        simp only [List.mem_cons, List.not_mem_nil, or_false] at hv
        rcases hv with rfl | rfl | rfl | rfl | rfl | rfl | rfl | rfl | rfl | rfl
        · exact ⟨0, rfl, by decide⟩
        · exact ⟨1, rfl, by decide⟩
        · exact ⟨5, rfl, by decide⟩
        · exact ⟨39, rfl, by decide⟩
        · exact ⟨40, rfl, by decide⟩
        · exact ⟨41, rfl, by decide⟩
        · exact ⟨79, rfl, by decide⟩
        · exact ⟨80, rfl, by decide⟩
        · exact ⟨81, rfl, by decide⟩
        · exact ⟨rv, rfl, by omega⟩)
      refine ⟨q2, _, _, _, rfl, rfl, SqL.of (d11.old _ _ w2 hq2), hv2, ?_⟩
      have t7 := t6.draw d11
      have p7 := p6.draw t6.d.src d11
      refine ⟨_, rfl, a, 24, rfl, by decide, by decide, t7.d.src, fun rt H12 hrt d12 => ?_⟩
      have t8 := t7.draw d12
      have p8 := p7.draw t7.d.src d12
      refine ⟨rfl, _, rfl, ?_⟩
      refine and_key (fun σ' H' => ∃ (mn : Nat) (y7 y8 : Option V), σ' = [some (.ref a), some (.int (m : Nat)), some (.ref fp), some (.int (i : Nat)), some (.str nm), some (.str sg), some (.int (mn : Nat)), y7, y8] ∧ mn ≤ 540 ∧ DR a H fp (.lst (Ts.map V.ref)) H' ∧ PairsAt H' Ts ps) (fun σ' H' hJ => ?_) (fun key h => ?_) (fun h => ⟨mn, _, _, rfl, by omega, t8, p8⟩)
      · obtain ⟨mn, z7, z8, rfl, hmn, t9, p9⟩ := hJ
        refine ⟨_, rfl, .inl ⟨rfl, _, SqL.of t9.f⟩, _, rfl, _, rfl, _, rfl, _, rfl, a, sg, mn, rfl, hsg1, by omega, by omega, t9.d.src, fun u Ha hu hul da => ?_⟩
        have t10 := t9.draw da
        have p10 := p9.draw t9.d.src da
        refine ⟨(by show 2 ≤ sizeLine; decide), fun T nT => ?_⟩
        have hT : (upd Ha T (.tup [.str nm, .str u])) T = some (.tup [.str nm, .str u]) := upd_same
        have t11 := t10.same (same_new (o := .tup [.str nm, .str u]) nT)
        have p11 := p10.same (same_new (o := .tup [.str nm, .str u]) nT)
        have wT := (t10.free nT).2.2
        generalize upd Ha T (.tup [.str nm, .str u]) = Hb at hT t11 p11 ⊢
        refine ⟨fp, _, _, rfl, rfl, t11.f, by rw [List.length_map]; exact szl (by omega), ?_⟩
        refine ⟨Ts ++ [T], ps ++ [(nm, u)], _, _, _, _, _, _, rfl, ?_, by rw [List.length_append, hT1]; rfl, by rw [List.length_append, hT2]; rfl, ?_, fun x hx => ?_, fun j x hx => ?_⟩
        · have := t11.set (x := .lst (Ts.map V.ref ++ [V.ref T]))
          rw [List.map_append]
          exact this
        · refine PairsAt.snoc (p11.set t11.f) (by omega) ?_
          rw [upd_ne wT]
          exact hT
        · rcases List.mem_append.mp hx with h | h
          · exact hok x h
          · rw [List.mem_singleton.mp h]
            exact ⟨⟨by show nm.length ≤ 1000; omega, hnw, by show u.length ≤ 1000; omega, isLn_sub hu hsg3⟩, hnl, by show u.length ≤ 540; omega⟩
        · by_cases hj : j < ps.length
          · rw [List.getElem?_append_left hj] at hx
            exact hfi j x hx
          · rw [List.getElem?_append_right (by omega)] at hx
            have h0 : j - ps.length = 0 := by
              cases hd : j - ps.length with
              | zero => rfl
              | succ n =>
                rw [hd] at hx
                cases hx
            rw [h0] at hx
            have hx : (nm, u) = x := Option.some.inj hx
            subst hx
            show nm.cps.toList.headD 0 = 97 + j
            rw [hnh]
            omega
      · have hTl : (Ts.map V.ref).length = ps.length := by rw [List.length_map]; omega
        refine ⟨_, rfl, fp, rfl, ⟨_, SqL.of t8.f⟩, fun D hD => ?_⟩
        refine lc_it (walk_list (K := K) (a := fp) (xs := Ts.map V.ref)) (fun j H' => Same H12 H' ∧ H' D = some (.lst ((ps.take j).map fun p => V.int (p.2.length : Nat)))) ⟨same_new hD, upd_same⟩ (fun j H' _ p1 => SqL.of (p1.1 _ _ t8.f)) (fun j x X1 X2 hj hp1 hy => ?_) (fun X1 hp1 => ?_)
        · obtain ⟨rfl, hx⟩ := hy
          obtain ⟨sm, hd⟩ := hp1
          rw [hTl] at hj
          have hpi := List.getElem?_eq_getElem hj
          obtain ⟨T, hTi, hT⟩ := p8 j _ hpi
          rw [List.getElem?_map, hTi] at hx
          injection hx with hx
          subst hx
          have h2 := (hok _ (List.getElem_mem hj)).2.2
          refine ⟨T, _, rfl, SqT.of (sm _ _ hT), rfl, _, _, rfl, _, _, rfl, rfl, rfl, ?_⟩
          unfold tYes
          refine iteT ⟨_, rfl, _, rfl, by rw [sizeLine_eq]; omega, _, hd, ?_, same_set sm hD, ?_⟩
          · rw [List.length_map, List.length_take]
            exact szl (by omega)
          · rw [upd_same, take_more hpi, List.map_append]
            rfl
        obtain ⟨sm, hd⟩ := hp1
        refine ⟨D, (ps.take (Ts.map V.ref).length).map fun p => ((p.2.length : Nat) : Int), rfl, SqL.of (by rw [List.map_map]; exact hd), _, _, rfl, rfl, _, rfl, ?_⟩
        have t9 := t8.same sm
        have p9 := p8.same sm
        refine ite_key _ key (fun key h => ?_) (fun h => ⟨mn, _, _, rfl, by omega, t9, p9⟩)
        refine ⟨_, rfl, a, 130, rfl, by decide, by decide, t9.d.src, fun r7 Ha hr7 da => ⟨_, _, rfl, rfl, ?_⟩⟩
        exact key _ _ ⟨400 + r7, _, _, rfl, by omega, t9.draw da, p9.draw t9.d.src da⟩
    · obtain ⟨Ts, ps, y3, y4, y5, y6, y7, y8, rfl, t1, hT1, hT2, hPA, hok, hfi⟩ := hp
      have hplus : ("+" : Str).length ≤ 1 ∧ ∀ c ∈ ("+" : Str).cps.toList, c = 43 := by decide +kernel
      have hp43 : ("+" : Str).cps.toList = [43] := by decide +kernel
      have h1 : (1 ≤ ("abdt" : Str).length ∧ ("abdt" : Str).length ≤ 10) ∧ ∀ c ∈ ("abdt" : Str).cps.toList, isSml c = true := by decide +kernel
      have h2 : (1 ≤ ("abxy" : Str).length ∧ ("abxy" : Str).length ≤ 10) ∧ ∀ c ∈ ("abxy" : Str).cps.toList, isSml c = true := by decide +kernel
      refine ⟨_, rfl, a, _, _, rfl, t1.d.src, h1.1.1, h1.1.2, h1.2, hplus.1, hplus.2, fun H8 x1 d8 l1 w1 _ => ?_⟩
      have t2 := t1.draw d8
      have p2 := hPA.draw t1.d.src d8
      refine ⟨_, rfl, a, _, _, rfl, t2.d.src, h2.1.1, h2.1.2, h2.2, hplus.1, hplus.2, fun H9 x2 d9 l2 w2 _ => ?_⟩
      have t3 := t2.draw d9
      have p3 := p2.draw t2.d.src d9
      rw [hp43] at w1 w2
      refine ⟨_, rfl, (by show 3 ≤ sizeLine; decide), fun v nv => ?_⟩
      have s4 : Same H9 (upd H9 v (.tup [.str x1, .str x2, .ref fp])) := same_new nv
      have t4 := t3.same s4
      refine q _ v ⟨x1, x2, ps⟩ t4.d (t3.free nv).1 ⟨fp, Ts, upd_same, t4.f, by show Ts.length = ps.length; omega, p3.same s4⟩ ⟨by show x1.length ≤ 1000; omega, by show x2.length ≤ 1000; omega, w1, w2, by show ps.length ≤ 100; omega, fun p hp => (hok p hp).1, hfi.nd⟩ (by show ps.length ≤ m; omega) ⟨l1, l2, fun p hp => (hok p hp).2⟩
end
end FL

namespace FL
open PySem PySem.Spec PyProof.Rows L2
/-! ### texts by the law: as they stand, or between quotes -/
theorem isAtm_big {c : Nat} (h : 128 ≤ c) : isAtm c = false := by
  have h1 : ∀ d ∈ atomSigns, d < 128 := by decide +kernel
  unfold isAtm isLet isFig
  rw [decide_eq_false (by omega : ¬ (97 ≤ c ∧ c ≤ 122)), decide_eq_false (by omega : ¬ (65 ≤ c ∧ c ≤ 90)), decide_eq_false (by omega : ¬ (48 ≤ c ∧ c ≤ 57)), decide_eq_false (fun h2 => by have := h1 c h2; omega)]
  rfl
def lawAtoms : Str := "!#$&'*+-./=?^_`{|}~0123456789abcdefghijklmnopqrstuvwxyzABCDEFGHIJKLMNOPQRSTUVWXYZ"
theorem lawAtoms_is (c : Nat) : decide (c ∈ lawAtoms.cps.toList) = isAtm c := by
  by_cases h : c < 128
  · have : ∀ c < 128, decide (c ∈ lawAtoms.cps.toList) = isAtm c := by decide +kernel
    exact this c h
  · have h1 : ∀ d ∈ lawAtoms.cps.toList, d < 128 := by decide +kernel
    rw [isAtm_big (by omega), decide_eq_false (fun h2 => h (h1 c h2))]
theorem takeWhile_all {p : Nat → Bool} : ∀ {l : List Nat}, (l.takeWhile p).length = l.length ↔ l.all p = true
  | [] => by simp
  | c :: r => by
    have ih := takeWhile_all (p := p) (l := r)
    cases h : p c with
    | true =>
      rw [List.takeWhile_cons, h, List.all_cons, h, Bool.true_and, ← ih]
      simp
    | false =>
      rw [List.takeWhile_cons, h, List.all_cons, h]
      simp
theorem quotedL_all (l : List Nat) : quotedL l = if l ≠ [] ∧ l.all isAtm = true then l else 34 :: (esc l ++ [34]) := by
  unfold quotedL
  have e : (atomEnd l 0 = l.length) ↔ l.all isAtm = true := by
    unfold atomEnd
    rw [List.drop_zero, Nat.zero_add]
    exact takeWhile_all
  by_cases h : l ≠ [] ∧ l.all isAtm = true
  · rw [if_pos h, if_pos ⟨h.1, e.mpr h.2⟩]
  · rw [if_neg h, if_neg (fun z => h ⟨z.1, e.mp z.2⟩)]
theorem esc_snoc (l : List Nat) (c : Nat) : esc (l ++ [c]) = esc l ++ (if c = 92 ∨ c = 34 then [92, c] else [c]) := by
  unfold esc
  rw [List.flatMap_append]
  simp
section
variable {P : Program} {w : World} {K : PySem.W.Frag} {mg : Str → Option Value} {base : Heap}
def spIsAtomL : Sp := fun vs H Q _ => ∃ z : Str, vs = [.str z] ∧ z.length ≤ 1000 ∧ (∀ c ∈ z.cps.toList, c < 128) ∧ ∀ H', Same H H' → Q (.bl (decide (z.cps.toList ≠ [] ∧ z.cps.toList.all isAtm = true))) H'
theorem scLawIsAtom : FnScope ["_law_text", "_law_signs_here", "_law_sign"] ["_law_text"] (defScope sLawIsAtom) := ⟨rfl, rfl, rfl, by decide +kernel, rfl, by decide +kernel, by decide +kernel⟩
theorem r_is_atomL (A : FnAt K mg "_law_is_atom" sLawIsAtom) : Ready P w K mg base 1 "_law_is_atom" ["_law_text"] spIsAtomL := by
  refine ready_of A (fun _ _ _ _ _ _ us hl => match us, hl with | [_], _ => rfl) fun f fd F => ?_
  refine F.ok scLawIsAtom (fun vs H Q E h => ?_) (fun cdv A outer s H vs Q E hr h => ?_)
  · obtain ⟨z, rfl, _⟩ := h
    rfl
  · obtain ⟨z, rfl, hz, hc, q⟩ := h
    have sc := scLawIsAtom
    refine ⟨_, pss_cons (ps_set (i := 1) sc.nd rfl (.inr rfl) pe_str)
      (pss_one (ps_ret (pe_and (pe_cmpR op_ne (pv 0) pe_str (nomark _)) (pe_one (pe_cmpR (op_eqD hr.units) (pe_lc (own := [("_law_sign", 2)]) (g := gName 2) (te := (tVar 2)) (by rfl) sc.nd (pi_str (pv 0)) (blkOk_by (own := [("_law_sign", 2)]) (N := ["_law_text", "_law_signs_here", "_law_sign"]) (sc := defScope sLawIsAtom) (by decide +kernel)) (fun _ _ _ _ _ => (pg_name (i := 2) sc.nd rfl (.inl rfl))) (fun _ _ _ _ _ => (pts_one (pt_cmpR op_notIn_sign (pv 2) (pv 1) (by rfl)))) (fun _ _ _ _ _ => (pv 2))) (pe_lst pa_nil) (nomark _)))))), ?_⟩
    have hzl := len_cps z
    have e00 : (("" : Str)).cps.toList = [] := by decide +kernel
    have e0 : decide (V.str z = V.str ("" : Str)) = decide (z.cps.toList = []) := decide_eq_decide.mpr ⟨fun h => by
      injection h with h
      rw [h]
      exact e00, fun h => by
      have : z = mk [] := mk_eq h
      rw [this]
      rfl⟩
    refine ⟨_, rfl, rfl, _, rfl, ?_⟩
    rw [e0]
    by_cases hn : z.cps.toList = []
    · rw [decide_eq_true hn]
      exact iteF (bl_to (decide_eq_false fun h => h.1 hn).symm (q H (Same.refl H)))
    · rw [decide_eq_false hn]
      refine iteT ?_
      refine ⟨_, rfl, z, rfl, fun D hD => ?_⟩
      refine lc_it walk_str (fun i H' => Same H H' ∧ H' D = some (.lst ((((z.cps.toList.take i).filter fun c => !isAtm c).map fun c => (⟨#[c]⟩ : Str)).map V.str))) ⟨same_new hD, upd_same⟩ (fun _ _ _ _ => trivial) (fun i x H1 H2 hi hp hy => ?_) (fun H1 hp => ?_)
      · obtain ⟨rfl, c, hc1, rfl⟩ := hy
        obtain ⟨sm, hd⟩ := hp
        have hc2 := cps_at hc1
        refine ⟨rfl, ?_⟩
        refine ⟨_, rfl, _, rfl, c, lawAtoms, rfl, rfl, _, rfl, ?_⟩
        rw [lawAtoms_is]
        cases ha : isAtm c with
        | true =>
          refine iteF ⟨sm, ?_⟩
          rw [take_more hc2, List.filter_append]
          have : List.filter (fun c => !isAtm c) [c] = [] := by simp [ha]
          rw [this, List.append_nil]
          exact hd
        | false =>
          refine iteT ⟨_, rfl, _, hd, ?_, same_set sm hD, ?_⟩
          · rw [List.length_map, List.length_map]
            have h1 := List.length_filter_le (fun c => !isAtm c) (z.cps.toList.take i)
            have h2 : (z.cps.toList.take i).length ≤ z.cps.toList.length := by rw [List.length_take]; omega
            exact szl (by omega)
          · rw [upd_same, take_more hc2, List.filter_append]
            have : List.filter (fun c => !isAtm c) [c] = [c] := by simp [ha]
            rw [this, List.map_append, List.map_append]
            rfl
      · obtain ⟨sm, hd⟩ := hp
        have et : z.cps.toList.take z.cps.size = z.cps.toList := List.take_of_length_le (by simp)
        rw [et] at hd
        refine ⟨Nat.zero_le _, fun p np => ?_⟩
        have hDp : D ≠ p := ne_of_none hd np
        refine ⟨.list (((z.cps.toList.filter fun c => !isAtm c).map fun c => (⟨#[c]⟩ : Str)).map PyData.str), .list [], .lst (SqL.of (by rw [upd_ne hDp]; exact hd)) (dp_strs _), .lst (SqL.of upd_same) .nil, shaped_strs ?_, shaped_strs (zs := []) (fun _ h => by simp at h), ?_⟩
        · intro y hy
          obtain ⟨c, hc1, rfl⟩ := List.mem_map.mp hy
          refine strOk_of fun d hd2 => ?_
          rw [List.mem_singleton.mp hd2]
          exact hc c (List.mem_filter.mp hc1).1
        · rw [eqv_nil]
          refine bl_to ?_ (q (upd H1 p (.lst [])) (sm.trans (same_new np)))
          by_cases hall : z.cps.toList.all isAtm = true
          · have e1 : (z.cps.toList.filter fun c => !isAtm c) = [] := by
              rw [List.filter_eq_nil_iff]
              intro c hc1
              rw [List.all_eq_true.mp hall c hc1]
              exact Bool.false_ne_true
            rw [e1, decide_eq_true ⟨hn, hall⟩]
            rfl
          · rw [decide_eq_false fun h => hall h.2]
            cases h : z.cps.toList.filter fun c => !isAtm c with
            | nil =>
              exfalso
              refine hall (List.all_eq_true.mpr fun c hc1 => ?_)
              have := List.filter_eq_nil_iff.mp h c hc1
              simpa using this
            | cons a r => rfl
theorem esc_app (l m : List Nat) : esc (l ++ m) = esc l ++ esc m := by unfold esc; rw [List.flatMap_append]
def escs (l : List Nat) : List (List Nat) := l.map fun c => if c = 92 ∨ c = 34 then [92, c] else [c]
theorem escs_flat (l : List Nat) : (escs l).flatten = esc l := by unfold escs esc; rw [List.flatMap_def]
theorem joinE : ∀ ps : List (List Nat), Txt.join ("" : Str) (ps.map mk) = mk ps.flatten := fun ps => by
  refine mk_eq ?_
  rw [join_codes, List.map_map]
  congr 1
  exact (List.map_congr_left (fun p _ => mk_codes p)).trans (List.map_id _)
def spQuotL : Sp := fun vs H Q _ => ∃ z : Str, vs = [.str z] ∧ z.length ≤ 1000 ∧ ∀ H', Same H H' → Q (.str (mk (34 :: (esc z.cps.toList ++ [34])))) H'
theorem scLawQuoted : FnScope ["_law_text", "_law_sign"] ["_law_text"] (defScope sLawQuoted) := ⟨rfl, rfl, rfl, by decide +kernel, rfl, by decide +kernel, by decide +kernel⟩
theorem r_quotL (A : FnAt K mg "_law_quoted" sLawQuoted) (m_int : mg "int" = none) : Ready P w K mg base 1 "_law_quoted" ["_law_text"] spQuotL := by
  refine ready_of A (fun _ _ _ _ _ _ us hl => match us, hl with | [_], _ => rfl) fun f fd F => ?_
  refine F.ok scLawQuoted (fun vs H Q E h => ?_) (fun cdv A outer s H vs Q E hr h => ?_)
  · obtain ⟨z, rfl, _⟩ := h
    rfl
  · obtain ⟨z, rfl, hz, q⟩ := h
    have sc := scLawQuoted
    refine ⟨_, pss_one (ps_ret (pe_op op_add_str (pe_op op_add_str pe_str (pe_join pe_str (pe_lc (own := [("_law_sign", 1)]) (g := gName 1) (tt := tYes) (te := (tOp _ (tOp _ (tC (.str ("\\" : Str))) (tCB _ (tCons (tOp _ (tVar 1) (tC (.str ("\"\\" : Str)))) tNil))) (tVar 1))) (by rfl) sc.nd (pi_str (pv 0)) (blkOk_by (own := [("_law_sign", 1)]) (N := ["_law_text", "_law_sign"]) (sc := defScope sLawQuoted) (by decide +kernel)) (fun _ _ _ _ _ => (pg_name (i := 1) sc.nd rfl (.inl rfl))) (fun _ _ _ _ _ => pts_nil) (fun _ _ _ _ _ => (pe_op op_add_str (pe_op op_mulS pe_str (pe_callTy call_int1 (by rfl) m_int (by decide +kernel) (pa_cons (pe_cmpR op_in_sign (pv 1) pe_str (by rfl)) pa_nil))) (pv 1)))))) pe_str)), ?_⟩
    have hzl := len_cps z
    have e34 : (("\"" : Str)) = mk [34] := by decide +kernel
    have e92 : (("\\" : Str)) = ⟨#[92]⟩ := by decide +kernel
    have e2 : ("\"\\" : Str).cps.toList = [34, 92] := by decide +kernel
    refine ⟨⟨_, rfl⟩, _, rfl, z, rfl, fun D hD => ?_⟩
    refine lc_it walk_str (fun i H' => Same H H' ∧ H' D = some (.lst (((escs (z.cps.toList.take i)).map mk).map V.str))) ⟨same_new hD, upd_same⟩ (fun _ _ _ _ => trivial) (fun i x H1 H2 hi hp hy => ?_) (fun H1 hp => ?_)
    · obtain ⟨rfl, c, hc1, rfl⟩ := hy
      obtain ⟨sm, hd⟩ := hp
      have hc2 := cps_at hc1
      refine ⟨rfl, ?_⟩
      unfold tYes
      refine iteT ⟨_, rfl, c, _, rfl, rfl, .inr ⟨_, rfl, ?_⟩⟩
      rw [e2]
      have fin : ∀ u : List Nat, u = (if c = 92 ∨ c = 34 then [92, c] else [c]) → ∃ acc, H2 D = some (.lst acc) ∧ acc.length < sizeLine ∧ (Same H (upd H2 D (.lst (acc ++ [V.str (mk u)]))) ∧ (upd H2 D (.lst (acc ++ [V.str (mk u)]))) D = some (.lst (((escs (z.cps.toList.take (i + 1))).map mk).map V.str))) := fun u hu => by
        refine ⟨_, hd, ?_, same_set sm hD, ?_⟩
        · unfold escs
          rw [List.length_map, List.length_map, List.length_map, List.length_take]
          exact szl (by omega)
        · rw [upd_same, take_more hc2]
          unfold escs
          rw [List.map_append, List.map_append, List.map_append, hu]
          rfl
      by_cases h9 : c = 92 ∨ c = 34
      · rw [decide_eq_true (by rcases h9 with rfl | rfl <;> simp : c ∈ ([34, 92] : List Nat))]
        refine ⟨92, 1, by rw [e92], rfl, by decide, _, rfl, _, _, rfl, rfl, by rw [sizeLine_eq]; show 1 + 1 ≤ _; decide, ?_⟩
        have := fin [92, c] (by rw [if_pos h9])
        exact this
      · rw [decide_eq_false (by simp; omega : ¬ c ∈ ([34, 92] : List Nat))]
        refine ⟨92, 0, by rw [e92], rfl, by decide, _, rfl, _, _, rfl, rfl, by rw [sizeLine_eq]; show 0 + 1 ≤ _; decide, ?_⟩
        have := fin [c] (by rw [if_neg h9])
        exact this
    · obtain ⟨sm, hd⟩ := hp
      have et : z.cps.toList.take z.cps.size = z.cps.toList := List.take_of_length_le (by simp)
      rw [et] at hd
      refine ⟨("" : Str), D, _, rfl, rfl, .inl (SqL.of hd), ?_, ?_⟩
      · have hsum : ∀ l : List Nat, (((escs l).map mk).map (·.length)).sum ≤ 2 * l.length := fun l => by
          induction l with
          | nil => exact Nat.le_refl _
          | cons c r ih =>
            unfold escs at ih ⊢
            rw [List.map_cons, List.map_cons, List.map_cons, List.sum_cons, mk_len, List.length_cons]
            by_cases h : c = 92 ∨ c = 34
            · rw [if_pos h]
              show 2 + _ ≤ _
              omega
            · rw [if_neg h]
              show 1 + _ ≤ _
              omega
        have := hsum z.cps.toList
        have e0 : ("" : Str).length = 0 := by decide +kernel
        rw [e0]
        omega
      · rw [joinE, escs_flat]
        have h1 := esc_len z.cps.toList
        have c1 := catX e34 (rfl : mk (esc z.cps.toList) = _)
        have c2 := catX c1 e34
        refine ⟨_, _, rfl, rfl, by rw [← len_append]; exact szE c1 (by simp only [List.length_append, List.length_cons, List.length_nil]; omega), _, _, rfl, rfl, by rw [← len_append]; exact szE c2 (by simp only [List.length_append, List.length_cons, List.length_nil]; omega), ?_⟩
        rw [c2]
        exact q H1 sm
def spPlainL : Sp := fun vs H Q _ => ∃ z : Str, vs = [.str z] ∧ z.length ≤ 1000 ∧ (∀ c ∈ z.cps.toList, c < 128) ∧ ∀ H', Same H H' → Q (.str (mk (quotedL z.cps.toList))) H'
theorem scLawPlain : FnScope ["_law_text"] ["_law_text"] (defScope sLawPlain) := ⟨rfl, rfl, rfl, by decide +kernel, rfl, by decide +kernel, by decide +kernel⟩
theorem r_plainL (A : FnAt K mg "_law_plain" sLawPlain) (R1 : Ready P w K mg base 1 "_law_is_atom" ["_law_text"] spIsAtomL) (R2 : Ready P w K mg base 1 "_law_quoted" ["_law_text"] spQuotL) : Ready P w K mg base 2 "_law_plain" ["_law_text"] spPlainL := by
  obtain ⟨f1, fd1, g1, k1, b1, G1⟩ := R1
  obtain ⟨f2, fd2, g2, k2, b2, G2⟩ := R2
  refine ready_of A (fun _ _ _ _ _ _ us hl => match us, hl with | [_], _ => rfl) fun f fd F => ?_
  refine F.ok scLawPlain (fun vs H Q E h => ?_) (fun cdv A outer s H vs Q E hr h => ?_)
  · obtain ⟨z, rfl, _⟩ := h
    rfl
  · obtain ⟨z, rfl, hz, hc, q⟩ := h
    have sc := scLawPlain
    refine ⟨_, pss_cons (ps_if (pt_val (pe_call G1 (hr.mono (by decide)) (by rfl) g1 k1 b1 .nil pass0 (pa_cons (pv 0) pa_nil)))
        (pss_one (ps_ret (pv 0)))
        pss_nil)
      (pss_one (ps_ret (pe_call G2 (hr.mono (by decide)) (by rfl) g2 k2 b2 .nil pass0 (pa_cons (pv 0) pa_nil)))), ?_⟩
    rw [quotedL_all] at q
    refine ⟨_, rfl, z, rfl, hz, hc, fun H1 s1 => ⟨_, rfl, ?_⟩⟩
    by_cases h : z.cps.toList ≠ [] ∧ z.cps.toList.all isAtm = true
    · rw [decide_eq_true h]
      rw [if_pos h, mk_of] at q
      exact iteT ⟨_, rfl, q H1 s1⟩
    · rw [decide_eq_false h]
      rw [if_neg h] at q
      exact iteF ⟨_, rfl, z, rfl, hz, fun H2 s2 => q H2 (s1.trans s2)⟩
end
end FL

namespace FL
open PySem PySem.Spec PyProof.Rows L2
theorem isLn_lt {l : List Nat} (h : isLn l = true) : ∀ c ∈ l, c < 128 := fun c hc => by
  unfold isLn allSig at h
  have := List.all_eq_true.mp (Bool.and_eq_true_iff.mp h).1 c hc
  unfold isSig at this
  simp at this
  omega
theorem szB {x : Str} {l : List Nat} (h : x = mk l) (hl : l.length ≤ 1000000) : x.length ≤ sizeLine := by
  rw [h, mk_len, sizeLine_eq]
  omega
theorem join_cons (s h : List Nat) : ∀ ts : List (List Nat), TL.joinL s (h :: ts) = h ++ ts.flatMap fun x => s ++ x
  | [] => by simp [TL.joinL]
  | t :: ts => by
    have := join_cons s t ts
    show h ++ (s ++ TL.joinL s (t :: ts)) = _
    rw [this, List.flatMap_cons, List.append_assoc]
def sepL (x : List Nat) : List Nat := 59 :: 32 :: x
def kindF (k : Kd) (i : Nat) : List Nat := k.main.cps.toList ++ (47 :: k.sub.cps.toList) ++ (k.ps.take i).flatMap fun p => (showP p.1.cps.toList p.2.cps.toList).flatMap sepL
theorem kindF_all (k : Kd) : kindF k k.ps.length = kindL k := by
  unfold kindF kindL
  rw [List.take_length, join_cons, List.flatMap_assoc]
  rfl
theorem sep_len {l : List (List Nat)} {n m : Nat} (h : ∀ x ∈ l, x.length ≤ n) (hm : l.length ≤ m) : (l.flatMap sepL).length ≤ (n + 2) * m := by
  have := flat_len (l := l) (f := sepL) (n := n + 2) fun x hx => by
    unfold sepL
    have := h x hx
    simp only [List.length_cons]
    omega
  exact Nat.le_trans this (Nat.mul_le_mul_left _ hm)
theorem pair_len {p : Str × Str} (h1 : p.1.length ≤ 20) (h2 : p.2.length ≤ 540) : ((showP p.1.cps.toList p.2.cps.toList).flatMap sepL).length ≤ 1600 := by
  have l1 := len_cps p.1
  have l2 := len_cps p.2
  have hc : (showP p.1.cps.toList p.2.cps.toList).length ≤ 14 := by
    unfold showP
    split
    · simp
    · rw [List.length_map, List.length_range]
      omega
  have := sep_len (n := 110) (m := 14) (fun x hx => Nat.le_trans (showP_each (by omega) x hx) (by omega)) hc
  omega
theorem kindF_len {k : Kd} (h : k.main.length ≤ 20 ∧ k.sub.length ≤ 20 ∧ ∀ p ∈ k.ps, p.1.length ≤ 20 ∧ p.2.length ≤ 540) (hn : k.ps.length ≤ 7) (i : Nat) : (kindF k i).length ≤ 12000 := by
  unfold kindF
  have l1 := len_cps k.main
  have l2 := len_cps k.sub
  have := flat_len (l := k.ps.take i) (f := fun p => (showP p.1.cps.toList p.2.cps.toList).flatMap sepL) (n := 1600) fun p hp => pair_len (h.2.2 p (List.mem_of_mem_take hp)).1 (h.2.2 p (List.mem_of_mem_take hp)).2
  have ht : (k.ps.take i).length ≤ 7 := by rw [List.length_take]; omega
  have : 1600 * (k.ps.take i).length ≤ 1600 * 7 := Nat.mul_le_mul_left _ ht
  rw [List.length_append, List.length_append, List.length_cons]
  omega
section
variable {P : Program} {w : World} {K : PySem.W.Frag} {mg : Str → Option Value} {base : Heap}
def spDueK : Sp := fun vs H Q _ => ∃ (a : Addr) (k : Kd), vs = [.ref a] ∧ KdAt H a k ∧ OkKd k ∧ k.ps.length ≤ 7 ∧ (k.main.length ≤ 20 ∧ k.sub.length ≤ 20 ∧ ∀ p ∈ k.ps, p.1.length ≤ 20 ∧ p.2.length ≤ 540) ∧ ∀ H', Same H H' → Q (.str (mk (kindL k))) H'
theorem scDue : FnScope ["_law_given", "_law_main", "_law_side", "_law_pairs", "_law_found", "_law_name", "_law_value", "_law_at"] ["_law_given"] (defScope sDue) := ⟨rfl, rfl, rfl, by decide +kernel, rfl, by decide +kernel, by decide +kernel⟩
theorem r_dueK (A : FnAt K mg "_law_due" sDue) (R1 : Ready P w K mg base 2 "_law_plain" ["_law_text"] spPlainL) (m_len : mg "len" = none) (m_range : mg "range" = none) (m_str : mg "str" = none) : Ready P w K mg base 3 "_law_due" ["_law_given"] spDueK := by
  obtain ⟨f1, fd1, g1, k1, b1, G1⟩ := R1
  refine ready_of A (fun _ _ _ _ _ _ us hl => match us, hl with | [_], _ => rfl) fun f fd F => ?_
  refine F.ok scDue (fun vs H Q E h => ?_) (fun cdv A outer s H vs Q E hr h => ?_)
  · obtain ⟨a, k, rfl, _⟩ := h
    rfl
  · obtain ⟨a, k, rfl, hK, ok, hpn, hsm, q⟩ := h
    have sc := scDue
    refine ⟨_, pss_cons (ps_asg (pv 0) (pg_tup rfl (pgs_cons (pg_name (i := 1) sc.nd rfl (.inl rfl)) (pgs_cons (pg_name (i := 2) sc.nd rfl (.inl rfl)) (pgs_cons (pg_name (i := 3) sc.nd rfl (.inl rfl)) pgs_nil)))))
      (pss_cons (ps_set (i := 4) sc.nd rfl (.inl rfl) (pe_op op_add_str (pe_op op_add_str (pv 1) pe_str) (pv 2)))
      (pss_cons (ps_for PassesOwn.never rfl (pi_list (pv 3)) (pg_tup rfl (pgs_cons (pg_name (i := 5) sc.nd rfl (.inl rfl)) (pgs_cons (pg_name (i := 6) sc.nd rfl (.inl rfl)) pgs_nil)))
        (pss_one (ps_if (pt_cmpR op_le (pe_callB call_len_str (by rfl) m_len PySem.boot_len (pa_cons (pv 6) pa_nil)) pe_int (nomark _))
            (pss_one (ps_set (i := 4) sc.nd rfl (.inl rfl) (pe_op op_add_str (pe_op op_add_str (pe_op op_add_str (pe_op op_add_str (pv 4) pe_str) (pv 5)) pe_str) (pe_call G1 (hr.mono (by decide)) (by rfl) g1 k1 b1 .nil pass0 (pa_cons (pv 6) pa_nil)))))
            (pss_one (ps_for PassesOwn.never rfl (pi_range3 (by rfl) m_range (pa_cons pe_int (pa_cons (pe_callB call_len_str (by rfl) m_len PySem.boot_len (pa_cons (pv 6) pa_nil)) (pa_cons pe_int pa_nil)))) (pg_name (i := 7) sc.nd rfl (.inl rfl))
                (pss_cons (ps_set (i := 4) sc.nd rfl (.inl rfl) (pe_op op_add_str (pe_op op_add_str (pe_op op_add_str (pe_op op_add_str (pe_op op_add_str (pv 4) pe_str) (pv 5)) pe_str) (pe_callTy call_str_int (by rfl) m_str (by decide +kernel) (pa_cons (pe_op op_fdiv (pv 7) pe_int) pa_nil))) pe_str))
                  (pss_one (ps_set (i := 4) sc.nd rfl (.inl rfl) (pe_op op_add_str (pv 4) (pe_call G1 (hr.mono (by decide)) (by rfl) g1 k1 b1 .nil pass0 (pa_cons (pe_slice sl_str (pv 6) (po_some (pv 7)) (po_some (pe_op op_add (pv 7) pe_int))) pa_nil)))))))))))
      (pss_one (ps_ret (pv 4))))), ?_⟩
    obtain ⟨L, Ts, ha, hL, hlen, hp⟩ := hK.ex
    have l1 := len_cps k.main
    have l2 := len_cps k.sub
    obtain ⟨hm1, hm2, hm3⟩ := hsm
    have hF := kindF_len ⟨hm1, hm2, hm3⟩ hpn
    have e1 := catX (show k.main = mk k.main.cps.toList from mk_eq rfl) (show ("/" : Str) = mk [47] by decide +kernel)
    have e2 := catX e1 (show k.sub = mk k.sub.cps.toList from mk_eq rfl)
    refine ⟨_, rfl, a, _, rfl, SqT.of ha, rfl, _, _, rfl, _, _, rfl, _, _, rfl, rfl, ?_⟩
    refine ⟨_, rfl, _, _, rfl, rfl, by rw [← len_append]; exact szE e1 (by simp only [List.length_append, List.length_cons, List.length_nil]; omega), ?_⟩
    refine ⟨_, rfl, _, _, rfl, rfl, by rw [← len_append]; exact szE e2 (by simp only [List.length_append, List.length_cons, List.length_nil]; omega), ?_⟩
    rw [e2]
    have hmain : k.main.cps.toList ++ [47] ++ k.sub.cps.toList = kindF k 0 := by
      unfold kindF
      simp
    rw [hmain]
    have hTl : (Ts.map V.ref).length = k.ps.length := by rw [List.length_map, hlen]
    refine ⟨_, rfl, L, rfl, ⟨_, SqL.of hL⟩, ?_⟩
    refine for_it (walk_list (K := K) (a := L) (xs := Ts.map V.ref)) (fun i σ H' => ∃ y5 y6 y7, σ = [some (.ref a), some (.str k.main), some (.str k.sub), some (.ref L), some (.str (mk (kindF k i))), y5, y6, y7] ∧ Same H H') ⟨none, none, none, rfl, Same.refl H⟩ (fun i σ H' _ p1 => let ⟨_, _, _, _, sm⟩ := p1; SqL.of (sm _ _ hL)) (fun i x σ X1 X2 hi hp1 hy => ?_) (fun σ X1 hp1 => ?_)
    · obtain ⟨rfl, hx⟩ := hy
      obtain ⟨y5, y6, y7, rfl, sm⟩ := hp1
      rw [hTl] at hi
      have hpi := List.getElem?_eq_getElem hi
      obtain ⟨T, hTi, hT⟩ := hp i _ hpi
      rw [List.getElem?_map, hTi] at hx
      injection hx with hx
      subst hx
      have hmem := List.getElem_mem hi
      obtain ⟨p1, p2, p3, p4⟩ := ok.po _ hmem
      obtain ⟨b1', b2'⟩ := hm3 _ hmem
      have hnext : kindF k (i + 1) = kindF k i ++ (showP (k.ps[i]).1.cps.toList (k.ps[i]).2.cps.toList).flatMap sepL := by
        unfold kindF
        rw [take_more hpi, List.flatMap_append, List.flatMap_singleton, ← List.append_assoc]
      have hF1 := hF i
      have hF2 := hF (i + 1)
      generalize kindF k i = F0 at hnext hF1 ⊢
      generalize kindF k (i + 1) = F1 at hnext hF2 ⊢
      generalize k.ps[i] = p at hT p1 p2 p3 p4 b1' b2' hnext
      have hc128 : ∀ c ∈ p.2.cps.toList, c < 128 := isLn_lt p4
      have ln := len_cps p.1
      have lv := len_cps p.2
      refine ⟨T, _, rfl, SqT.of (sm _ _ hT), rfl, _, _, rfl, _, _, rfl, rfl, ?_⟩
      refine ⟨_, rfl, _, rfl, by rw [sizeLine_eq]; omega, _, _, rfl, rfl, _, rfl, ?_⟩
      have e2s : ("; " : Str) = mk [59, 32] := by decide +kernel
      have e61 : ("=" : Str) = mk [61] := by decide +kernel
      have e42 : ("*" : Str) = mk [42] := by decide +kernel
      have c1 := catX (rfl : mk F0 = _) e2s
      have c2 := catX c1 (show p.1 = mk p.1.cps.toList from mk_eq rfl)
      unfold showP at hnext
      by_cases h40 : p.2.length ≤ 40
      · rw [decide_eq_true (by omega : ((p.2.length : Nat) : Int) ≤ 40)]
        rw [if_pos (by omega)] at hnext
        have hq := quoted_len p.2.cps.toList
        have c3 := catX c2 e61
        have c4 := catX c3 (rfl : mk (quotedL p.2.cps.toList) = _)
        have hout : F0 ++ [59, 32] ++ p.1.cps.toList ++ [61] ++ quotedL p.2.cps.toList = F1 := by
          rw [hnext]
          unfold sepL
          simp
        refine iteT ⟨_, rfl, _, _, rfl, rfl, by rw [← len_append]; exact szB c1 (by simp only [List.length_append, List.length_cons, List.length_nil]; omega), _, rfl, _, _, rfl, rfl, by rw [← len_append]; exact szB c2 (by simp only [List.length_append, List.length_cons, List.length_nil]; omega), ?_⟩
        refine ⟨_, _, rfl, rfl, by rw [← len_append]; exact szB c3 (by simp only [List.length_append, List.length_cons, List.length_nil]; omega), _, rfl, p.2, rfl, p3, hc128, fun X3 s3 => ?_⟩
        refine ⟨_, _, rfl, rfl, by rw [← len_append]; exact szB c4 (by simp only [List.length_append, List.length_cons, List.length_nil]; omega), ?_⟩
        rw [c4, hout]
        exact ⟨_, _, _, rfl, sm.trans s3⟩
      · rw [decide_eq_false (by omega : ¬ ((p.2.length : Nat) : Int) ≤ 40)]
        rw [if_neg (by omega)] at hnext
        generalize hN : (p.2.cps.toList.length + 39) / 40 = N at hnext
        have hNb : N ≤ 14 := by omega
        have hvs : p.2.length ≤ sizeLine := by rw [sizeLine_eq]; omega
        have hVc : p.2.cps.toList = p.2.cps.toList := rfl
        generalize hV0 : p.2.cps.toList = V0 at hN hnext hVc lv hc128 p4
        have eV : ((p.2.length : Nat) : Int) = ((V0.length : Nat) : Int) := by rw [lv]
        refine iteF ⟨_, rfl, _, rfl, hvs, 0, ((p.2.length : Nat) : Int), 40, N, rfl, by rw [eV, ← hN]; exact rg_up (c := 40) (by omega) (by decide) (by decide), ?_⟩
        refine for_it (walk_rangeC (lo := 0) (c := 40) (n := N)) (fun j σ H' => ∃ y7, σ = [some (.ref a), some (.str k.main), some (.str k.sub), some (.ref L), some (.str (mk (F0 ++ ((List.range j).map fun i => numd p.1.cps.toList i ((V0.drop (40 * i)).take 40)).flatMap sepL))), some (.str p.1), some (.str p.2), y7] ∧ Same H H') ⟨y7, by rw [show ((List.range 0).map fun i => numd p.1.cps.toList i ((V0.drop (40 * i)).take 40)).flatMap sepL = [] from rfl, List.append_nil]; rfl, sm⟩ (fun _ _ _ _ _ => trivial) (fun j x σ Y1 Y2 hj hp2 hy => ?_) (fun σ Y1 hp2 => ?_)
        · obtain ⟨rfl, hx⟩ := hy
          obtain ⟨z7, rfl, sm2⟩ := hp2
          have hx' : x = .int ((40 * j : Nat) : Int) := by
            rw [hx]
            exact congrArg V.int (by omega)
          subst hx'
          generalize hG : F0 ++ ((List.range j).map fun i => numd p.1.cps.toList i ((V0.drop (40 * i)).take 40)).flatMap sepL = G
          have hGl : G.length ≤ 20000 := by
            rw [← hG, List.length_append]
            have := sep_len (l := (List.range j).map fun i => numd p.1.cps.toList i ((V0.drop (40 * i)).take 40)) (n := 110) (m := 14) (fun x hx => by
              obtain ⟨i, hi, rfl⟩ := List.mem_map.mp hx
              have hi := List.mem_range.mp hi
              unfold numd
              rw [List.length_append, List.length_cons, List.length_append, List.length_cons]
              have h1 := quoted_len ((V0.drop (40 * i)).take 40)
              have h2 := List.length_take_le 40 (V0.drop (40 * i))
              have h3 := figL_len i (by omega)
              omega) (by rw [List.length_map, List.length_range]; omega)
            omega
          have d1 := catX (rfl : mk G = _) e2s
          have d2 := catX d1 (show p.1 = mk p.1.cps.toList from mk_eq rfl)
          have d3 := catX d2 e42
          have d4 := catX d3 (figS_mk j)
          have d5 := catX d4 e61
          have hf := figL_len j (by omega)
          refine ⟨_, rfl, _, _, rfl, rfl, by rw [← len_append]; exact szB d1 (by simp only [List.length_append, List.length_cons, List.length_nil]; omega), _, rfl, _, _, rfl, rfl, by rw [← len_append]; exact szB d2 (by simp only [List.length_append, List.length_cons, List.length_nil]; omega), ?_⟩
          refine ⟨_, _, rfl, rfl, by rw [← len_append]; exact szB d3 (by simp only [List.length_append, List.length_cons, List.length_nil]; omega), ?_⟩
          refine ⟨_, rfl, _, _, rfl, rfl, ⟨by decide, by decide⟩, ?_⟩
          have hdj : ((40 * j : Nat) : Int) / 40 = ((j : Nat) : Int) := by omega
          refine ⟨((40 * j : Nat) : Int) / 40, rfl, by rw [hdj]; exact small_log (by omega), ?_⟩
          rw [hdj]
          refine ⟨_, _, rfl, rfl, by rw [← len_append]; exact szB d4 (by simp only [List.length_append, List.length_cons, List.length_nil]; omega), ?_⟩
          refine ⟨_, _, rfl, rfl, by rw [← len_append]; exact szB d5 (by simp only [List.length_append, List.length_cons, List.length_nil]; omega), ?_⟩
          rw [show (mk G ++ ("; " : Str) ++ p.1 ++ ("*" : Str) ++ Str.ofString (toString ((j : Nat) : Int)) ++ ("=" : Str)) = _ from d5]
          have ec : cutS p.2 (some ((40 * j : Nat) : Int)) (some (((40 * j : Nat) : Int) + 40)) = mk ((V0.drop (40 * j)).take 40) := mk_eq (by
            rw [show (((40 * j : Nat) : Int) + 40) = ((40 * j + 40 : Nat) : Int) by omega, cutS_codesK p.2 (by omega), hV0, show 40 * j + 40 - 40 * j = 40 by omega])
          have hpl := List.length_take_le 40 (V0.drop (40 * j))
          have hpm : ∀ c ∈ (V0.drop (40 * j)).take 40, c < 128 := fun c hc => hc128 c (List.mem_of_mem_drop (List.mem_of_mem_take hc))
          refine ⟨_, rfl, _, rfl, _, rfl, _, rfl, _, rfl, _, _, rfl, rfl, _, rfl, p.2, rfl, hvs, ?_⟩
          rw [ec]
          have hq := quoted_len ((V0.drop (40 * j)).take 40)
          refine ⟨mk ((V0.drop (40 * j)).take 40), rfl, by rw [mk_len]; omega, by rw [mk_codes]; exact hpm, fun X3 s3 => ?_⟩
          rw [mk_codes]
          have d6 := catX (rfl : mk (G ++ [59, 32] ++ p.1.cps.toList ++ [42] ++ figL j ++ [61]) = _) (rfl : mk (quotedL ((V0.drop (40 * j)).take 40)) = _)
          refine ⟨_, _, rfl, rfl, by rw [← len_append]; exact szB d6 (by simp only [List.length_append, List.length_cons, List.length_nil]; omega), ?_⟩
          rw [d6]
          refine ⟨some (.int ((40 * j : Nat) : Int)), ?_, sm2.trans s3⟩
          have hout : G ++ [59, 32] ++ p.1.cps.toList ++ [42] ++ figL j ++ [61] ++ quotedL ((V0.drop (40 * j)).take 40) = F0 ++ ((List.range (j + 1)).map fun i => numd p.1.cps.toList i ((V0.drop (40 * i)).take 40)).flatMap sepL := by
            rw [List.range_succ, List.map_append, List.flatMap_append, ← List.append_assoc, hG]
            show _ = G ++ (sepL (numd p.1.cps.toList j ((V0.drop (40 * j)).take 40)) ++ [])
            unfold sepL numd
            simp
          rw [hout]
          rfl
        · obtain ⟨z7, rfl, sm2⟩ := hp2
          refine ⟨some (.str p.1), some (.str p.2), z7, ?_, sm2⟩
          rw [hnext]
    · obtain ⟨y5, y6, y7, rfl, sm⟩ := hp1
      rw [hTl, kindF_all]
      exact ⟨_, rfl, q X1 sm⟩
end
end FL

namespace FL
open PySem PySem.Spec PyProof.Rows L2
/-! ### a kind as data -/
def pairD (p : Str × Str) : PyData := .tuple [.str p.1, .str p.2]
def kdD (k : Kd) : PyData := .tuple [.str k.main, .str k.sub, .list (k.ps.map pairD)]
theorem pairs_dp {K : PySem.W.Frag} {H : Hp} : ∀ (ps : List (Str × Str)) (Ts : List Addr), Ts.length = ps.length → PairsAt H Ts ps → DpAll K H (Ts.map V.ref) (ps.map pairD)
  | [], [], _, _ => .nil
  | [], _ :: _, h, _ => by simp at h
  | _ :: _, [], h, _ => by simp at h
  | p :: ps, T :: Ts, h, hp => by
    obtain ⟨T2, e, b⟩ := hp 0 p rfl
    have e : T = T2 := Option.some.inj e
    subst e
    exact .cons (.tup (SqT.of b) (.cons (.str _) (.cons (.str _) .nil))) (pairs_dp ps Ts (by simpa using h) fun i x hx => hp (i + 1) x hx)
theorem kd_dp {K : PySem.W.Frag} {H : Hp} {a : Addr} {k : Kd} (h : KdAt H a k) : Dp K H (.ref a) (kdD k) := by
  obtain ⟨L, Ts, h1, h2, h3, h4⟩ := h.ex
  exact .tup (SqT.of h1) (.cons (.str _) (.cons (.str _) (.cons (.lst (SqL.of h2) (pairs_dp _ _ h3 h4)) .nil)))
theorem kd_showable (k : Kd) : (kdD k).showable = true := by
  unfold kdD
  rw [PyData.showable]
  refine showable_all fun d hd => ?_
  simp only [List.mem_cons, List.not_mem_nil, or_false] at hd
  rcases hd with rfl | rfl | rfl
  · rw [PyData.showable]
  · rw [PyData.showable]
  · rw [PyData.showable]
    refine showable_all fun d hd => ?_
    obtain ⟨p, _, rfl⟩ := List.mem_map.mp hd
    unfold pairD
    rw [PyData.showable]
    refine showable_all fun d hd => ?_
    simp only [List.mem_cons, List.not_mem_nil, or_false] at hd
    rcases hd with rfl | rfl <;> rw [PyData.showable]
theorem kd_noDict (k : Kd) : (kdD k).hasDict = false := by
  unfold kdD
  rw [PyData.hasDict]
  refine noDict_all fun d hd => ?_
  simp only [List.mem_cons, List.not_mem_nil, or_false] at hd
  rcases hd with rfl | rfl | rfl
  · rw [PyData.hasDict]
  · rw [PyData.hasDict]
  · rw [PyData.hasDict]
    refine noDict_all fun d hd => ?_
    obtain ⟨p, _, rfl⟩ := List.mem_map.mp hd
    unfold pairD
    rw [PyData.hasDict]
    refine noDict_all fun d hd => ?_
    simp only [List.mem_cons, List.not_mem_nil, or_false] at hd
    rcases hd with rfl | rfl <;> rw [PyData.hasDict]
theorem pair_depth (p : Str × Str) : (pairD p).depth ≤ 1 := by
  unfold pairD
  rw [PyData.depth]
  have : PyData.depthAll [PyData.str p.1, PyData.str p.2] ≤ 0 := depthAll_of fun d hd => by
    simp only [List.mem_cons, List.not_mem_nil, or_false] at hd
    rcases hd with rfl | rfl <;> (rw [PyData.depth]; exact Nat.le_refl _)
  omega
theorem kd_depth (k : Kd) : (kdD k).depth ≤ 60 := by
  unfold kdD
  rw [PyData.depth]
  have : PyData.depthAll [PyData.str k.main, PyData.str k.sub, .list (k.ps.map pairD)] ≤ 2 := depthAll_of fun d hd => by
    simp only [List.mem_cons, List.not_mem_nil, or_false] at hd
    rcases hd with rfl | rfl | rfl
    · rw [PyData.depth]; omega
    · rw [PyData.depth]; omega
    · rw [PyData.depth]
      have : PyData.depthAll (k.ps.map pairD) ≤ 1 := depthAll_of fun d hd => by
        obtain ⟨p, _, rfl⟩ := List.mem_map.mp hd
        exact pair_depth p
      omega
  omega
theorem kd_shown {k : Kd} (ok : OkKd k) (hs : SmallKd k) (hn : k.ps.length ≤ 7) : (kdD k).shown.length ≤ sizeLine := by
  have h128 : ∀ {l : List Nat} {o : List Nat}, isWd o l = true → ∀ c ∈ l, c < 128 := fun {l o} h => isLn_lt (Bool.and_eq_true_iff.mp (by unfold isWd at h; exact h)).1
  have hp : ∀ p ∈ k.ps, (pairD p).shown.length ≤ 11000 := fun p hp => by
    obtain ⟨o1, o2, o3, o4⟩ := ok.po p hp
    obtain ⟨s1, s2⟩ := hs.p p hp
    have := shown_tuple (n := 5402) (ds := [.str p.1, .str p.2]) fun d hd => by
      simp only [List.mem_cons, List.not_mem_nil, or_false] at hd
      rcases hd with rfl | rfl
      · have := shown_str (z := p.1) (h128 o2)
        omega
      · have := shown_str (z := p.2) (isLn_lt o4)
        omega
    unfold pairD
    have e : ([PyData.str p.1, .str p.2] : List PyData).length = 2 := rfl
    omega
  have hl := shown_list (n := 11000) (ds := k.ps.map pairD) fun d hd => by
    obtain ⟨p, hpm, rfl⟩ := List.mem_map.mp hd
    exact hp p hpm
  rw [List.length_map] at hl
  have h1 : (11000 + 2) * k.ps.length ≤ (11000 + 2) * 7 := Nat.mul_le_mul_left _ hn
  have := shown_tuple (n := 100000) (ds := [.str k.main, .str k.sub, .list (k.ps.map pairD)]) fun d hd => by
    simp only [List.mem_cons, List.not_mem_nil, or_false] at hd
    rcases hd with rfl | rfl | rfl
    · have := shown_str (z := k.main) (h128 ok.mn)
      have := hs.m
      omega
    · have := shown_str (z := k.sub) (h128 ok.sn)
      have := hs.s
      omega
    · omega
  have e : ([PyData.str k.main, .str k.sub, .list (k.ps.map pairD)] : List PyData).length = 3 := rfl
  rw [sizeLine_eq]
  unfold kdD
  omega
def abK : Kd := ⟨"a", "b", []⟩
theorem ab_main : (abK.main.length ≤ 1000 ∧ abK.sub.length ≤ 1000) ∧ (isSort abK.main.cps.toList = true ∧ isSort abK.sub.cps.toList = true) := by decide +kernel
theorem ab_ok : OkKd abK := ⟨ab_main.1.1, ab_main.1.2, ab_main.2.1, ab_main.2.2, by decide, (fun p h => by cases h), List.nodup_nil⟩
theorem ab_shown : mk (kindL abK) = ("a/b" : Str) := by decide +kernel
section
variable {P : Program} {w : World} {K : PySem.W.Frag} {mg : Str → Option Value} {base : Heap}
def spLaw (K : PySem.W.Frag) : Sp := fun vs H Q _ => ∃ (a : Addr) (ns : List Int), vs = [.ref a] ∧ SqL K H a (ns.map V.int) ∧ ns.length ≤ 63 ∧ ∀ H', Q (.bl true) H'
theorem scLaw : FnScope ["_law_script", "_law_k", "_law_source_here", "_law_kind_here", "_law_kept", "_law_turn", "_law_found"] ["_law_script"] (defScope sLaw) := ⟨rfl, rfl, rfl, by decide +kernel, rfl, by decide +kernel, by decide +kernel⟩
theorem ok_law {f : Addr} {fd : FuncData} (F : Fun K "law" "law" sLaw f fd) (R1 : Ready P w K mg base 2 "_law_source" ["_law_script", "_law_k"] (spSource K)) (R2 : Ready P w K mg base 5 "_law_kind" ["_law_source_here", "_law_most"] spKindD) (R3 : Ready P w K mg base 8 "show_kind" ["kind"] spShowKind) (R4 : Ready P w K mg base 3 "_law_due" ["_law_given"] spDueK)
    (m_len : mg "len" = none) (m_range : mg "range" = none) (m_max : mg "max" = none) (m_min : mg "min" = none) (m_str : mg "str" = none) (m_isinstance : mg "isinstance" = none) (m_repr : mg "repr" = none) :
    FnOkG P w K mg base CX0 9 f fd ["_law_script"] (spLaw K) := by
  obtain ⟨f1, fd1, g1, k1, b1, G1⟩ := R1
  obtain ⟨f2, fd2, g2, k2, b2, G2⟩ := R2
  obtain ⟨f3, fd3, g3, k3, b3, G3⟩ := R3
  obtain ⟨f4, fd4, g4, k4, b4, G4⟩ := R4
  refine okG F scLaw (fun vs H Q E h => ?_) (fun cdv A outer s H vs Q E hgd hr h => ?_)
  · obtain ⟨a, ns, rfl, _⟩ := h
    rfl
  · obtain ⟨a, ns, rfl, hS, hns, q⟩ := h
    have sc := scLaw
    have hu2 : (A.deeper (envOfC "law" (defScope sLaw) s.heap.objs.size f cdv)).units + 200 < cLine := by
      have := hr.un
      omega
    refine ⟨_, pss_cons (ps_for PassesOwn.never rfl (pi_range1 (by rfl) m_range (pa_cons (pe_callB (call_max2 rfl) (by rfl) m_max (by decide +kernel) (pa_cons pe_int (pa_cons (pe_callB (call_min2 rfl) (by rfl) m_min (by decide +kernel) (pa_cons pe_int (pa_cons (pe_callB call_len_seq (by rfl) m_len PySem.boot_len (pa_cons (pv 0) pa_nil)) pa_nil))) pa_nil))) pa_nil)) (pg_name (i := 1) sc.nd rfl (.inl rfl))
        (pss_cons (ps_set (i := 2) sc.nd rfl (.inl rfl) (pe_call G1 (hr.mono (by decide)) (by rfl) g1 k1 b1 .nil pass0 (pa_cons (pv 0) (pa_cons (pv 1) pa_nil))))
          (pss_cons (ps_set (i := 3) sc.nd rfl (.inl rfl) (pe_call G2 (hr.mono (by decide)) (by rfl) g2 k2 b2 .nil pass0 (pa_cons (pv 2) (pa_cons pe_int pa_nil))))
          (pss_cons (ps_set (i := 4) sc.nd rfl (.inl rfl) (pe_callB (call_repr hgd hu2) (by rfl) m_repr (by decide +kernel) (pa_cons (pv 3) pa_nil)))
          (pss_one (ps_for PassesOwn.never rfl (pi_range1 (by rfl) m_range (pa_cons pe_int pa_nil)) (pg_name (i := 5) sc.nd rfl (.inl rfl))
            (pss_cons (ps_set (i := 6) sc.nd rfl (.inl rfl) (pe_call G3 (hr.mono (by decide)) (by rfl) g3 k3 b3 .nil pass0 (pa_cons (pv 3) pa_nil)))
              (pss_one (ps_if (PW.pt (pw_or (pt_not (pt_val (pe_callB call_isi (by rfl) m_isinstance (by decide +kernel) (pa_cons (pv 6) (pa_cons (pe_bltn (v := .ty "str") (by rfl) m_str (by decide +kernel) rfl) pa_nil))))) (pw_or (pt_cmpR op_ne (pv 6) (pe_call G4 (hr.mono (by decide)) (by rfl) g4 k4 b4 .nil pass0 (pa_cons (pv 3) pa_nil)) (nomark _)) (pw_or1 (pt_cmpR op_ne (pe_callB (call_repr hgd hu2) (by rfl) m_repr (by decide +kernel) (pa_cons (pv 3) pa_nil)) (pv 4) (nomark _))))))
                (pss_one (ps_ret pe_bl))
                pss_nil)))))))))
      (pss_one (ps_ret (pe_cmpR op_eq (pe_call G3 (hr.mono (by decide)) (by rfl) g3 k3 b3 .nil pass0 (pa_cons (pe_tup (pa_cons pe_str (pa_cons pe_str (pa_cons (pe_lst pa_nil) pa_nil)))) pa_nil)) pe_str (nomark _)))), ?_⟩
    have hlen : (ns.map V.int).length = ns.length := List.length_map ..
    refine ⟨_, rfl, a, _, rfl, .inl hS, ?_⟩
    rw [hlen]
    refine ⟨_, _, rfl, _, _, rfl, ?_⟩
    generalize hM : (if (if (ns.length : Int) < 10 then (ns.length : Int) else 10) > 1 then (if (ns.length : Int) < 10 then (ns.length : Int) else 10) else 1) = M
    have hM0 : 0 ≤ M ∧ M ≤ 100 := by
      rw [← hM]
      constructor <;> (split <;> split <;> omega)
    refine ⟨M, rfl, by omega, by omega, ?_⟩
    refine for_it walk_range (fun i σ H' => ∃ y1 y2 y3 y4 y5 y6, σ = [some (.ref a), y1, y2, y3, y4, y5, y6] ∧ Same H H') ⟨none, none, none, none, none, none, rfl, Same.refl H⟩ (fun _ _ _ _ _ => trivial) (fun i x σ H1 H2 hi hp hy => ?_) (fun σ H1 hp => ?_)
    · obtain ⟨y1, y2, y3, y4, y5, y6, rfl, sm⟩ := hp
      obtain ⟨rfl, hxv⟩ := hy
      have hx' : x = .int (i : Nat) := by
        rw [hxv]
        exact congrArg V.int (Int.zero_add _)
      subst hx'
      refine ⟨_, rfl, _, rfl, a, ns, i, rfl, sm.seq hS, fun H3 sr s3 nsr hsr => ?_⟩
      have nsr0 : H sr = none := Same.free sm nsr
      refine ⟨_, rfl, sr, 6, rfl, hsr, by decide, fun H4 v kd d4 nv hK ok hn hs => ?_⟩
      have hsh := kd_shown ok hs (by omega)
      refine ⟨_, rfl, v, kdD kd, rfl, kd_dp hK, kd_showable kd, kd_noDict kd, kd_depth kd, hsh, ?_⟩
      refine ⟨2, rfl, by decide, by decide, ?_⟩
      refine for_it walk_range (fun j σ H' => ∃ u5 u6, σ = [some (.ref a), some (.int (i : Nat)), some (.ref sr), some (.ref v), some (.str (kdD kd).shown), u5, u6] ∧ Same H4 H') ⟨y5, y6, rfl, Same.refl H4⟩ (fun _ _ _ _ _ => trivial) (fun j x2 σ B1 B2 hj hp2 hy2 => ?_) (fun σ B1 hp2 => ?_)
      · obtain ⟨u5, u6, rfl, sb⟩ := hp2
        obtain ⟨rfl, _⟩ := hy2
        refine ⟨_, rfl, v, kd, rfl, hK.same sb, ok, by omega, fun B3 s3b => ?_⟩
        refine ⟨_, rfl, _, _, .type "str", .type "str", true, rfl, ClsV.ty "str", .base (.str _), kit_ty (by decide +kernel), _, rfl, iteF ?_⟩
        have sb3 := sb.trans s3b
        refine ⟨_, rfl, _, rfl, v, kd, rfl, hK.same sb3, ok, by omega, ⟨hs.m, hs.s, hs.p⟩, fun B4 s4b => ⟨rfl, _, rfl, ?_⟩⟩
        rw [decide_eq_true rfl]
        have sb4 := sb3.trans s4b
        refine iteF ⟨_, rfl, v, kdD kd, rfl, kd_dp (hK.same sb4), kd_showable kd, kd_noDict kd, kd_depth kd, hsh, _, rfl, rfl, _, rfl, ?_⟩
        rw [decide_eq_true rfl]
        exact iteF ⟨_, _, rfl, sb4⟩
      · obtain ⟨u5, u6, rfl, sb⟩ := hp2
        exact ⟨_, _, _, _, _, _, rfl, same_drawn (sm.trans s3) nsr0 (d4.same sb)⟩
    · obtain ⟨y1, y2, y3, y4, y5, y6, rfl, sm⟩ := hp
      refine ⟨(by show 0 ≤ sizeLine; decide), fun L nL => ⟨(by show 3 ≤ sizeLine; decide), fun T nT => ?_⟩⟩
      refine ⟨T, abK, rfl, ⟨L, [], upd_same, kn upd_same nT, rfl, fun i p h => by simp [abK] at h⟩, ab_ok, by decide, fun H5 s5 => ⟨rfl, ?_⟩⟩
      rw [ab_shown, decide_eq_true rfl]
      exact q H5
end
end FL

namespace FL
open PySem PySem.Spec PyProof.Rows L2
theorem all_mk {l : PySem.W.OpenLaw} {w : World} {K : PySem.W.Frag} {h : Heap} {mg : Str → Option Value} {fa f1 f2 f3 f4 f5 f6 f7 f8 f9 f10 f11 f12 f13 f14 f15 f16 f17 f18 f19 f20 f21 f22 f23 f24 f25 f26 f27 f28 : Addr} (X : K.In h) (G : h.Ns mainGlobals mg) (hfa : mg "law" = some (.ref fa))
    {od1 an1 od2 an2 od3 an3 od4 an4 od5 an5 od6 an6 od7 an7 od8 an8 od9 an9 od10 an10 od11 an11 od12 an12 od13 an13 od14 an14 od15 an15 od16 an16 od17 an17 od18 an18 od19 an19 od20 an20 od21 an21 od22 an22 od23 an23 od24 an24 od25 an25 od26 an26 od27 an27 od28 an28 : Option Addr} {sl1 sl2 sl3 sl4 sl5 sl6 sl7 sl8 sl9 sl10 sl11 sl12 sl13 sl14 sl15 sl16 sl17 sl18 sl19 sl20 sl21 sl22 sl23 sl24 sl25 sl26 sl27 sl28 : Array (Option Value)} {oc1 kV1 dc1 pm1 cd1 ct1 oc2 kV2 dc2 pm2 cd2 ct2 oc3 kV3 dc3 pm3 cd3 ct3 oc4 kV4 dc4 pm4 cd4 ct4 oc5 kV5 dc5 pm5 cd5 ct5 oc6 kV6 dc6 pm6 cd6 ct6 oc7 kV7 dc7 pm7 cd7 ct7 oc8 kV8 dc8 pm8 cd8 ct8 oc9 kV9 dc9 pm9 cd9 ct9 oc10 kV10 dc10 pm10 cd10 ct10 oc11 kV11 dc11 pm11 cd11 ct11 oc12 kV12 dc12 pm12 cd12 ct12 oc13 kV13 dc13 pm13 cd13 ct13 oc14 kV14 dc14 pm14 cd14 ct14 oc15 kV15 dc15 pm15 cd15 ct15 oc16 kV16 dc16 pm16 cd16 ct16 oc17 kV17 dc17 pm17 cd17 ct17 oc18 kV18 dc18 pm18 cd18 ct18 oc19 kV19 dc19 pm19 cd19 ct19 oc20 kV20 dc20 pm20 cd20 ct20 oc21 kV21 dc21 pm21 cd21 ct21 oc22 kV22 dc22 pm22 cd22 ct22 oc23 kV23 dc23 pm23 cd23 ct23 oc24 kV24 dc24 pm24 cd24 ct24 oc25 kV25 dc25 pm25 cd25 ct25 oc26 kV26 dc26 pm26 cd26 ct26 oc27 kV27 dc27 pm27 cd27 ct27 oc28 kV28 dc28 pm28 cd28 ct28 : Value} {tk1 tk2 tk3 tk4 : Tok}
    (a1 : PySem.W.nsIn K mainGlobals "is_text" = some (some (.ref f1))) (l1 : K.lookup f1 = some ⟨oc1, od1, .func (PySem.W.fnOf "is_text" "is_text" (defArgs sIsText) (defBody sIsText) (defScope sIsText) .none kV1 dc1 pm1 an1 cd1 ct1), sl1⟩) (c1 : PySem.W.codeIn K cd1 "is_text" = true) (k1 : PySem.W.keepIn K (.ref f1) = true)
    (a2 : PySem.W.nsIn K mainGlobals "is_line" = some (some (.ref f2))) (l2 : K.lookup f2 = some ⟨oc2, od2, .func (PySem.W.fnOf "is_line" "is_line" (defArgs sIsLine) (defBody sIsLine) (defScope sIsLine) .none kV2 dc2 pm2 an2 cd2 ct2), sl2⟩) (c2 : PySem.W.codeIn K cd2 "is_line" = true) (k2 : PySem.W.keepIn K (.ref f2) = true)
    (a3 : PySem.W.nsIn K mainGlobals "is_letter" = some (some (.ref f3))) (l3 : K.lookup f3 = some ⟨oc3, od3, .func (PySem.W.fnOf "is_letter" "is_letter" (defArgs sIsLetter) (defBody sIsLetter) (defScope sIsLetter) .none kV3 dc3 pm3 an3 cd3 ct3), sl3⟩) (c3 : PySem.W.codeIn K cd3 "is_letter" = true) (k3 : PySem.W.keepIn K (.ref f3) = true)
    (a4 : PySem.W.nsIn K mainGlobals "is_small_letter" = some (some (.ref f4))) (l4 : K.lookup f4 = some ⟨oc4, od4, .func (PySem.W.fnOf "is_small_letter" "is_small_letter" (defArgs sIsSmallLetter) (defBody sIsSmallLetter) (defScope sIsSmallLetter) .none kV4 dc4 pm4 an4 cd4 ct4), sl4⟩) (c4 : PySem.W.codeIn K cd4 "is_small_letter" = true) (k4 : PySem.W.keepIn K (.ref f4) = true)
    (a5 : PySem.W.nsIn K mainGlobals "is_figure" = some (some (.ref f5))) (l5 : K.lookup f5 = some ⟨oc5, od5, .func (PySem.W.fnOf "is_figure" "is_figure" (defArgs sIsFigure) (defBody sIsFigure) (defScope sIsFigure) .none kV5 dc5 pm5 an5 cd5 ct5), sl5⟩) (c5 : PySem.W.codeIn K cd5 "is_figure" = true) (k5 : PySem.W.keepIn K (.ref f5) = true)
    (a6 : PySem.W.nsIn K mainGlobals "_is_sign" = some (some (.ref f6))) (l6 : K.lookup f6 = some ⟨oc6, od6, .func (PySem.W.fnOf "_is_sign" "_is_sign" (defArgs sIsSign) (defBody sIsSign) (defScope sIsSign) .none kV6 dc6 pm6 an6 cd6 ct6), sl6⟩) (c6 : PySem.W.codeIn K cd6 "_is_sign" = true) (k6 : PySem.W.keepIn K (.ref f6) = true)
    (a7 : PySem.W.nsIn K mainGlobals "quoted" = some (some (.ref f7))) (l7 : K.lookup f7 = some ⟨oc7, od7, .func (PySem.W.fnOf "quoted" "quoted" (defArgs sQuoted) (defBody sQuoted) (defScope sQuoted) .none kV7 dc7 pm7 an7 cd7 ct7), sl7⟩) (c7 : PySem.W.codeIn K cd7 "quoted" = true) (k7 : PySem.W.keepIn K (.ref f7) = true)
    (a8 : PySem.W.nsIn K mainGlobals "_is_atom_sign" = some (some (.ref f8))) (l8 : K.lookup f8 = some ⟨oc8, od8, .func (PySem.W.fnOf "_is_atom_sign" "_is_atom_sign" (defArgs sIsAtom) (defBody sIsAtom) (defScope sIsAtom) .none kV8 dc8 pm8 an8 cd8 ct8), sl8⟩) (c8 : PySem.W.codeIn K cd8 "_is_atom_sign" = true) (k8 : PySem.W.keepIn K (.ref f8) = true)
    (a9 : PySem.W.nsIn K mainGlobals "_atom_end" = some (some (.ref f9))) (l9 : K.lookup f9 = some ⟨oc9, od9, .func (PySem.W.fnOf "_atom_end" "_atom_end" (defArgs sAtomEnd) (defBody sAtomEnd) (defScope sAtomEnd) .none kV9 dc9 pm9 an9 cd9 ct9), sl9⟩) (c9 : PySem.W.codeIn K cd9 "_atom_end" = true) (k9 : PySem.W.keepIn K (.ref f9) = true)
    (a10 : PySem.W.nsIn K mainGlobals "show_kind" = some (some (.ref f10))) (l10 : K.lookup f10 = some ⟨oc10, od10, .func (PySem.W.fnOf "show_kind" "show_kind" (defArgs sShowKind) (defBody sShowKind) (defScope sShowKind) .none kV10 dc10 pm10 an10 cd10 ct10), sl10⟩) (c10 : PySem.W.codeIn K cd10 "show_kind" = true) (k10 : PySem.W.keepIn K (.ref f10) = true)
    (a11 : PySem.W.nsIn K mainGlobals "is_kind" = some (some (.ref f11))) (l11 : K.lookup f11 = some ⟨oc11, od11, .func (PySem.W.fnOf "is_kind" "is_kind" (defArgs sIsKind) (defBody sIsKind) (defScope sIsKind) .none kV11 dc11 pm11 an11 cd11 ct11), sl11⟩) (c11 : PySem.W.codeIn K cd11 "is_kind" = true) (k11 : PySem.W.keepIn K (.ref f11) = true)
    (a12 : PySem.W.nsIn K mainGlobals "is_sort" = some (some (.ref f12))) (l12 : K.lookup f12 = some ⟨oc12, od12, .func (PySem.W.fnOf "is_sort" "is_sort" (defArgs sIsSort) (defBody sIsSort) (defScope sIsSort) .none kV12 dc12 pm12 an12 cd12 ct12), sl12⟩) (c12 : PySem.W.codeIn K cd12 "is_sort" = true) (k12 : PySem.W.keepIn K (.ref f12) = true)
    (a13 : PySem.W.nsIn K mainGlobals "_is_pair" = some (some (.ref f13))) (l13 : K.lookup f13 = some ⟨oc13, od13, .func (PySem.W.fnOf "_is_pair" "_is_pair" (defArgs sIsPair) (defBody sIsPair) (defScope sIsPair) .none kV13 dc13 pm13 an13 cd13 ct13), sl13⟩) (c13 : PySem.W.codeIn K cd13 "_is_pair" = true) (k13 : PySem.W.keepIn K (.ref f13) = true)
    (a14 : PySem.W.nsIn K mainGlobals "_is_pair_name" = some (some (.ref f14))) (l14 : K.lookup f14 = some ⟨oc14, od14, .func (PySem.W.fnOf "_is_pair_name" "_is_pair_name" (defArgs sIsPairName) (defBody sIsPairName) (defScope sIsPairName) .none kV14 dc14 pm14 an14 cd14 ct14), sl14⟩) (c14 : PySem.W.codeIn K cd14 "_is_pair_name" = true) (k14 : PySem.W.keepIn K (.ref f14) = true)
    (a15 : PySem.W.nsIn K mainGlobals "_is_word" = some (some (.ref f15))) (l15 : K.lookup f15 = some ⟨oc15, od15, .func (PySem.W.fnOf "_is_word" "_is_word" (defArgs sIsWord) (defBody sIsWord) (defScope sIsWord) .none kV15 dc15 pm15 an15 cd15 ct15), sl15⟩) (c15 : PySem.W.codeIn K cd15 "_is_word" = true) (k15 : PySem.W.keepIn K (.ref f15) = true)
    (a16 : PySem.W.nsIn K mainGlobals "_show_pair" = some (some (.ref f16))) (l16 : K.lookup f16 = some ⟨oc16, od16, .func (PySem.W.fnOf "_show_pair" "_show_pair" (defArgs sShowPair) (defBody sShowPair) (defScope sShowPair) .none kV16 dc16 pm16 an16 cd16 ct16), sl16⟩) (c16 : PySem.W.codeIn K cd16 "_show_pair" = true) (k16 : PySem.W.keepIn K (.ref f16) = true)
    (a17 : PySem.W.nsIn K mainGlobals "_law_cell_at" = some (some (.ref f17))) (l17 : K.lookup f17 = some ⟨oc17, od17, .func (PySem.W.fnOf "_law_cell_at" "_law_cell_at" (defArgs sCellAt) (defBody sCellAt) (defScope sCellAt) .none kV17 dc17 pm17 an17 cd17 ct17), sl17⟩) (c17 : PySem.W.codeIn K cd17 "_law_cell_at" = true) (k17 : PySem.W.keepIn K (.ref f17) = true)
    (a18 : PySem.W.nsIn K mainGlobals "_law_mixed" = some (some (.ref f18))) (l18 : K.lookup f18 = some ⟨oc18, od18, .func (PySem.W.fnOf "_law_mixed" "_law_mixed" (defArgs sMixed) (defBody sMixed) (defScope sMixed) .none kV18 dc18 pm18 an18 cd18 ct18), sl18⟩) (c18 : PySem.W.codeIn K cd18 "_law_mixed" = true) (k18 : PySem.W.keepIn K (.ref f18) = true)
    (a19 : PySem.W.nsIn K mainGlobals "_law_source" = some (some (.ref f19))) (l19 : K.lookup f19 = some ⟨oc19, od19, .func (PySem.W.fnOf "_law_source" "_law_source" (defArgs sSource) (defBody sSource) (defScope sSource) .none kV19 dc19 pm19 an19 cd19 ct19), sl19⟩) (c19 : PySem.W.codeIn K cd19 "_law_source" = true) (k19 : PySem.W.keepIn K (.ref f19) = true)
    (a20 : PySem.W.nsIn K mainGlobals "_law_next" = some (some (.ref f20))) (l20 : K.lookup f20 = some ⟨oc20, od20, .func (PySem.W.fnOf "_law_next" "_law_next" (defArgs sNext) (defBody sNext) (defScope sNext) .none kV20 dc20 pm20 an20 cd20 ct20), sl20⟩) (c20 : PySem.W.codeIn K cd20 "_law_next" = true) (k20 : PySem.W.keepIn K (.ref f20) = true)
    (a21 : PySem.W.nsIn K mainGlobals "_law_signs" = some (some (.ref f21))) (l21 : K.lookup f21 = some ⟨oc21, od21, .func (PySem.W.fnOf "_law_signs" "_law_signs" (defArgs sSigns) (defBody sSigns) (defScope sSigns) .none kV21 dc21 pm21 an21 cd21 ct21), sl21⟩) (c21 : PySem.W.codeIn K cd21 "_law_signs" = true) (k21 : PySem.W.keepIn K (.ref f21) = true)
    (a22 : PySem.W.nsIn K mainGlobals "_law_is_atom" = some (some (.ref f22))) (l22 : K.lookup f22 = some ⟨oc22, od22, .func (PySem.W.fnOf "_law_is_atom" "_law_is_atom" (defArgs sLawIsAtom) (defBody sLawIsAtom) (defScope sLawIsAtom) .none kV22 dc22 pm22 an22 cd22 ct22), sl22⟩) (c22 : PySem.W.codeIn K cd22 "_law_is_atom" = true) (k22 : PySem.W.keepIn K (.ref f22) = true)
    (a23 : PySem.W.nsIn K mainGlobals "_law_quoted" = some (some (.ref f23))) (l23 : K.lookup f23 = some ⟨oc23, od23, .func (PySem.W.fnOf "_law_quoted" "_law_quoted" (defArgs sLawQuoted) (defBody sLawQuoted) (defScope sLawQuoted) .none kV23 dc23 pm23 an23 cd23 ct23), sl23⟩) (c23 : PySem.W.codeIn K cd23 "_law_quoted" = true) (k23 : PySem.W.keepIn K (.ref f23) = true)
    (a24 : PySem.W.nsIn K mainGlobals "_law_plain" = some (some (.ref f24))) (l24 : K.lookup f24 = some ⟨oc24, od24, .func (PySem.W.fnOf "_law_plain" "_law_plain" (defArgs sLawPlain) (defBody sLawPlain) (defScope sLawPlain) .none kV24 dc24 pm24 an24 cd24 ct24), sl24⟩) (c24 : PySem.W.codeIn K cd24 "_law_plain" = true) (k24 : PySem.W.keepIn K (.ref f24) = true)
    (a25 : PySem.W.nsIn K mainGlobals "_law_title" = some (some (.ref f25))) (l25 : K.lookup f25 = some ⟨oc25, od25, .func (PySem.W.fnOf "_law_title" "_law_title" (defArgs sLawTitle) (defBody sLawTitle) (defScope sLawTitle) .none kV25 dc25 pm25 an25 cd25 ct25), sl25⟩) (c25 : PySem.W.codeIn K cd25 "_law_title" = true) (k25 : PySem.W.keepIn K (.ref f25) = true)
    (a26 : PySem.W.nsIn K mainGlobals "_law_kind" = some (some (.ref f26))) (l26 : K.lookup f26 = some ⟨oc26, od26, .func (PySem.W.fnOf "_law_kind" "_law_kind" (defArgs sLawKind) (defBody sLawKind) (defScope sLawKind) .none kV26 dc26 pm26 an26 cd26 ct26), sl26⟩) (c26 : PySem.W.codeIn K cd26 "_law_kind" = true) (k26 : PySem.W.keepIn K (.ref f26) = true)
    (a27 : PySem.W.nsIn K mainGlobals "_law_due" = some (some (.ref f27))) (l27 : K.lookup f27 = some ⟨oc27, od27, .func (PySem.W.fnOf "_law_due" "_law_due" (defArgs sDue) (defBody sDue) (defScope sDue) .none kV27 dc27 pm27 an27 cd27 ct27), sl27⟩) (c27 : PySem.W.codeIn K cd27 "_law_due" = true) (k27 : PySem.W.keepIn K (.ref f27) = true)
    (a28 : PySem.W.nsIn K mainGlobals "law" = some (some (.ref f28))) (l28 : K.lookup f28 = some ⟨oc28, od28, .func (PySem.W.fnOf "law" "law" (defArgs sLaw) (defBody sLaw) (defScope sLaw) .none kV28 dc28 pm28 an28 cd28 ct28), sl28⟩) (c28 : PySem.W.codeIn K cd28 "law" = true) (k28 : PySem.W.keepIn K (.ref f28) = true)
    (z1 : PySem.W.nsIn K mainGlobals "isinstance" = some none) (z2 : PySem.W.nsIn K mainGlobals "str" = some none) (z3 : PySem.W.nsIn K mainGlobals "list" = some none) (z4 : PySem.W.nsIn K mainGlobals "tuple" = some none) (z5 : PySem.W.nsIn K mainGlobals "all" = some none) (z6 : PySem.W.nsIn K mainGlobals "ord" = some none) (z7 : PySem.W.nsIn K mainGlobals "len" = some none) (z8 : PySem.W.nsIn K mainGlobals "int" = some none) (z9 : PySem.W.nsIn K mainGlobals "range" = some none) (z10 : PySem.W.nsIn K mainGlobals "max" = some none) (z11 : PySem.W.nsIn K mainGlobals "min" = some none) (z12 : PySem.W.nsIn K mainGlobals "enumerate" = some none) (z13 : PySem.W.nsIn K mainGlobals "sum" = some none) (z14 : PySem.W.nsIn K mainGlobals "repr" = some none) (v1 : PySem.W.nsIn K mainGlobals "PERCENT" = some (some (.int 37 tk1))) (v2 : PySem.W.nsIn K mainGlobals "ATOM_SIGNS" = some (some (.str atomText tk2))) (v3 : PySem.W.nsIn K mainGlobals "WORD_SIZE" = some (some (.int 20 tk3))) (v4 : PySem.W.nsIn K mainGlobals "PIECE_SIZE" = some (some (.int 40 tk4))) :
    ∃ fd : FuncData, (∀ (s : Shared) (v : Value), BindsTo s fd ⟨[v], []⟩ [("_law_script", v)]) ∧ ∀ base : Heap, K.In base → base.Ns mainGlobals mg → FnOkG l.prog w K mg base CX0 9 fa fd ["_law_script"] (spLaw K) := by
  have e := hfa.symm.trans (PySem.W.mg_of X G a28)
  cases e
  have A1 : FnAt K mg "is_text" sIsText := ⟨f1, _, fun_mk (st := sIsText) l1 c1 k1, PySem.W.mg_of X G a1⟩
  have A2 : FnAt K mg "is_line" sIsLine := ⟨f2, _, fun_mk (st := sIsLine) l2 c2 k2, PySem.W.mg_of X G a2⟩
  have A3 : FnAt K mg "is_letter" sIsLetter := ⟨f3, _, fun_mk (st := sIsLetter) l3 c3 k3, PySem.W.mg_of X G a3⟩
  have A4 : FnAt K mg "is_small_letter" sIsSmallLetter := ⟨f4, _, fun_mk (st := sIsSmallLetter) l4 c4 k4, PySem.W.mg_of X G a4⟩
  have A5 : FnAt K mg "is_figure" sIsFigure := ⟨f5, _, fun_mk (st := sIsFigure) l5 c5 k5, PySem.W.mg_of X G a5⟩
  have A6 : FnAt K mg "_is_sign" sIsSign := ⟨f6, _, fun_mk (st := sIsSign) l6 c6 k6, PySem.W.mg_of X G a6⟩
  have A7 : FnAt K mg "quoted" sQuoted := ⟨f7, _, fun_mk (st := sQuoted) l7 c7 k7, PySem.W.mg_of X G a7⟩
  have A8 : FnAt K mg "_is_atom_sign" sIsAtom := ⟨f8, _, fun_mk (st := sIsAtom) l8 c8 k8, PySem.W.mg_of X G a8⟩
  have A9 : FnAt K mg "_atom_end" sAtomEnd := ⟨f9, _, fun_mk (st := sAtomEnd) l9 c9 k9, PySem.W.mg_of X G a9⟩
  have A10 : FnAt K mg "show_kind" sShowKind := ⟨f10, _, fun_mk (st := sShowKind) l10 c10 k10, PySem.W.mg_of X G a10⟩
  have A11 : FnAt K mg "is_kind" sIsKind := ⟨f11, _, fun_mk (st := sIsKind) l11 c11 k11, PySem.W.mg_of X G a11⟩
  have A12 : FnAt K mg "is_sort" sIsSort := ⟨f12, _, fun_mk (st := sIsSort) l12 c12 k12, PySem.W.mg_of X G a12⟩
  have A13 : FnAt K mg "_is_pair" sIsPair := ⟨f13, _, fun_mk (st := sIsPair) l13 c13 k13, PySem.W.mg_of X G a13⟩
  have A14 : FnAt K mg "_is_pair_name" sIsPairName := ⟨f14, _, fun_mk (st := sIsPairName) l14 c14 k14, PySem.W.mg_of X G a14⟩
  have A15 : FnAt K mg "_is_word" sIsWord := ⟨f15, _, fun_mk (st := sIsWord) l15 c15 k15, PySem.W.mg_of X G a15⟩
  have A16 : FnAt K mg "_show_pair" sShowPair := ⟨f16, _, fun_mk (st := sShowPair) l16 c16 k16, PySem.W.mg_of X G a16⟩
  have A17 : FnAt K mg "_law_cell_at" sCellAt := ⟨f17, _, fun_mk (st := sCellAt) l17 c17 k17, PySem.W.mg_of X G a17⟩
  have A18 : FnAt K mg "_law_mixed" sMixed := ⟨f18, _, fun_mk (st := sMixed) l18 c18 k18, PySem.W.mg_of X G a18⟩
  have A19 : FnAt K mg "_law_source" sSource := ⟨f19, _, fun_mk (st := sSource) l19 c19 k19, PySem.W.mg_of X G a19⟩
  have A20 : FnAt K mg "_law_next" sNext := ⟨f20, _, fun_mk (st := sNext) l20 c20 k20, PySem.W.mg_of X G a20⟩
  have A21 : FnAt K mg "_law_signs" sSigns := ⟨f21, _, fun_mk (st := sSigns) l21 c21 k21, PySem.W.mg_of X G a21⟩
  have A22 : FnAt K mg "_law_is_atom" sLawIsAtom := ⟨f22, _, fun_mk (st := sLawIsAtom) l22 c22 k22, PySem.W.mg_of X G a22⟩
  have A23 : FnAt K mg "_law_quoted" sLawQuoted := ⟨f23, _, fun_mk (st := sLawQuoted) l23 c23 k23, PySem.W.mg_of X G a23⟩
  have A24 : FnAt K mg "_law_plain" sLawPlain := ⟨f24, _, fun_mk (st := sLawPlain) l24 c24 k24, PySem.W.mg_of X G a24⟩
  have A25 : FnAt K mg "_law_title" sLawTitle := ⟨f25, _, fun_mk (st := sLawTitle) l25 c25 k25, PySem.W.mg_of X G a25⟩
  have A26 : FnAt K mg "_law_kind" sLawKind := ⟨f26, _, fun_mk (st := sLawKind) l26 c26 k26, PySem.W.mg_of X G a26⟩
  have A27 : FnAt K mg "_law_due" sDue := ⟨f27, _, fun_mk (st := sDue) l27 c27 k27, PySem.W.mg_of X G a27⟩
  have F28 := fun_mk (st := sLaw) l28 c28 k28
  have m_isinstance : mg "isinstance" = none := PySem.W.mg_none_of X G z1
  have m_str : mg "str" = none := PySem.W.mg_none_of X G z2
  have m_list : mg "list" = none := PySem.W.mg_none_of X G z3
  have m_tuple : mg "tuple" = none := PySem.W.mg_none_of X G z4
  have m_all : mg "all" = none := PySem.W.mg_none_of X G z5
  have m_ord : mg "ord" = none := PySem.W.mg_none_of X G z6
  have m_len : mg "len" = none := PySem.W.mg_none_of X G z7
  have m_int : mg "int" = none := PySem.W.mg_none_of X G z8
  have m_range : mg "range" = none := PySem.W.mg_none_of X G z9
  have m_max : mg "max" = none := PySem.W.mg_none_of X G z10
  have m_min : mg "min" = none := PySem.W.mg_none_of X G z11
  have m_enumerate : mg "enumerate" = none := PySem.W.mg_none_of X G z12
  have m_sum : mg "sum" = none := PySem.W.mg_none_of X G z13
  have m_repr : mg "repr" = none := PySem.W.mg_none_of X G z14
  have m_PERCENT := PySem.W.mg_of X G v1
  have m_ATOM_SIGNS := PySem.W.mg_of X G v2
  have m_WORD_SIZE := PySem.W.mg_of X G v3
  have m_PIECE_SIZE := PySem.W.mg_of X G v4
  refine ⟨PySem.W.fnOf "law" "law" (defArgs sLaw) (defBody sLaw) (defScope sLaw) .none kV28 dc28 pm28 an28 cd28 ct28, fun s v => .of_eq rfl, fun base _ _ => ?_⟩
  have T1 := r_is_sign (P := l.prog) (w := w) (base := base) A6 m_ord m_PERCENT
  have T2 := r_is_text A1 T1 m_isinstance m_str m_all
  have T3 := r_is_line A2 T2
  have T4 := r_is_letter (P := l.prog) (w := w) (base := base) A3
  have T5 := r_is_figure (P := l.prog) (w := w) (base := base) A5
  have T6 := r_is_atom A8 T4 T5 m_ATOM_SIGNS
  have T7 := r_atom_end A9 T6 m_len
  have K1 := r_is_small (P := l.prog) (w := w) (base := base) A4
  have K2 := r_quoted A7 T3 T7 m_len
  have K3 := r_is_word A15 K1 T3 T5 m_len m_all m_WORD_SIZE
  have K4 := r_is_sort A12 K3
  have K5 := r_is_pair_name A14 K3
  have K6 := r_is_pairG A13 K5 T3 m_isinstance m_tuple m_len
  have K7 := r_is_kindG A11 K4 K6 m_isinstance m_tuple m_list m_len m_all
  have K8 := r_show_pair A16 K2 m_len m_range m_enumerate m_PIECE_SIZE
  have K9 := r_show_kind A10 K7 K8
  have W1 := r_cell_at (P := l.prog) (w := w) (base := base) A17 m_len
  have W2 := r_mixed (P := l.prog) (w := w) (base := base) A18
  have W3 := r_source A19 W1 W2 m_len
  have W4e := r_next A20 W2
  have W4 := next_m W4e
  have W5 := r_signs A21 W4e m_len m_range
  have D1 := r_is_atomL (P := l.prog) (w := w) (base := base) A22
  have D2 := r_quotL (P := l.prog) (w := w) (base := base) A23 m_int
  have D3 := r_plainL A24 D1 D2
  have D4 := r_title A25 W4 W5
  have D5 := r_kindD A26 W4 D4 W5 m_len m_range m_sum
  have D6 := r_dueK A27 D3 m_len m_range m_str
  exact ok_law F28 W3 D5 K9 D6 m_len m_range m_max m_min m_str m_isinstance m_repr
end FL
open PySem PySem.W PyProof.Rows
set_option maxRecDepth 100000 in
set_option maxHeartbeats 8000000 in
theorem PySem.Challenge.cw_foldletter_k31_kinds_shown_holds : PySem.Challenge.rw_foldletter_k31_kinds_shown.Holds := by
  w_on; o_law; k_head; (case hw => w_witness2)
  k_fill
  refine FL.walk_ofG (l := PySem.Challenge.rw_foldletter_k31_kinds_shown) (n := 63) (k := 9) (x := "_law_script") (CX := fun _ => L2.CX0) (sp := fun w => FL.spLaw _) rfl (by decide) rfl ⟨rfl, by decide, by decide⟩ (fun w h Y => PySem.W.kIn_of Y) ?F (fun _ _ a ns hl _ hS => ⟨a, ns, rfl, hS, hl, fun _ => rfl⟩) (fun _ _ _ _ _ h => h)
  case F =>
    intro w mg fa h KX G hmg
    refine' FL.all_mk KX G hmg ?a1 ?l1 ?c1 ?k1 ?a2 ?l2 ?c2 ?k2 ?a3 ?l3 ?c3 ?k3 ?a4 ?l4 ?c4 ?k4 ?a5 ?l5 ?c5 ?k5 ?a6 ?l6 ?c6 ?k6 ?a7 ?l7 ?c7 ?k7 ?a8 ?l8 ?c8 ?k8 ?a9 ?l9 ?c9 ?k9 ?a10 ?l10 ?c10 ?k10 ?a11 ?l11 ?c11 ?k11 ?a12 ?l12 ?c12 ?k12 ?a13 ?l13 ?c13 ?k13 ?a14 ?l14 ?c14 ?k14 ?a15 ?l15 ?c15 ?k15 ?a16 ?l16 ?c16 ?k16 ?a17 ?l17 ?c17 ?k17 ?a18 ?l18 ?c18 ?k18 ?a19 ?l19 ?c19 ?k19 ?a20 ?l20 ?c20 ?k20 ?a21 ?l21 ?c21 ?k21 ?a22 ?l22 ?c22 ?k22 ?a23 ?l23 ?c23 ?k23 ?a24 ?l24 ?c24 ?k24 ?a25 ?l25 ?c25 ?k25 ?a26 ?l26 ?c26 ?k26 ?a27 ?l27 ?c27 ?k27 ?a28 ?l28 ?c28 ?k28 ?z1 ?z2 ?z3 ?z4 ?z5 ?z6 ?z7 ?z8 ?z9 ?z10 ?z11 ?z12 ?z13 ?z14 ?v1 ?v2 ?v3 ?v4
    (case a1 => k_is); (case l1 => k_is); (case c1 => k_is); (case k1 => k_is); (case a2 => k_is); (case l2 => k_is); (case c2 => k_is); (case k2 => k_is); (case a3 => k_is); (case l3 => k_is); (case c3 => k_is); (case k3 => k_is); (case a4 => k_is); (case l4 => k_is); (case c4 => k_is); (case k4 => k_is); (case a5 => k_is); (case l5 => k_is); (case c5 => k_is); (case k5 => k_is); (case a6 => k_is); (case l6 => k_is); (case c6 => k_is); (case k6 => k_is); (case a7 => k_is); (case l7 => k_is); (case c7 => k_is); (case k7 => k_is); (case a8 => k_is); (case l8 => k_is); (case c8 => k_is); (case k8 => k_is); (case a9 => k_is); (case l9 => k_is); (case c9 => k_is); (case k9 => k_is); (case a10 => k_is); (case l10 => k_is); (case c10 => k_is); (case k10 => k_is); (case a11 => k_is); (case l11 => k_is); (case c11 => k_is); (case k11 => k_is); (case a12 => k_is); (case l12 => k_is); (case c12 => k_is); (case k12 => k_is); (case a13 => k_is); (case l13 => k_is); (case c13 => k_is); (case k13 => k_is); (case a14 => k_is); (case l14 => k_is); (case c14 => k_is); (case k14 => k_is); (case a15 => k_is); (case l15 => k_is); (case c15 => k_is); (case k15 => k_is); (case a16 => k_is); (case l16 => k_is); (case c16 => k_is); (case k16 => k_is); (case a17 => k_is); (case l17 => k_is); (case c17 => k_is); (case k17 => k_is); (case a18 => k_is); (case l18 => k_is); (case c18 => k_is); (case k18 => k_is); (case a19 => k_is); (case l19 => k_is); (case c19 => k_is); (case k19 => k_is); (case a20 => k_is); (case l20 => k_is); (case c20 => k_is); (case k20 => k_is); (case a21 => k_is); (case l21 => k_is); (case c21 => k_is); (case k21 => k_is); (case a22 => k_is); (case l22 => k_is); (case c22 => k_is); (case k22 => k_is); (case a23 => k_is); (case l23 => k_is); (case c23 => k_is); (case k23 => k_is); (case a24 => k_is); (case l24 => k_is); (case c24 => k_is); (case k24 => k_is); (case a25 => k_is); (case l25 => k_is); (case c25 => k_is); (case k25 => k_is); (case a26 => k_is); (case l26 => k_is); (case c26 => k_is); (case k26 => k_is); (case a27 => k_is); (case l27 => k_is); (case c27 => k_is); (case k27 => k_is); (case a28 => k_is); (case l28 => k_is); (case c28 => k_is); (case k28 => k_is); (case z1 => k_is); (case z2 => k_is); (case z3 => k_is); (case z4 => k_is); (case z5 => k_is); (case z6 => k_is); (case z7 => k_is); (case z8 => k_is); (case z9 => k_is); (case z10 => k_is); (case z11 => k_is); (case z12 => k_is); (case z13 => k_is); (case z14 => k_is); (case v1 => k_is); (case v2 => k_is); (case v3 => k_is); (case v4 => k_is)
