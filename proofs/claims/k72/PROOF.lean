import PyProof.Rows.All
import Wide.All
import OpenK.AllK
import Wide.FinOn
import HandS.ForMost
import HandS.Exc
import HandS.TryOnly
import HandS.WordsExc
import HandS.Wide
import HandS.Gcd
import HandS.IsInst
import HandS.Codes
import HandS.Defaults
import HandS.Head0
import HandS.Head1
import HandS.Head2
import HandS.Head3
import HandS.HeadEnd
import HandS.HeadHook1
import HandS.OwnEq
import HandS.HotCalls
import HandS.ExcInitHot
import HandS.SuiteRaise
import HandS.RaiseFrom
import HandS.DictComp
import HandS.ExcInit
import HandS.ExcField
import HandS.ExcIs
import HandS.TryMany
import KE.KExcIs
import KE.KOpsOwn
import KE.SortKeyHeap
import KE.SortData
import HandS.SortKw
import HandS.RaiseMore
import HandS.DictTup
import HandS.Conv
import HandS.Style
import HandS.Flow
import HandS.StrMore
import HandS.Property
import KE.KxField
import HandS.WideBits
import HandS.FStr
import KE.KCallOwn
import HandS.ClsMeth
import HandS.Comp
import HandS.Iter
import HandS.Walk
import PySem.Challenge.RW_fontgap_k72_errors_of_their_own_kinds
set_option Elab.async false
set_option maxRecDepth 100000
set_option maxHeartbeats 4000000
set_option exponentiation.threshold 2000
set_option linter.all false
/-! ### the head: one run of the top, what it has written looked at by places -/
namespace HdK
open PySem PySem.W PySem.Calls PyProof.Rows L2
def top (i : Nat) : Stmt := PySem.Challenge.pw_fontgap_k72_errors_of_their_own_kinds.main.body.getD i (.Pass ⟨0, 0, 0, 0⟩)
abbrev R : OpenRow := OpenLaw.row PySem.Challenge.rw_fontgap_k72_errors_of_their_own_kinds
abbrev qv : Program := view R.prog [0, 72]
def names0 : List PySem.Str := [("_wall" : PySem.Str), ("FontError" : PySem.Str), ("InvalidGlyph" : PySem.Str), ("InvalidNumber" : PySem.Str), ("UnknownGlyph" : PySem.Str), ("TooMany" : PySem.Str), ("Overlap" : PySem.Str), ("InUse" : PySem.Str), ("DeedRefused" : PySem.Str), ("InvalidLine" : PySem.Str), ("UnknownLetter" : PySem.Str), ("InvalidState" : PySem.Str), ("InvalidText" : PySem.Str), ("Contradiction" : PySem.Str), ("NameTaken" : PySem.Str), ("UnknownName" : PySem.Str), ("UnknownKind" : PySem.Str), ("InvalidOptions" : PySem.Str), ("NothingToUndo" : PySem.Str), ("NoCommonLetters" : PySem.Str), ("is_whole" : PySem.Str), ("is_between" : PySem.Str), ("check_between" : PySem.Str), ("is_digits" : PySem.Str), ("Font" : PySem.Str), ("font_place" : PySem.Str), ("pair_place" : PySem.Str), ("is_glyph_name" : PySem.Str), ("write" : PySem.Str), ("first_glyph" : PySem.Str), ("glyph_row" : PySem.Str), ("added_width" : PySem.Str), ("Stepper" : PySem.Str), ("beginnings" : PySem.Str), ("Joined" : PySem.Str)]
def names1 : List PySem.Str := [("Side" : PySem.Str), ("Paths" : PySem.Str), ("closed_rings" : PySem.Str), ("ring_text" : PySem.Str), ("walk" : PySem.Str), ("gap_rows" : PySem.Str), ("rated_paths" : PySem.Str), ("Ratio" : PySem.Str), ("is_term" : PySem.Str), ("terms" : PySem.Str), ("written" : PySem.Str), ("worst_rate" : PySem.Str), ("check_common" : PySem.Str), ("worst_ring" : PySem.Str), ("plain_ring" : PySem.Str), ("best_ring" : PySem.Str), ("_law_bag" : PySem.Str), ("_law_take" : PySem.Str), ("_law_text" : PySem.Str), ("_law_glyphs" : PySem.Str), ("_law_places" : PySem.Str), ("_law_names" : PySem.Str), ("_law_plain" : PySem.Str), ("_law_kinds" : PySem.Str), ("BLANK" : PySem.Str), ("START" : PySem.Str), ("__name__" : PySem.Str)]
def names : List PySem.Str := names0 ++ names1
def places0 : List Addr := [3, 2, 59, 76, 79, 95, 98, 114, 117, 133, 136, 152, 155, 171, 174, 190, 193, 209, 212, 228, 231, 247, 250, 266, 269, 285, 288, 304, 307, 323, 326, 342, 345, 361, 364, 376, 388, 397, 404, 411]
def places1 : List Addr := [426, 427, 434, 466, 473, 501, 513, 525, 526, 531, 532, 606, 627, 634, 648, 655, 662, 669, 674, 688, 695, 712, 723, 730, 737, 744, 758, 765, 766, 780, 794, 804, 813, 825, 839, 840, 903, 910, 913, 929]
def places2 : List Addr := [943, 946, 1022, 1029, 1092, 1140, 1172, 1179, 1207, 1214, 1219, 1226, 1233, 1240, 1247, 1252, 1259, 58, 75, 78, 94, 97, 113, 116, 132, 135, 151, 154, 170, 173, 189, 192, 208, 211, 227, 230, 246, 249, 265, 268]
def places3 : List Addr := [284, 287, 303, 306, 322, 325, 341, 344, 360, 363, 375, 387, 396, 403, 410, 433, 465, 472, 500, 512, 524, 530, 605, 626, 633, 647, 654, 661, 668, 673, 687, 694, 711, 722, 729, 736, 743, 757, 764, 779]
def places4 : List Addr := [793, 803, 812, 824, 838, 902, 909, 912, 928, 942, 945, 1028, 1091, 1139, 1171, 1178, 1206, 1213, 1218, 1225, 1232, 1239, 1246, 1251, 1258]
def places : List Addr := places0 ++ places1 ++ places2 ++ places3 ++ places4
/-- the written part: the objects at the places -/
def part (g : Addr → Option Obj) : Frag := He.frG g places
/-- a def's object, as far as the text fixes it -/
abbrev FnX : Type := Option (PySem.Str × PySem.Str × Arguments × FuncBody × Scope × Addr × List (PySem.Str × Addr) × Value × Value × Addr)
def foX (K : Frag) (f : Addr) : FnX := (K.lookup f).bind fun ob => match ob.data with
  | .func v => some (v.name, v.qualname, v.params, v.body, v.scope, v.globals, v.closure, v.defaults, v.kwdefaults, v.builtins)
  | _ => none
def cdX (K : Frag) (f : Addr) (q : PySem.Str) : Bool := match K.lookup f with
  | some ob => (match ob.data with
    | .func v => codeIn K v.code q
    | _ => false)
  | none => false
theorem fnX {K : Frag} {f : Addr} {n q : PySem.Str} {a : Arguments} {b : List Stmt} {s : Scope} {D kV : Value} (e : foX K f = some (n, q, a, .stmts b, s, mainGlobals, [], D, kV, builtinsNs)) (c : cdX K f q = true) :
    ∃ oc od sl dc pm an cd ct, K.lookup f = some ⟨oc, od, .func (fnOf n q a b s D kV dc pm an cd ct), sl⟩ ∧ codeIn K cd q = true := by
  unfold foX at e
  unfold cdX at c
  generalize hz : K.lookup f = z at e c
  cases z with
  | none => cases c
  | some ob =>
    obtain ⟨oc, od, dt, sl⟩ := ob
    cases dt with
    | func v =>
      have e1 := Option.some.inj e
      simp only [Prod.mk.injEq] at e1
      obtain ⟨r1, r2, r3, r4, r5, r6, r7, r8, r9, r10⟩ := e1
      refine ⟨oc, od, sl, v.doc, v.pyModule, v.annotations, v.code, v.closureTuple, ?_, c⟩
      rw [← r1, ← r2, ← r3, ← r5, ← r8, ← r9]
      obtain ⟨v1, v2, v3, v4, v5, v6, v7, v8, v9, v10, v11, v12, v13, v14, v15⟩ := v
      dsimp only at r4 r6 r7 r10 ⊢
      rw [r4, r6, r7, r10]
    | _ => cases c
/-- an error's class -/
def xcX (K : Frag) (C : Addr) : Bool := match K.lookup C with
  | some ob => decide (ob.cls = .type "type") && (match ob.data with
      | .cls v => decide (v.mro = [.ref C, .ref 59, .type "ValueError", .type "Exception", .type "BaseException", .type "object"]) && v.hasDict && !v.hasDel
      | _ => false) && (match ob.slots.toList with
      | [_, _, _, _, some u, _] => decide (u = .builtin "ValueError.__new__")
      | _ => false)
  | none => false
theorem xcX_ok {K : Frag} {C : Addr} (h : xcX K C = true) : ∃ nm q N bs sn sub ab col dd k0 k1 k2 k3 k5,
    K.lookup C = some (excClassObj nm q C N bs [.ref 59, .type "ValueError", .type "Exception", .type "BaseException", .type "object"] true sn sub ab col dd k0 k1 k2 k3 k5 "ValueError.__new__") := by
  unfold xcX at h
  generalize hz : K.lookup C = z at h
  cases z with
  | none => cases h
  | some ob =>
    obtain ⟨oc, od, dt, ⟨sl⟩⟩ := ob
    dsimp only at h
    obtain ⟨h12, h3⟩ := Bool.and_eq_true_iff.mp h
    obtain ⟨h1, h2⟩ := Bool.and_eq_true_iff.mp h12
    have g1 := of_decide_eq_true h1
    subst g1
    cases dt with
    | cls v =>
      obtain ⟨v1, v2, v3, v4, v5, v6, v7, v8, v9, v10, v11⟩ := v
      dsimp only at h2
      obtain ⟨h5, h6⟩ := Bool.and_eq_true_iff.mp h2
      obtain ⟨h7, h8⟩ := Bool.and_eq_true_iff.mp h5
      have g2 := of_decide_eq_true h7
      subst g2
      cases v6 with
      | false => cases h8
      | true =>
        cases v11 with
        | true => cases h6
        | false =>
          match sl, h3 with
          | [k0, k1, k2, k3, some u, k5], h3 =>
            have g3 := of_decide_eq_true h3
            subst g3
            exact ⟨v1, v5, v4, v2, v7, v8, v9, v10, od, k0, k1, k2, k3, k5, rfl⟩
    | _ => cases h2
def oN0 (K : Frag) : List (Option (Option Value)) := [
  PySem.W.nsIn K mainGlobals "InvalidGlyph",
  PySem.W.nsIn K mainGlobals "InvalidNumber",
  PySem.W.nsIn K mainGlobals "UnknownGlyph",
  PySem.W.nsIn K mainGlobals "TooMany",
  PySem.W.nsIn K mainGlobals "Overlap",
  PySem.W.nsIn K mainGlobals "InUse",
  PySem.W.nsIn K mainGlobals "DeedRefused",
  PySem.W.nsIn K mainGlobals "InvalidLine",
  PySem.W.nsIn K mainGlobals "UnknownLetter",
  PySem.W.nsIn K mainGlobals "InvalidState",
  PySem.W.nsIn K mainGlobals "InvalidText",
  PySem.W.nsIn K mainGlobals "Contradiction",
  PySem.W.nsIn K mainGlobals "NameTaken",
  PySem.W.nsIn K mainGlobals "UnknownName",
  PySem.W.nsIn K mainGlobals "UnknownKind",
  PySem.W.nsIn K mainGlobals "InvalidOptions",
  PySem.W.nsIn K mainGlobals "NothingToUndo",
  PySem.W.nsIn K mainGlobals "NoCommonLetters",
  PySem.W.nsIn K mainGlobals "FontError",
  PySem.W.nsIn K mainGlobals "Ratio",
  PySem.W.nsIn K mainGlobals "Font",
  PySem.W.nsIn K mainGlobals "Stepper",
  PySem.W.nsIn K mainGlobals "Joined",
  PySem.W.nsIn K mainGlobals "Side"]
def oN0v : List (Option (Option Value)) := [
  some (some (.ref 79)),
  some (some (.ref 98)),
  some (some (.ref 117)),
  some (some (.ref 136)),
  some (some (.ref 155)),
  some (some (.ref 174)),
  some (some (.ref 193)),
  some (some (.ref 212)),
  some (some (.ref 231)),
  some (some (.ref 250)),
  some (some (.ref 269)),
  some (some (.ref 288)),
  some (some (.ref 307)),
  some (some (.ref 326)),
  some (some (.ref 345)),
  some (some (.ref 364)),
  some (some (.ref 376)),
  some (some (.ref 388)),
  some (some (.ref 59)),
  some (some (.ref 1140)),
  some (some (.ref 712)),
  some (some (.ref 804)),
  some (some (.ref 913)),
  some (some (.ref 946))]
def oN1 (K : Frag) : List (Option (Option Value)) := [
  PySem.W.nsIn K mainGlobals "is_whole",
  PySem.W.findIn K (.ref 79) "__init__",
  PySem.W.findIn K (.ref 98) "__init__",
  PySem.W.findIn K (.ref 117) "__init__",
  PySem.W.findIn K (.ref 136) "__init__",
  PySem.W.findIn K (.ref 155) "__init__",
  PySem.W.findIn K (.ref 174) "__init__",
  PySem.W.findIn K (.ref 193) "__init__",
  PySem.W.findIn K (.ref 212) "__init__",
  PySem.W.findIn K (.ref 231) "__init__",
  PySem.W.findIn K (.ref 250) "__init__",
  PySem.W.findIn K (.ref 269) "__init__",
  PySem.W.findIn K (.ref 288) "__init__",
  PySem.W.findIn K (.ref 307) "__init__",
  PySem.W.findIn K (.ref 326) "__init__",
  PySem.W.findIn K (.ref 345) "__init__",
  PySem.W.findIn K (.ref 364) "__init__",
  PySem.W.findIn K (.ref 1140) "__init__",
  PySem.W.findIn K (.ref 1140) "__eq__",
  PySem.W.nsIn K mainGlobals "_law_bag",
  PySem.W.nsIn K mainGlobals "_law_take",
  PySem.W.nsIn K mainGlobals "_law_text",
  PySem.W.nsIn K mainGlobals "_law_glyphs",
  PySem.W.nsIn K mainGlobals "_law_places"]
def oN1v : List (Option (Option Value)) := [
  some (some (.ref 397)),
  some (some (.ref 76)),
  some (some (.ref 95)),
  some (some (.ref 114)),
  some (some (.ref 133)),
  some (some (.ref 152)),
  some (some (.ref 171)),
  some (some (.ref 190)),
  some (some (.ref 209)),
  some (some (.ref 228)),
  some (some (.ref 247)),
  some (some (.ref 266)),
  some (some (.ref 285)),
  some (some (.ref 304)),
  some (some (.ref 323)),
  some (some (.ref 342)),
  some (some (.ref 361)),
  some (some (.ref 1029)),
  some (some (.ref 1092)),
  some (some (.ref 1207)),
  some (some (.ref 1214)),
  some (some (.ref 1219)),
  some (some (.ref 1226)),
  some (some (.ref 1233))]
def oN2 (K : Frag) : List (Option (Option Value)) := [
  PySem.W.nsIn K mainGlobals "_law_names",
  PySem.W.nsIn K mainGlobals "_law_kinds",
  PySem.W.nsIn K mainGlobals "_law_plain",
  PySem.W.nsIn K mainGlobals "is_between",
  PySem.W.nsIn K mainGlobals "check_between",
  PySem.W.nsIn K mainGlobals "write",
  PySem.W.nsIn K mainGlobals "font_place",
  PySem.W.nsIn K mainGlobals "pair_place",
  PySem.W.nsIn K mainGlobals "is_glyph_name",
  PySem.W.findIn K (.ref 712) "__init__",
  PySem.W.findIn K (.ref 712) "__contains__",
  PySem.W.findIn K (.ref 712) "__len__",
  PySem.W.findIn K (.ref 712) "glyphs",
  PySem.W.findIn K (.ref 712) "advance_of",
  PySem.W.findIn K (.ref 712) "_put_advance",
  PySem.W.findIn K (.ref 712) "_put_kern",
  PySem.W.findIn K (.ref 712) "_put_blank",
  PySem.W.findIn K (.ref 712) "_check_known",
  PySem.W.findIn K (.ref 712) "_check_letters",
  PySem.W.findIn K (.ref 712) "_check_room",
  PySem.W.findIn K (.ref 712) "_check_kerns",
  PySem.W.findIn K (.ref 712) "_write_advance",
  PySem.W.findIn K (.ref 712) "_write_kern",
  PySem.W.findIn K (.ref 712) "ligatures"]
def oN2v : List (Option (Option Value)) := [
  some (some (.ref 1240)),
  some (some (.ref 1252)),
  some (some (.ref 1247)),
  some (some (.ref 404)),
  some (some (.ref 411)),
  some (some (.ref 744)),
  some (some (.ref 723)),
  some (some (.ref 730)),
  some (some (.ref 737)),
  some (some (.ref 434)),
  some (some (.ref 466)),
  some (some (.ref 473)),
  some (some (.ref 501)),
  some (some (.ref 513)),
  some (some (.ref 627)),
  some (some (.ref 634)),
  some (some (.ref 648)),
  some (some (.ref 655)),
  some (some (.ref 662)),
  some (some (.ref 669)),
  some (some (.ref 674)),
  some (some (.ref 688)),
  some (some (.ref 695)),
  some (some (.ref 532))]
def oN3 (K : Frag) : List (Option (Option Value)) := [
  PySem.W.specialIn K (.ref 532) "__get__",
  PySem.W.findIn K (.ref 712) "undo",
  PySem.W.findIn K (.ref 712) "letters",
  PySem.W.specialIn K (.ref 526) "__get__",
  PySem.W.nsIn K mainGlobals "beginnings",
  PySem.W.nsIn K mainGlobals "glyph_row",
  PySem.W.nsIn K mainGlobals "added_width",
  PySem.W.findIn K (.ref 804) "finish",
  PySem.W.findIn K (.ref 804) "__init__",
  PySem.W.findIn K (.ref 913) "_number_of",
  PySem.W.findIn K (.ref 946) "__init__",
  PySem.W.findIn K (.ref 946) "finish",
  PySem.W.findIn K (.ref 913) "_explore",
  PySem.W.findIn K (.ref 913) "__init__",
  PySem.W.findIn K (.ref 913) "letters",
  PySem.W.specialIn K (.ref 840) "__get__",
  PySem.W.nsIn K mainGlobals "check_common",
  PySem.W.nsIn K mainGlobals "worst_rate",
  PySem.W.nsIn K mainGlobals "law",
  PySem.W.findIn K (.ref 79) "__setattr__",
  PySem.W.findIn K (.ref 79) "__getattribute__",
  PySem.W.findIn K (.ref 79) "__getattr__",
  PySem.W.findIn K (.ref 79) "__class__",
  PySem.W.findIn K (.ref 79) "glyph"]
def oN3v : List (Option (Option Value)) := [
  some (some (.builtin "property.__get__")),
  some (some (.ref 606)),
  some (some (.ref 526)),
  some (some (.builtin "property.__get__")),
  some (some (.ref 813)),
  some (some (.ref 758)),
  some (some (.ref 765)),
  some (some (.ref 794)),
  some (some (.ref 780)),
  some (some (.ref 910)),
  some (some (.ref 929)),
  some (some (.ref 943)),
  some (some (.ref 903)),
  some (some (.ref 825)),
  some (some (.ref 840)),
  some (some (.builtin "property.__get__")),
  some (some (.ref 1179)),
  some (some (.ref 1172)),
  some (some (.ref 1259)),
  some (some (.builtin "object.__setattr__")),
  some (some (.builtin "BaseException.__getattribute__")),
  some none,
  some (some (.builtin "object.__class__")),
  some none]
def oN4 (K : Frag) : List (Option (Option Value)) := [
  PySem.W.findIn K (.ref 98) "__setattr__",
  PySem.W.findIn K (.ref 98) "__getattribute__",
  PySem.W.findIn K (.ref 98) "__getattr__",
  PySem.W.findIn K (.ref 98) "__class__",
  PySem.W.findIn K (.ref 98) "value",
  PySem.W.findIn K (.ref 117) "__setattr__",
  PySem.W.findIn K (.ref 117) "__getattribute__",
  PySem.W.findIn K (.ref 117) "__getattr__",
  PySem.W.findIn K (.ref 117) "__class__",
  PySem.W.findIn K (.ref 117) "glyph",
  PySem.W.findIn K (.ref 136) "__setattr__",
  PySem.W.findIn K (.ref 136) "__getattribute__",
  PySem.W.findIn K (.ref 136) "__getattr__",
  PySem.W.findIn K (.ref 136) "__class__",
  PySem.W.findIn K (.ref 136) "limit",
  PySem.W.findIn K (.ref 155) "__setattr__",
  PySem.W.findIn K (.ref 155) "__getattribute__",
  PySem.W.findIn K (.ref 155) "__getattr__",
  PySem.W.findIn K (.ref 155) "__class__",
  PySem.W.findIn K (.ref 155) "left",
  PySem.W.findIn K (.ref 155) "right",
  PySem.W.findIn K (.ref 174) "__setattr__",
  PySem.W.findIn K (.ref 174) "__getattribute__",
  PySem.W.findIn K (.ref 174) "__getattr__"]
def oN4v : List (Option (Option Value)) := [
  some (some (.builtin "object.__setattr__")),
  some (some (.builtin "BaseException.__getattribute__")),
  some none,
  some (some (.builtin "object.__class__")),
  some none,
  some (some (.builtin "object.__setattr__")),
  some (some (.builtin "BaseException.__getattribute__")),
  some none,
  some (some (.builtin "object.__class__")),
  some none,
  some (some (.builtin "object.__setattr__")),
  some (some (.builtin "BaseException.__getattribute__")),
  some none,
  some (some (.builtin "object.__class__")),
  some none,
  some (some (.builtin "object.__setattr__")),
  some (some (.builtin "BaseException.__getattribute__")),
  some none,
  some (some (.builtin "object.__class__")),
  some none,
  some none,
  some (some (.builtin "object.__setattr__")),
  some (some (.builtin "BaseException.__getattribute__")),
  some none]
def oN5 (K : Frag) : List (Option (Option Value)) := [
  PySem.W.findIn K (.ref 174) "__class__",
  PySem.W.findIn K (.ref 174) "user",
  PySem.W.findIn K (.ref 193) "__setattr__",
  PySem.W.findIn K (.ref 193) "__getattribute__",
  PySem.W.findIn K (.ref 193) "__getattr__",
  PySem.W.findIn K (.ref 193) "__class__",
  PySem.W.findIn K (.ref 193) "index",
  PySem.W.findIn K (.ref 212) "__setattr__",
  PySem.W.findIn K (.ref 212) "__getattribute__",
  PySem.W.findIn K (.ref 212) "__getattr__",
  PySem.W.findIn K (.ref 212) "__class__",
  PySem.W.findIn K (.ref 212) "line",
  PySem.W.findIn K (.ref 231) "__setattr__",
  PySem.W.findIn K (.ref 231) "__getattribute__",
  PySem.W.findIn K (.ref 231) "__getattr__",
  PySem.W.findIn K (.ref 231) "__class__",
  PySem.W.findIn K (.ref 231) "letter",
  PySem.W.findIn K (.ref 231) "index",
  PySem.W.findIn K (.ref 250) "__setattr__",
  PySem.W.findIn K (.ref 250) "__getattribute__",
  PySem.W.findIn K (.ref 250) "__getattr__",
  PySem.W.findIn K (.ref 250) "__class__",
  PySem.W.findIn K (.ref 250) "number",
  PySem.W.findIn K (.ref 269) "__setattr__"]
def oN5v : List (Option (Option Value)) := [
  some (some (.builtin "object.__class__")),
  some none,
  some (some (.builtin "object.__setattr__")),
  some (some (.builtin "BaseException.__getattribute__")),
  some none,
  some (some (.builtin "object.__class__")),
  some none,
  some (some (.builtin "object.__setattr__")),
  some (some (.builtin "BaseException.__getattribute__")),
  some none,
  some (some (.builtin "object.__class__")),
  some none,
  some (some (.builtin "object.__setattr__")),
  some (some (.builtin "BaseException.__getattribute__")),
  some none,
  some (some (.builtin "object.__class__")),
  some none,
  some none,
  some (some (.builtin "object.__setattr__")),
  some (some (.builtin "BaseException.__getattribute__")),
  some none,
  some (some (.builtin "object.__class__")),
  some none,
  some (some (.builtin "object.__setattr__"))]
def oN6 (K : Frag) : List (Option (Option Value)) := [
  PySem.W.findIn K (.ref 269) "__getattribute__",
  PySem.W.findIn K (.ref 269) "__getattr__",
  PySem.W.findIn K (.ref 269) "__class__",
  PySem.W.findIn K (.ref 269) "index",
  PySem.W.findIn K (.ref 288) "__setattr__",
  PySem.W.findIn K (.ref 288) "__getattribute__",
  PySem.W.findIn K (.ref 288) "__getattr__",
  PySem.W.findIn K (.ref 288) "__class__",
  PySem.W.findIn K (.ref 288) "combination",
  PySem.W.findIn K (.ref 307) "__setattr__",
  PySem.W.findIn K (.ref 307) "__getattribute__",
  PySem.W.findIn K (.ref 307) "__getattr__",
  PySem.W.findIn K (.ref 307) "__class__",
  PySem.W.findIn K (.ref 307) "name",
  PySem.W.findIn K (.ref 326) "__setattr__",
  PySem.W.findIn K (.ref 326) "__getattribute__",
  PySem.W.findIn K (.ref 326) "__getattr__",
  PySem.W.findIn K (.ref 326) "__class__",
  PySem.W.findIn K (.ref 326) "name",
  PySem.W.findIn K (.ref 345) "__setattr__",
  PySem.W.findIn K (.ref 345) "__getattribute__",
  PySem.W.findIn K (.ref 345) "__getattr__",
  PySem.W.findIn K (.ref 345) "__class__",
  PySem.W.findIn K (.ref 345) "kind"]
def oN6v : List (Option (Option Value)) := [
  some (some (.builtin "BaseException.__getattribute__")),
  some none,
  some (some (.builtin "object.__class__")),
  some none,
  some (some (.builtin "object.__setattr__")),
  some (some (.builtin "BaseException.__getattribute__")),
  some none,
  some (some (.builtin "object.__class__")),
  some none,
  some (some (.builtin "object.__setattr__")),
  some (some (.builtin "BaseException.__getattribute__")),
  some none,
  some (some (.builtin "object.__class__")),
  some none,
  some (some (.builtin "object.__setattr__")),
  some (some (.builtin "BaseException.__getattribute__")),
  some none,
  some (some (.builtin "object.__class__")),
  some none,
  some (some (.builtin "object.__setattr__")),
  some (some (.builtin "BaseException.__getattribute__")),
  some none,
  some (some (.builtin "object.__class__")),
  some none]
def oN7 (K : Frag) : List (Option (Option Value)) := [
  PySem.W.findIn K (.ref 364) "__setattr__",
  PySem.W.findIn K (.ref 364) "__getattribute__",
  PySem.W.findIn K (.ref 364) "__getattr__",
  PySem.W.findIn K (.ref 364) "__class__",
  PySem.W.findIn K (.ref 364) "kind",
  PySem.W.specialIn K (.builtin "object.__class__") "__get__",
  PySem.W.findIn K (.ref 1140) "__setattr__",
  PySem.W.findIn K (.ref 1140) "top",
  PySem.W.findIn K (.ref 1140) "bottom",
  PySem.W.findIn K (.ref 1140) "__class__",
  PySem.W.nsIn K mainGlobals "gcd",
  PySem.W.nsIn K mainGlobals "isinstance",
  PySem.W.nsIn K mainGlobals "int",
  PySem.W.nsIn K mainGlobals "bool",
  PySem.W.nsIn K mainGlobals "len",
  PySem.W.nsIn K mainGlobals "list",
  PySem.W.nsIn K mainGlobals "range",
  PySem.W.nsIn K mainGlobals "ValueError",
  PySem.W.nsIn K 427 "blank",
  PySem.W.nsIn K mainGlobals "BLANK",
  PySem.W.findIn K (.ref 712) "__setattr__",
  PySem.W.findIn K (.ref 712) "_advances",
  PySem.W.findIn K (.ref 712) "_kerns",
  PySem.W.findIn K (.ref 712) "_blank"]
def oN7v : List (Option (Option Value)) := [
  some (some (.builtin "object.__setattr__")),
  some (some (.builtin "BaseException.__getattribute__")),
  some none,
  some (some (.builtin "object.__class__")),
  some none,
  some (some (.builtin "getset_descriptor.__get__")),
  some (some (.builtin "object.__setattr__")),
  some none,
  some none,
  some (some (.builtin "object.__class__")),
  some (some (.builtin "math.gcd")),
  some none,
  some none,
  some none,
  some none,
  some none,
  some none,
  some none,
  some (some (.int 250 875)),
  some (some (.int 250 875)),
  some (some (.builtin "object.__setattr__")),
  some none,
  some none,
  some none]
def oN8 (K : Frag) : List (Option (Option Value)) := [
  PySem.W.findIn K (.ref 712) "_past",
  PySem.W.findIn K (.ref 712) "MOST_ADVANCE",
  PySem.W.specialIn K (.int 1000000 889) "__get__",
  PySem.W.findIn K (.ref 712) "MOST_UNDO",
  PySem.W.specialIn K (.int 50 895) "__get__",
  PySem.W.findIn K (.ref 712) "MOST_LIGATURES",
  PySem.W.specialIn K (.int 40 893) "__get__",
  PySem.W.specialIn K (.ref 712) "__getattribute__",
  PySem.W.findIn K (.ref 376) "__getattribute__",
  PySem.W.findIn K (.ref 376) "__getattr__",
  PySem.W.findIn K (.ref 376) "__class__",
  PySem.W.findIn K (.ref 388) "__getattribute__",
  PySem.W.findIn K (.ref 388) "__getattr__",
  PySem.W.findIn K (.ref 388) "__class__",
  PySem.W.nsIn K mainGlobals "sorted",
  PySem.W.nsIn K mainGlobals "str",
  PySem.W.nsIn K mainGlobals "dict",
  PySem.W.findIn K (.ref 804) "__setattr__",
  PySem.W.findIn K (.ref 804) "_font",
  PySem.W.findIn K (.ref 804) "_begun",
  PySem.W.findIn K (.ref 804) "_decided",
  PySem.W.findIn K (.ref 913) "__setattr__",
  PySem.W.findIn K (.ref 913) "_letters",
  PySem.W.findIn K (.ref 913) "_states"]
def oN8v : List (Option (Option Value)) := [
  some none,
  some (some (.int 1000000 889)),
  some none,
  some (some (.int 50 895)),
  some none,
  some (some (.int 40 893)),
  some none,
  some (some (.builtin "type.__getattribute__")),
  some (some (.builtin "BaseException.__getattribute__")),
  some none,
  some (some (.builtin "object.__class__")),
  some (some (.builtin "BaseException.__getattribute__")),
  some none,
  some (some (.builtin "object.__class__")),
  some none,
  some none,
  some none,
  some (some (.builtin "object.__setattr__")),
  some none,
  some none,
  some none,
  some (some (.builtin "object.__setattr__")),
  some none,
  some none]
def oN9 (K : Frag) : List (Option (Option Value)) := [
  PySem.W.findIn K (.ref 913) "_numbers",
  PySem.W.findIn K (.ref 913) "_origins",
  PySem.W.findIn K (.ref 913) "_steps",
  PySem.W.findIn K (.ref 913) "_ends",
  PySem.W.findIn K (.ref 946) "__setattr__",
  PySem.W.findIn K (.ref 946) "_steps",
  PySem.W.findIn K (.ref 946) "_ends",
  PySem.W.nsIn K mainGlobals "START"]
def oN9v : List (Option (Option Value)) := [
  some none,
  some none,
  some none,
  some none,
  some (some (.builtin "object.__setattr__")),
  some none,
  some none,
  some (some (.ref 766))]
def oT0 (K : Frag) : List (Option Value) := [
  PySem.W.typeIn K (.ref 76),
  PySem.W.typeIn K (.ref 95),
  PySem.W.typeIn K (.ref 114),
  PySem.W.typeIn K (.ref 133),
  PySem.W.typeIn K (.ref 152),
  PySem.W.typeIn K (.ref 171),
  PySem.W.typeIn K (.ref 190),
  PySem.W.typeIn K (.ref 209),
  PySem.W.typeIn K (.ref 228),
  PySem.W.typeIn K (.ref 247),
  PySem.W.typeIn K (.ref 266),
  PySem.W.typeIn K (.ref 285),
  PySem.W.typeIn K (.ref 304),
  PySem.W.typeIn K (.ref 323),
  PySem.W.typeIn K (.ref 342),
  PySem.W.typeIn K (.ref 361),
  PySem.W.typeIn K (.ref 79),
  PySem.W.typeIn K (.ref 98),
  PySem.W.typeIn K (.ref 117),
  PySem.W.typeIn K (.ref 136),
  PySem.W.typeIn K (.ref 155),
  PySem.W.typeIn K (.ref 174),
  PySem.W.typeIn K (.ref 193),
  PySem.W.typeIn K (.ref 212)]
def oT0v : List (Option Value) := [
  some (.type "function"),
  some (.type "function"),
  some (.type "function"),
  some (.type "function"),
  some (.type "function"),
  some (.type "function"),
  some (.type "function"),
  some (.type "function"),
  some (.type "function"),
  some (.type "function"),
  some (.type "function"),
  some (.type "function"),
  some (.type "function"),
  some (.type "function"),
  some (.type "function"),
  some (.type "function"),
  some (.type "type"),
  some (.type "type"),
  some (.type "type"),
  some (.type "type"),
  some (.type "type"),
  some (.type "type"),
  some (.type "type"),
  some (.type "type")]
def oT1 (K : Frag) : List (Option Value) := [
  PySem.W.typeIn K (.ref 231),
  PySem.W.typeIn K (.ref 250),
  PySem.W.typeIn K (.ref 269),
  PySem.W.typeIn K (.ref 288),
  PySem.W.typeIn K (.ref 307),
  PySem.W.typeIn K (.ref 326),
  PySem.W.typeIn K (.ref 345),
  PySem.W.typeIn K (.ref 364),
  PySem.W.typeIn K (.ref 376),
  PySem.W.typeIn K (.ref 388),
  PySem.W.typeIn K (.ref 59)]
def oT1v : List (Option Value) := [
  some (.type "type"),
  some (.type "type"),
  some (.type "type"),
  some (.type "type"),
  some (.type "type"),
  some (.type "type"),
  some (.type "type"),
  some (.type "type"),
  some (.type "type"),
  some (.type "type"),
  some (.type "type")]
def oS0 (K : Frag) : List (Option Bool) := [
  PySem.W.takesIn K (.ref 532),
  PySem.W.takesIn K (.ref 526),
  PySem.W.takesIn K (.ref 840),
  PySem.W.subIn K (.ref 79) (.type "BaseException"),
  PySem.W.mroIn K 79 (.type "object"),
  PySem.W.subIn K (.ref 98) (.type "BaseException"),
  PySem.W.mroIn K 98 (.type "object"),
  PySem.W.subIn K (.ref 117) (.type "BaseException"),
  PySem.W.mroIn K 117 (.type "object"),
  PySem.W.subIn K (.ref 136) (.type "BaseException"),
  PySem.W.mroIn K 136 (.type "object"),
  PySem.W.subIn K (.ref 155) (.type "BaseException"),
  PySem.W.mroIn K 155 (.type "object"),
  PySem.W.subIn K (.ref 174) (.type "BaseException"),
  PySem.W.mroIn K 174 (.type "object"),
  PySem.W.subIn K (.ref 193) (.type "BaseException"),
  PySem.W.mroIn K 193 (.type "object"),
  PySem.W.subIn K (.ref 212) (.type "BaseException"),
  PySem.W.mroIn K 212 (.type "object"),
  PySem.W.subIn K (.ref 231) (.type "BaseException"),
  PySem.W.mroIn K 231 (.type "object"),
  PySem.W.subIn K (.ref 250) (.type "BaseException"),
  PySem.W.mroIn K 250 (.type "object"),
  PySem.W.subIn K (.ref 269) (.type "BaseException")]
def oS0v : List (Option Bool) := [
  some true,
  some true,
  some true,
  some true,
  some true,
  some true,
  some true,
  some true,
  some true,
  some true,
  some true,
  some true,
  some true,
  some true,
  some true,
  some true,
  some true,
  some true,
  some true,
  some true,
  some true,
  some true,
  some true,
  some true]
def oS1 (K : Frag) : List (Option Bool) := [
  PySem.W.mroIn K 269 (.type "object"),
  PySem.W.subIn K (.ref 288) (.type "BaseException"),
  PySem.W.mroIn K 288 (.type "object"),
  PySem.W.subIn K (.ref 307) (.type "BaseException"),
  PySem.W.mroIn K 307 (.type "object"),
  PySem.W.subIn K (.ref 326) (.type "BaseException"),
  PySem.W.mroIn K 326 (.type "object"),
  PySem.W.subIn K (.ref 345) (.type "BaseException"),
  PySem.W.mroIn K 345 (.type "object"),
  PySem.W.subIn K (.ref 364) (.type "BaseException"),
  PySem.W.mroIn K 364 (.type "object"),
  PySem.W.subIn K (.ref 79) (.ref 79),
  PySem.W.subIn K (.ref 98) (.ref 79),
  PySem.W.subIn K (.ref 98) (.ref 98),
  PySem.W.subIn K (.ref 117) (.ref 79),
  PySem.W.subIn K (.ref 117) (.ref 98),
  PySem.W.subIn K (.ref 117) (.ref 117),
  PySem.W.subIn K (.ref 136) (.ref 79),
  PySem.W.subIn K (.ref 136) (.ref 98),
  PySem.W.subIn K (.ref 136) (.ref 117),
  PySem.W.subIn K (.ref 136) (.ref 136),
  PySem.W.subIn K (.ref 155) (.ref 79),
  PySem.W.subIn K (.ref 155) (.ref 98),
  PySem.W.subIn K (.ref 155) (.ref 117)]
def oS1v : List (Option Bool) := [
  some true,
  some true,
  some true,
  some true,
  some true,
  some true,
  some true,
  some true,
  some true,
  some true,
  some true,
  some true,
  some false,
  some true,
  some false,
  some false,
  some true,
  some false,
  some false,
  some false,
  some true,
  some false,
  some false,
  some false]
def oS2 (K : Frag) : List (Option Bool) := [
  PySem.W.subIn K (.ref 155) (.ref 136),
  PySem.W.subIn K (.ref 155) (.ref 155),
  PySem.W.subIn K (.ref 174) (.ref 79),
  PySem.W.subIn K (.ref 174) (.ref 98),
  PySem.W.subIn K (.ref 174) (.ref 117),
  PySem.W.subIn K (.ref 174) (.ref 136),
  PySem.W.subIn K (.ref 174) (.ref 155),
  PySem.W.subIn K (.ref 174) (.ref 174),
  PySem.W.subIn K (.ref 193) (.ref 193),
  PySem.W.subIn K (.ref 212) (.ref 193),
  PySem.W.subIn K (.ref 212) (.ref 212),
  PySem.W.subIn K (.ref 231) (.ref 193),
  PySem.W.subIn K (.ref 231) (.ref 212),
  PySem.W.subIn K (.ref 231) (.ref 231),
  PySem.W.subIn K (.ref 250) (.ref 193),
  PySem.W.subIn K (.ref 250) (.ref 212),
  PySem.W.subIn K (.ref 250) (.ref 231),
  PySem.W.subIn K (.ref 250) (.ref 250),
  PySem.W.subIn K (.ref 269) (.ref 193),
  PySem.W.subIn K (.ref 269) (.ref 212),
  PySem.W.subIn K (.ref 269) (.ref 231),
  PySem.W.subIn K (.ref 269) (.ref 250),
  PySem.W.subIn K (.ref 269) (.ref 269),
  PySem.W.subIn K (.ref 288) (.ref 193)]
def oS2v : List (Option Bool) := [
  some false,
  some true,
  some false,
  some false,
  some false,
  some false,
  some false,
  some true,
  some true,
  some false,
  some true,
  some false,
  some false,
  some true,
  some false,
  some false,
  some false,
  some true,
  some false,
  some false,
  some false,
  some false,
  some true,
  some false]
def oS3 (K : Frag) : List (Option Bool) := [
  PySem.W.subIn K (.ref 288) (.ref 212),
  PySem.W.subIn K (.ref 288) (.ref 231),
  PySem.W.subIn K (.ref 288) (.ref 250),
  PySem.W.subIn K (.ref 288) (.ref 269),
  PySem.W.subIn K (.ref 288) (.ref 288),
  PySem.W.subIn K (.ref 307) (.ref 307),
  PySem.W.subIn K (.ref 326) (.ref 307),
  PySem.W.subIn K (.ref 326) (.ref 326),
  PySem.W.subIn K (.ref 345) (.ref 307),
  PySem.W.subIn K (.ref 345) (.ref 326),
  PySem.W.subIn K (.ref 345) (.ref 345),
  PySem.W.subIn K (.ref 364) (.ref 307),
  PySem.W.subIn K (.ref 364) (.ref 326),
  PySem.W.subIn K (.ref 364) (.ref 345),
  PySem.W.subIn K (.ref 364) (.ref 364),
  PySem.W.kitOne K (.ref 79) (.type "ValueError"),
  PySem.W.kitOne K (.ref 98) (.type "ValueError"),
  PySem.W.kitOne K (.ref 117) (.type "ValueError"),
  PySem.W.kitOne K (.ref 136) (.type "ValueError"),
  PySem.W.kitOne K (.ref 155) (.type "ValueError"),
  PySem.W.kitOne K (.ref 174) (.type "ValueError"),
  PySem.W.kitOne K (.ref 193) (.type "ValueError"),
  PySem.W.kitOne K (.ref 212) (.type "ValueError"),
  PySem.W.kitOne K (.ref 231) (.type "ValueError")]
def oS3v : List (Option Bool) := [
  some false,
  some false,
  some false,
  some false,
  some true,
  some true,
  some false,
  some true,
  some false,
  some false,
  some true,
  some false,
  some false,
  some false,
  some true,
  some true,
  some true,
  some true,
  some true,
  some true,
  some true,
  some true,
  some true,
  some true]
def oS4 (K : Frag) : List (Option Bool) := [
  PySem.W.kitOne K (.ref 250) (.type "ValueError"),
  PySem.W.kitOne K (.ref 269) (.type "ValueError"),
  PySem.W.kitOne K (.ref 288) (.type "ValueError"),
  PySem.W.kitOne K (.ref 307) (.type "ValueError"),
  PySem.W.kitOne K (.ref 326) (.type "ValueError"),
  PySem.W.kitOne K (.ref 345) (.type "ValueError"),
  PySem.W.kitOne K (.ref 364) (.type "ValueError"),
  PySem.W.takesIn K (.builtin "object.__class__"),
  PySem.W.mroIn K 1140 (.type "object"),
  PySem.W.kitOne K (.ref 1140) (.ref 1140),
  PySem.W.kitOne K (.type "int") (.ref 1140),
  PySem.W.subIn K (.ref 376) (.type "BaseException"),
  PySem.W.subIn K (.ref 388) (.type "BaseException"),
  PySem.W.subIn K (.ref 59) (.type "BaseException"),
  PySem.W.mroIn K 376 (.type "object"),
  PySem.W.kitOne K (.ref 376) (.type "ValueError"),
  PySem.W.subIn K (.ref 376) (.ref 59),
  PySem.W.mroIn K 388 (.type "object"),
  PySem.W.kitOne K (.ref 388) (.type "ValueError"),
  PySem.W.subIn K (.ref 388) (.ref 59)]
def oS4v : List (Option Bool) := [
  some true,
  some true,
  some true,
  some true,
  some true,
  some true,
  some true,
  some true,
  some true,
  some true,
  some false,
  some true,
  some true,
  some true,
  some true,
  some true,
  some true,
  some true,
  some true,
  some true]
def oB0 (K : Frag) : List (Bool) := [
  PySem.W.keepIn K (.ref 397),
  PySem.W.keepIn K (.ref 76),
  PySem.W.keepIn K (.ref 95),
  PySem.W.keepIn K (.ref 114),
  PySem.W.keepIn K (.ref 133),
  PySem.W.keepIn K (.ref 152),
  PySem.W.keepIn K (.ref 171),
  PySem.W.keepIn K (.ref 190),
  PySem.W.keepIn K (.ref 209),
  PySem.W.keepIn K (.ref 228),
  PySem.W.keepIn K (.ref 247),
  PySem.W.keepIn K (.ref 266),
  PySem.W.keepIn K (.ref 285),
  PySem.W.keepIn K (.ref 304),
  PySem.W.keepIn K (.ref 323),
  PySem.W.keepIn K (.ref 342),
  PySem.W.keepIn K (.ref 361),
  PySem.W.isFn K (.ref 1029),
  PySem.W.keepIn K (.ref 1029),
  PySem.W.isFn K (.ref 1092),
  PySem.W.keepIn K (.ref 1092),
  PySem.W.keepIn K (.ref 1207),
  PySem.W.keepIn K (.ref 1214),
  PySem.W.keepIn K (.ref 1219)]
def oB0v : List (Bool) := [
  true,
  true,
  true,
  true,
  true,
  true,
  true,
  true,
  true,
  true,
  true,
  true,
  true,
  true,
  true,
  true,
  true,
  true,
  true,
  true,
  true,
  true,
  true,
  true]
def oB1 (K : Frag) : List (Bool) := [
  PySem.W.keepIn K (.ref 1226),
  PySem.W.keepIn K (.ref 1233),
  PySem.W.keepIn K (.ref 1240),
  PySem.W.keepIn K (.ref 1252),
  PySem.W.keepIn K (.ref 1247),
  PySem.W.keepIn K (.ref 404),
  PySem.W.keepIn K (.ref 411),
  PySem.W.keepIn K (.ref 744),
  PySem.W.keepIn K (.ref 723),
  PySem.W.keepIn K (.ref 730),
  PySem.W.keepIn K (.ref 737),
  PySem.W.isFn K (.ref 434),
  PySem.W.keepIn K (.ref 434),
  PySem.W.isFn K (.ref 466),
  PySem.W.keepIn K (.ref 466),
  PySem.W.isFn K (.ref 473),
  PySem.W.keepIn K (.ref 473),
  PySem.W.isFn K (.ref 501),
  PySem.W.keepIn K (.ref 501),
  PySem.W.isFn K (.ref 513),
  PySem.W.keepIn K (.ref 513),
  PySem.W.isFn K (.ref 627),
  PySem.W.keepIn K (.ref 627),
  PySem.W.isFn K (.ref 634)]
def oB1v : List (Bool) := [
  true,
  true,
  true,
  true,
  true,
  true,
  true,
  true,
  true,
  true,
  true,
  true,
  true,
  true,
  true,
  true,
  true,
  true,
  true,
  true,
  true,
  true,
  true,
  true]
def oB2 (K : Frag) : List (Bool) := [
  PySem.W.keepIn K (.ref 634),
  PySem.W.isFn K (.ref 648),
  PySem.W.keepIn K (.ref 648),
  PySem.W.isFn K (.ref 655),
  PySem.W.keepIn K (.ref 655),
  PySem.W.isFn K (.ref 662),
  PySem.W.keepIn K (.ref 662),
  PySem.W.isFn K (.ref 669),
  PySem.W.keepIn K (.ref 669),
  PySem.W.isFn K (.ref 674),
  PySem.W.keepIn K (.ref 674),
  PySem.W.isFn K (.ref 688),
  PySem.W.keepIn K (.ref 688),
  PySem.W.isFn K (.ref 695),
  PySem.W.keepIn K (.ref 695),
  PySem.W.keepIn K (.ref 531),
  PySem.W.isFn K (.ref 606),
  PySem.W.keepIn K (.ref 606),
  PySem.W.keepIn K (.ref 525),
  PySem.W.keepIn K (.ref 813),
  PySem.W.keepIn K (.ref 758),
  PySem.W.keepIn K (.ref 765),
  PySem.W.isFn K (.ref 794),
  PySem.W.keepIn K (.ref 794)]
def oB2v : List (Bool) := [
  true,
  true,
  true,
  true,
  true,
  true,
  true,
  true,
  true,
  true,
  true,
  true,
  true,
  true,
  true,
  true,
  true,
  true,
  true,
  true,
  true,
  true,
  true,
  true]
def oB3 (K : Frag) : List (Bool) := [
  PySem.W.isFn K (.ref 780),
  PySem.W.keepIn K (.ref 780),
  PySem.W.isFn K (.ref 910),
  PySem.W.keepIn K (.ref 910),
  PySem.W.isFn K (.ref 929),
  PySem.W.keepIn K (.ref 929),
  PySem.W.isFn K (.ref 943),
  PySem.W.keepIn K (.ref 943),
  PySem.W.isFn K (.ref 903),
  PySem.W.keepIn K (.ref 903),
  PySem.W.isFn K (.ref 825),
  PySem.W.keepIn K (.ref 825),
  PySem.W.keepIn K (.ref 839),
  PySem.W.keepIn K (.ref 1179),
  PySem.W.keepIn K (.ref 1172),
  PySem.W.keepIn K (.ref 1259),
  PySem.W.keepIn K (.ref 79),
  PySem.W.hasDictIn K 79,
  PySem.W.keepIn K (.ref 98),
  PySem.W.hasDictIn K 98,
  PySem.W.keepIn K (.ref 117),
  PySem.W.hasDictIn K 117,
  PySem.W.keepIn K (.ref 136),
  PySem.W.hasDictIn K 136]
def oB3v : List (Bool) := [
  true,
  true,
  true,
  true,
  true,
  true,
  true,
  true,
  true,
  true,
  true,
  true,
  true,
  true,
  true,
  true,
  true,
  true,
  true,
  true,
  true,
  true,
  true,
  true]
def oB4 (K : Frag) : List (Bool) := [
  PySem.W.keepIn K (.ref 155),
  PySem.W.hasDictIn K 155,
  PySem.W.keepIn K (.ref 174),
  PySem.W.hasDictIn K 174,
  PySem.W.keepIn K (.ref 193),
  PySem.W.hasDictIn K 193,
  PySem.W.keepIn K (.ref 212),
  PySem.W.hasDictIn K 212,
  PySem.W.keepIn K (.ref 231),
  PySem.W.hasDictIn K 231,
  PySem.W.keepIn K (.ref 250),
  PySem.W.hasDictIn K 250,
  PySem.W.keepIn K (.ref 269),
  PySem.W.hasDictIn K 269,
  PySem.W.keepIn K (.ref 288),
  PySem.W.hasDictIn K 288,
  PySem.W.keepIn K (.ref 307),
  PySem.W.hasDictIn K 307,
  PySem.W.keepIn K (.ref 326),
  PySem.W.hasDictIn K 326,
  PySem.W.keepIn K (.ref 345),
  PySem.W.hasDictIn K 345,
  PySem.W.keepIn K (.ref 364),
  PySem.W.hasDictIn K 364]
def oB4v : List (Bool) := [
  true,
  true,
  true,
  true,
  true,
  true,
  true,
  true,
  true,
  true,
  true,
  true,
  true,
  true,
  true,
  true,
  true,
  true,
  true,
  true,
  true,
  true,
  true,
  true]
def oB5 (K : Frag) : List (Bool) := [
  PySem.W.plainGet K 1140 Str.empty,
  PySem.W.hasDictIn K 1140,
  PySem.W.plainOver K 1140,
  PySem.W.makesIn K 1140,
  PySem.W.keepIn K (.ref 1140),
  PySem.W.plainGet K 712 Str.empty,
  PySem.W.hasDictIn K 712,
  PySem.W.plainOver K 712,
  PySem.W.makesIn K 712,
  PySem.W.keepIn K (.ref 712),
  PySem.W.readsIn K 712 (.type "type"),
  PySem.W.excIn K 376 [.type "ValueError", .type "Exception", .type "BaseException", .type "object"] "ValueError.__new__",
  PySem.W.keepIn K (.ref 376),
  PySem.W.hasDictIn K 376,
  PySem.W.hasDictIn K 388,
  PySem.W.hasDictIn K 59,
  PySem.W.plainGet K 804 Str.empty,
  PySem.W.hasDictIn K 804,
  PySem.W.plainOver K 804,
  PySem.W.makesIn K 804,
  PySem.W.keepIn K (.ref 804),
  PySem.W.plainGet K 913 Str.empty,
  PySem.W.hasDictIn K 913,
  PySem.W.plainOver K 913]
def oB5v : List (Bool) := [
  true,
  true,
  true,
  true,
  true,
  true,
  true,
  true,
  true,
  true,
  true,
  true,
  true,
  true,
  true,
  true,
  true,
  true,
  true,
  true,
  true,
  true,
  true,
  true]
def oB6 (K : Frag) : List (Bool) := [
  PySem.W.makesIn K 913,
  PySem.W.keepIn K (.ref 913),
  PySem.W.plainGet K 946 Str.empty,
  PySem.W.hasDictIn K 946,
  PySem.W.plainOver K 946,
  PySem.W.makesIn K 946,
  PySem.W.keepIn K (.ref 946),
  PySem.W.excIn K 388 [.type "ValueError", .type "Exception", .type "BaseException", .type "object"] "ValueError.__new__",
  PySem.W.keepIn K (.ref 388)]
def oB6v : List (Bool) := [
  true,
  true,
  true,
  true,
  true,
  true,
  true,
  true,
  true]
def oR0 (K : Frag) : List (Option (List Value)) := [
  PySem.W.recIn K 532 "property",
  PySem.W.recIn K 526 "property",
  PySem.W.recIn K 840 "property"]
def oR0v : List (Option (List Value)) := [
  some [.ref 531, .none, .none, .none, .str "ligatures" 1032, .bool false],
  some [.ref 525, .none, .none, .none, .str "letters" 1025, .bool false],
  some [.ref 839, .none, .none, .none, .str "letters" 1440, .bool false]]
def oM0 (K : Frag) : List (List (Option Bool)) := [
  ([.ref 79, .ref 98, .ref 117, .ref 136, .ref 155, .ref 174, .ref 193, .ref 212, .ref 231, .ref 250, .ref 269, .ref 288, .ref 307, .ref 326, .ref 345, .ref 364, .ref 376, .ref 388, .ref 59] : List Value).map (PySem.W.kitOne K (.ref 79)),
  ([.ref 79, .ref 98, .ref 117, .ref 136, .ref 155, .ref 174, .ref 193, .ref 212, .ref 231, .ref 250, .ref 269, .ref 288, .ref 307, .ref 326, .ref 345, .ref 364, .ref 376, .ref 388, .ref 59] : List Value).map (PySem.W.kitOne K (.ref 98)),
  ([.ref 79, .ref 98, .ref 117, .ref 136, .ref 155, .ref 174, .ref 193, .ref 212, .ref 231, .ref 250, .ref 269, .ref 288, .ref 307, .ref 326, .ref 345, .ref 364, .ref 376, .ref 388, .ref 59] : List Value).map (PySem.W.kitOne K (.ref 117)),
  ([.ref 79, .ref 98, .ref 117, .ref 136, .ref 155, .ref 174, .ref 193, .ref 212, .ref 231, .ref 250, .ref 269, .ref 288, .ref 307, .ref 326, .ref 345, .ref 364, .ref 376, .ref 388, .ref 59] : List Value).map (PySem.W.kitOne K (.ref 136)),
  ([.ref 79, .ref 98, .ref 117, .ref 136, .ref 155, .ref 174, .ref 193, .ref 212, .ref 231, .ref 250, .ref 269, .ref 288, .ref 307, .ref 326, .ref 345, .ref 364, .ref 376, .ref 388, .ref 59] : List Value).map (PySem.W.kitOne K (.ref 155)),
  ([.ref 79, .ref 98, .ref 117, .ref 136, .ref 155, .ref 174, .ref 193, .ref 212, .ref 231, .ref 250, .ref 269, .ref 288, .ref 307, .ref 326, .ref 345, .ref 364, .ref 376, .ref 388, .ref 59] : List Value).map (PySem.W.kitOne K (.ref 174)),
  ([.ref 79, .ref 98, .ref 117, .ref 136, .ref 155, .ref 174, .ref 193, .ref 212, .ref 231, .ref 250, .ref 269, .ref 288, .ref 307, .ref 326, .ref 345, .ref 364, .ref 376, .ref 388, .ref 59] : List Value).map (PySem.W.kitOne K (.ref 193)),
  ([.ref 79, .ref 98, .ref 117, .ref 136, .ref 155, .ref 174, .ref 193, .ref 212, .ref 231, .ref 250, .ref 269, .ref 288, .ref 307, .ref 326, .ref 345, .ref 364, .ref 376, .ref 388, .ref 59] : List Value).map (PySem.W.kitOne K (.ref 212)),
  ([.ref 79, .ref 98, .ref 117, .ref 136, .ref 155, .ref 174, .ref 193, .ref 212, .ref 231, .ref 250, .ref 269, .ref 288, .ref 307, .ref 326, .ref 345, .ref 364, .ref 376, .ref 388, .ref 59] : List Value).map (PySem.W.kitOne K (.ref 231)),
  ([.ref 79, .ref 98, .ref 117, .ref 136, .ref 155, .ref 174, .ref 193, .ref 212, .ref 231, .ref 250, .ref 269, .ref 288, .ref 307, .ref 326, .ref 345, .ref 364, .ref 376, .ref 388, .ref 59] : List Value).map (PySem.W.kitOne K (.ref 250)),
  ([.ref 79, .ref 98, .ref 117, .ref 136, .ref 155, .ref 174, .ref 193, .ref 212, .ref 231, .ref 250, .ref 269, .ref 288, .ref 307, .ref 326, .ref 345, .ref 364, .ref 376, .ref 388, .ref 59] : List Value).map (PySem.W.kitOne K (.ref 269)),
  ([.ref 79, .ref 98, .ref 117, .ref 136, .ref 155, .ref 174, .ref 193, .ref 212, .ref 231, .ref 250, .ref 269, .ref 288, .ref 307, .ref 326, .ref 345, .ref 364, .ref 376, .ref 388, .ref 59] : List Value).map (PySem.W.kitOne K (.ref 288)),
  ([.ref 79, .ref 98, .ref 117, .ref 136, .ref 155, .ref 174, .ref 193, .ref 212, .ref 231, .ref 250, .ref 269, .ref 288, .ref 307, .ref 326, .ref 345, .ref 364, .ref 376, .ref 388, .ref 59] : List Value).map (PySem.W.kitOne K (.ref 307)),
  ([.ref 79, .ref 98, .ref 117, .ref 136, .ref 155, .ref 174, .ref 193, .ref 212, .ref 231, .ref 250, .ref 269, .ref 288, .ref 307, .ref 326, .ref 345, .ref 364, .ref 376, .ref 388, .ref 59] : List Value).map (PySem.W.kitOne K (.ref 326)),
  ([.ref 79, .ref 98, .ref 117, .ref 136, .ref 155, .ref 174, .ref 193, .ref 212, .ref 231, .ref 250, .ref 269, .ref 288, .ref 307, .ref 326, .ref 345, .ref 364, .ref 376, .ref 388, .ref 59] : List Value).map (PySem.W.kitOne K (.ref 345)),
  ([.ref 79, .ref 98, .ref 117, .ref 136, .ref 155, .ref 174, .ref 193, .ref 212, .ref 231, .ref 250, .ref 269, .ref 288, .ref 307, .ref 326, .ref 345, .ref 364, .ref 376, .ref 388, .ref 59] : List Value).map (PySem.W.kitOne K (.ref 364)),
  ([.ref 79, .ref 98, .ref 117, .ref 136, .ref 155, .ref 174, .ref 193, .ref 212, .ref 231, .ref 250, .ref 269, .ref 288, .ref 307, .ref 326, .ref 345, .ref 364, .ref 376, .ref 388, .ref 59] : List Value).map (PySem.W.kitOne K (.ref 376)),
  ([.ref 79, .ref 98, .ref 117, .ref 136, .ref 155, .ref 174, .ref 193, .ref 212, .ref 231, .ref 250, .ref 269, .ref 288, .ref 307, .ref 326, .ref 345, .ref 364, .ref 376, .ref 388, .ref 59] : List Value).map (PySem.W.kitOne K (.ref 388))]
def oM0v : List (List (Option Bool)) := [
  ([true, false, false, false, false, false, false, false, false, false, false, false, false, false, false, false, false, false, true] : List Bool).map some,
  ([false, true, false, false, false, false, false, false, false, false, false, false, false, false, false, false, false, false, true] : List Bool).map some,
  ([false, false, true, false, false, false, false, false, false, false, false, false, false, false, false, false, false, false, true] : List Bool).map some,
  ([false, false, false, true, false, false, false, false, false, false, false, false, false, false, false, false, false, false, true] : List Bool).map some,
  ([false, false, false, false, true, false, false, false, false, false, false, false, false, false, false, false, false, false, true] : List Bool).map some,
  ([false, false, false, false, false, true, false, false, false, false, false, false, false, false, false, false, false, false, true] : List Bool).map some,
  ([false, false, false, false, false, false, true, false, false, false, false, false, false, false, false, false, false, false, true] : List Bool).map some,
  ([false, false, false, false, false, false, false, true, false, false, false, false, false, false, false, false, false, false, true] : List Bool).map some,
  ([false, false, false, false, false, false, false, false, true, false, false, false, false, false, false, false, false, false, true] : List Bool).map some,
  ([false, false, false, false, false, false, false, false, false, true, false, false, false, false, false, false, false, false, true] : List Bool).map some,
  ([false, false, false, false, false, false, false, false, false, false, true, false, false, false, false, false, false, false, true] : List Bool).map some,
  ([false, false, false, false, false, false, false, false, false, false, false, true, false, false, false, false, false, false, true] : List Bool).map some,
  ([false, false, false, false, false, false, false, false, false, false, false, false, true, false, false, false, false, false, true] : List Bool).map some,
  ([false, false, false, false, false, false, false, false, false, false, false, false, false, true, false, false, false, false, true] : List Bool).map some,
  ([false, false, false, false, false, false, false, false, false, false, false, false, false, false, true, false, false, false, true] : List Bool).map some,
  ([false, false, false, false, false, false, false, false, false, false, false, false, false, false, false, true, false, false, true] : List Bool).map some,
  ([false, false, false, false, false, false, false, false, false, false, false, false, false, false, false, false, true, false, true] : List Bool).map some,
  ([false, false, false, false, false, false, false, false, false, false, false, false, false, false, false, false, false, true, true] : List Bool).map some]
def oL0 (K : Frag) : List (Option Obj) := [
  K.lookup 1022,
  K.lookup 426,
  K.lookup 766]
def oL0v : List (Option Obj) := [
  some ⟨.type "tuple", none, .seq #[.int 1 1721] 0, #[]⟩,
  some ⟨.type "tuple", none, .seq #[.none] 0, #[]⟩,
  some ⟨.type "tuple", none, .seq #[.str "" 1329, .str "" 1330] 0, #[]⟩]
def oQ0 (K : Frag) : List (Option CFound) := [
  PySem.W.findCls K (.ref 712) (.type "type") "MOST_LETTERS"]
def oQ0v : List (Option CFound) := [
  some (.val (.int 6 891))]
def oF0 (K : Frag) : List (FnX) := [
  foX K 397,
  foX K 76,
  foX K 95,
  foX K 114,
  foX K 133,
  foX K 152,
  foX K 171,
  foX K 190,
  foX K 209,
  foX K 228,
  foX K 247,
  foX K 266,
  foX K 285,
  foX K 304,
  foX K 323,
  foX K 342,
  foX K 361,
  foX K 1029,
  foX K 1092,
  foX K 1207,
  foX K 1214,
  foX K 1219,
  foX K 1226,
  foX K 1233]
def oF0v : List (FnX) := [
  some ("is_whole", "is_whole", defArgs (top 23), .stmts (defBody (top 23)), defScope (top 23), mainGlobals, [], .none, .none, builtinsNs),
  some ("__init__", "InvalidGlyph.__init__", defArgs (inClass (top 4) 0), .stmts (defBody (inClass (top 4) 0)), defScope (inClass (top 4) 0), mainGlobals, [], .none, .none, builtinsNs),
  some ("__init__", "InvalidNumber.__init__", defArgs (inClass (top 5) 0), .stmts (defBody (inClass (top 5) 0)), defScope (inClass (top 5) 0), mainGlobals, [], .none, .none, builtinsNs),
  some ("__init__", "UnknownGlyph.__init__", defArgs (inClass (top 6) 0), .stmts (defBody (inClass (top 6) 0)), defScope (inClass (top 6) 0), mainGlobals, [], .none, .none, builtinsNs),
  some ("__init__", "TooMany.__init__", defArgs (inClass (top 7) 0), .stmts (defBody (inClass (top 7) 0)), defScope (inClass (top 7) 0), mainGlobals, [], .none, .none, builtinsNs),
  some ("__init__", "Overlap.__init__", defArgs (inClass (top 8) 0), .stmts (defBody (inClass (top 8) 0)), defScope (inClass (top 8) 0), mainGlobals, [], .none, .none, builtinsNs),
  some ("__init__", "InUse.__init__", defArgs (inClass (top 9) 0), .stmts (defBody (inClass (top 9) 0)), defScope (inClass (top 9) 0), mainGlobals, [], .none, .none, builtinsNs),
  some ("__init__", "DeedRefused.__init__", defArgs (inClass (top 10) 0), .stmts (defBody (inClass (top 10) 0)), defScope (inClass (top 10) 0), mainGlobals, [], .none, .none, builtinsNs),
  some ("__init__", "InvalidLine.__init__", defArgs (inClass (top 11) 0), .stmts (defBody (inClass (top 11) 0)), defScope (inClass (top 11) 0), mainGlobals, [], .none, .none, builtinsNs),
  some ("__init__", "UnknownLetter.__init__", defArgs (inClass (top 12) 0), .stmts (defBody (inClass (top 12) 0)), defScope (inClass (top 12) 0), mainGlobals, [], .none, .none, builtinsNs),
  some ("__init__", "InvalidState.__init__", defArgs (inClass (top 13) 0), .stmts (defBody (inClass (top 13) 0)), defScope (inClass (top 13) 0), mainGlobals, [], .none, .none, builtinsNs),
  some ("__init__", "InvalidText.__init__", defArgs (inClass (top 14) 0), .stmts (defBody (inClass (top 14) 0)), defScope (inClass (top 14) 0), mainGlobals, [], .none, .none, builtinsNs),
  some ("__init__", "Contradiction.__init__", defArgs (inClass (top 15) 0), .stmts (defBody (inClass (top 15) 0)), defScope (inClass (top 15) 0), mainGlobals, [], .none, .none, builtinsNs),
  some ("__init__", "NameTaken.__init__", defArgs (inClass (top 16) 0), .stmts (defBody (inClass (top 16) 0)), defScope (inClass (top 16) 0), mainGlobals, [], .none, .none, builtinsNs),
  some ("__init__", "UnknownName.__init__", defArgs (inClass (top 17) 0), .stmts (defBody (inClass (top 17) 0)), defScope (inClass (top 17) 0), mainGlobals, [], .none, .none, builtinsNs),
  some ("__init__", "UnknownKind.__init__", defArgs (inClass (top 18) 0), .stmts (defBody (inClass (top 18) 0)), defScope (inClass (top 18) 0), mainGlobals, [], .none, .none, builtinsNs),
  some ("__init__", "InvalidOptions.__init__", defArgs (inClass (top 19) 0), .stmts (defBody (inClass (top 19) 0)), defScope (inClass (top 19) 0), mainGlobals, [], .none, .none, builtinsNs),
  some ("__init__", "Ratio.__init__", defArgs (inClass (top 53) 1), .stmts (defBody (inClass (top 53) 1)), defScope (inClass (top 53) 1), mainGlobals, [], .ref 1022, .none, builtinsNs),
  some ("__eq__", "Ratio.__eq__", defArgs (inClass (top 53) 10), .stmts (defBody (inClass (top 53) 10)), defScope (inClass (top 53) 10), mainGlobals, [], .none, .none, builtinsNs),
  some ("_law_bag", "_law_bag", defArgs (top 64), .stmts (defBody (top 64)), defScope (top 64), mainGlobals, [], .none, .none, builtinsNs),
  some ("_law_take", "_law_take", defArgs (top 65), .stmts (defBody (top 65)), defScope (top 65), mainGlobals, [], .none, .none, builtinsNs),
  some ("_law_text", "_law_text", defArgs (top 66), .stmts (defBody (top 66)), defScope (top 66), mainGlobals, [], .none, .none, builtinsNs),
  some ("_law_glyphs", "_law_glyphs", defArgs (top 67), .stmts (defBody (top 67)), defScope (top 67), mainGlobals, [], .none, .none, builtinsNs),
  some ("_law_places", "_law_places", defArgs (top 68), .stmts (defBody (top 68)), defScope (top 68), mainGlobals, [], .none, .none, builtinsNs)]
def oF1 (K : Frag) : List (FnX) := [
  foX K 1240,
  foX K 1252,
  foX K 1247,
  foX K 404,
  foX K 411,
  foX K 744,
  foX K 723,
  foX K 730,
  foX K 737,
  foX K 434,
  foX K 466,
  foX K 473,
  foX K 501,
  foX K 513,
  foX K 627,
  foX K 634,
  foX K 648,
  foX K 655,
  foX K 662,
  foX K 669,
  foX K 674,
  foX K 688,
  foX K 695,
  foX K 531]
def oF1v : List (FnX) := [
  some ("_law_names", "_law_names", defArgs (top 69), .stmts (defBody (top 69)), defScope (top 69), mainGlobals, [], .none, .none, builtinsNs),
  some ("_law_kinds", "_law_kinds", defArgs (top 71), .stmts (defBody (top 71)), defScope (top 71), mainGlobals, [], .none, .none, builtinsNs),
  some ("_law_plain", "_law_plain", defArgs (top 70), .stmts (defBody (top 70)), defScope (top 70), mainGlobals, [], .none, .none, builtinsNs),
  some ("is_between", "is_between", defArgs (top 24), .stmts (defBody (top 24)), defScope (top 24), mainGlobals, [], .none, .none, builtinsNs),
  some ("check_between", "check_between", defArgs (top 25), .stmts (defBody (top 25)), defScope (top 25), mainGlobals, [], .none, .none, builtinsNs),
  some ("write", "write", defArgs (top 33), .stmts (defBody (top 33)), defScope (top 33), mainGlobals, [], .none, .none, builtinsNs),
  some ("font_place", "font_place", defArgs (top 30), .stmts (defBody (top 30)), defScope (top 30), mainGlobals, [], .none, .none, builtinsNs),
  some ("pair_place", "pair_place", defArgs (top 31), .stmts (defBody (top 31)), defScope (top 31), mainGlobals, [], .none, .none, builtinsNs),
  some ("is_glyph_name", "is_glyph_name", defArgs (top 32), .stmts (defBody (top 32)), defScope (top 32), mainGlobals, [], .none, .none, builtinsNs),
  some ("__init__", "Font.__init__", defArgs (inClass (top 29) 4), .stmts (defBody (inClass (top 29) 4)), defScope (inClass (top 29) 4), mainGlobals, [], .ref 426, .ref 427, builtinsNs),
  some ("__contains__", "Font.__contains__", defArgs (inClass (top 29) 8), .stmts (defBody (inClass (top 29) 8)), defScope (inClass (top 29) 8), mainGlobals, [], .none, .none, builtinsNs),
  some ("__len__", "Font.__len__", defArgs (inClass (top 29) 9), .stmts (defBody (inClass (top 29) 9)), defScope (inClass (top 29) 9), mainGlobals, [], .none, .none, builtinsNs),
  some ("glyphs", "Font.glyphs", defArgs (inClass (top 29) 13), .stmts (defBody (inClass (top 29) 13)), defScope (inClass (top 29) 13), mainGlobals, [], .none, .none, builtinsNs),
  some ("advance_of", "Font.advance_of", defArgs (inClass (top 29) 15), .stmts (defBody (inClass (top 29) 15)), defScope (inClass (top 29) 15), mainGlobals, [], .none, .none, builtinsNs),
  some ("_put_advance", "Font._put_advance", defArgs (inClass (top 29) 31), .stmts (defBody (inClass (top 29) 31)), defScope (inClass (top 29) 31), mainGlobals, [], .none, .none, builtinsNs),
  some ("_put_kern", "Font._put_kern", defArgs (inClass (top 29) 32), .stmts (defBody (inClass (top 29) 32)), defScope (inClass (top 29) 32), mainGlobals, [], .none, .none, builtinsNs),
  some ("_put_blank", "Font._put_blank", defArgs (inClass (top 29) 34), .stmts (defBody (inClass (top 29) 34)), defScope (inClass (top 29) 34), mainGlobals, [], .none, .none, builtinsNs),
  some ("_check_known", "Font._check_known", defArgs (inClass (top 29) 35), .stmts (defBody (inClass (top 29) 35)), defScope (inClass (top 29) 35), mainGlobals, [], .none, .none, builtinsNs),
  some ("_check_letters", "Font._check_letters", defArgs (inClass (top 29) 36), .stmts (defBody (inClass (top 29) 36)), defScope (inClass (top 29) 36), mainGlobals, [], .none, .none, builtinsNs),
  some ("_check_room", "Font._check_room", defArgs (inClass (top 29) 37), .stmts (defBody (inClass (top 29) 37)), defScope (inClass (top 29) 37), mainGlobals, [], .none, .none, builtinsNs),
  some ("_check_kerns", "Font._check_kerns", defArgs (inClass (top 29) 38), .stmts (defBody (inClass (top 29) 38)), defScope (inClass (top 29) 38), mainGlobals, [], .none, .none, builtinsNs),
  some ("_write_advance", "Font._write_advance", defArgs (inClass (top 29) 40), .stmts (defBody (inClass (top 29) 40)), defScope (inClass (top 29) 40), mainGlobals, [], .none, .none, builtinsNs),
  some ("_write_kern", "Font._write_kern", defArgs (inClass (top 29) 41), .stmts (defBody (inClass (top 29) 41)), defScope (inClass (top 29) 41), mainGlobals, [], .none, .none, builtinsNs),
  some ("ligatures", "Font.ligatures", defArgs (inClass (top 29) 18), .stmts (defBody (inClass (top 29) 18)), defScope (inClass (top 29) 18), mainGlobals, [], .none, .none, builtinsNs)]
def oF2 (K : Frag) : List (FnX) := [
  foX K 606,
  foX K 525,
  foX K 813,
  foX K 758,
  foX K 765,
  foX K 794,
  foX K 780,
  foX K 910,
  foX K 929,
  foX K 943,
  foX K 903,
  foX K 825,
  foX K 839,
  foX K 1179,
  foX K 1172,
  foX K 1259]
def oF2v : List (FnX) := [
  some ("undo", "Font.undo", defArgs (inClass (top 29) 28), .stmts (defBody (inClass (top 29) 28)), defScope (inClass (top 29) 28), mainGlobals, [], .none, .none, builtinsNs),
  some ("letters", "Font.letters", defArgs (inClass (top 29) 17), .stmts (defBody (inClass (top 29) 17)), defScope (inClass (top 29) 17), mainGlobals, [], .none, .none, builtinsNs),
  some ("beginnings", "beginnings", defArgs (top 41), .stmts (defBody (top 41)), defScope (top 41), mainGlobals, [], .none, .none, builtinsNs),
  some ("glyph_row", "glyph_row", defArgs (top 36), .stmts (defBody (top 36)), defScope (top 36), mainGlobals, [], .none, .none, builtinsNs),
  some ("added_width", "added_width", defArgs (top 37), .stmts (defBody (top 37)), defScope (top 37), mainGlobals, [], .none, .none, builtinsNs),
  some ("finish", "Stepper.finish", defArgs (inClass (top 40) 2), .stmts (defBody (inClass (top 40) 2)), defScope (inClass (top 40) 2), mainGlobals, [], .none, .none, builtinsNs),
  some ("__init__", "Stepper.__init__", defArgs (inClass (top 40) 0), .stmts (defBody (inClass (top 40) 0)), defScope (inClass (top 40) 0), mainGlobals, [], .none, .none, builtinsNs),
  some ("_number_of", "Joined._number_of", defArgs (inClass (top 43) 12), .stmts (defBody (inClass (top 43) 12)), defScope (inClass (top 43) 12), mainGlobals, [], .none, .none, builtinsNs),
  some ("__init__", "Side.__init__", defArgs (inClass (top 44) 0), .stmts (defBody (inClass (top 44) 0)), defScope (inClass (top 44) 0), mainGlobals, [], .none, .none, builtinsNs),
  some ("finish", "Side.finish", defArgs (inClass (top 44) 2), .stmts (defBody (inClass (top 44) 2)), defScope (inClass (top 44) 2), mainGlobals, [], .none, .none, builtinsNs),
  some ("_explore", "Joined._explore", defArgs (inClass (top 43) 11), .stmts (defBody (inClass (top 43) 11)), defScope (inClass (top 43) 11), mainGlobals, [], .none, .none, builtinsNs),
  some ("__init__", "Joined.__init__", defArgs (inClass (top 43) 0), .stmts (defBody (inClass (top 43) 0)), defScope (inClass (top 43) 0), mainGlobals, [], .none, .none, builtinsNs),
  some ("letters", "Joined.letters", defArgs (inClass (top 43) 2), .stmts (defBody (inClass (top 43) 2)), defScope (inClass (top 43) 2), mainGlobals, [], .none, .none, builtinsNs),
  some ("check_common", "check_common", defArgs (top 59), .stmts (defBody (top 59)), defScope (top 59), mainGlobals, [], .none, .none, builtinsNs),
  some ("worst_rate", "worst_rate", defArgs (top 58), .stmts (defBody (top 58)), defScope (top 58), mainGlobals, [], .none, .none, builtinsNs),
  some ("law", "law", defArgs (top 72), .stmts (defBody (top 72)), defScope (top 72), mainGlobals, [], .none, .none, builtinsNs)]
def oC0 (K : Frag) : List (Bool) := [
  cdX K 397 "is_whole",
  cdX K 76 "InvalidGlyph.__init__",
  cdX K 95 "InvalidNumber.__init__",
  cdX K 114 "UnknownGlyph.__init__",
  cdX K 133 "TooMany.__init__",
  cdX K 152 "Overlap.__init__",
  cdX K 171 "InUse.__init__",
  cdX K 190 "DeedRefused.__init__",
  cdX K 209 "InvalidLine.__init__",
  cdX K 228 "UnknownLetter.__init__",
  cdX K 247 "InvalidState.__init__",
  cdX K 266 "InvalidText.__init__",
  cdX K 285 "Contradiction.__init__",
  cdX K 304 "NameTaken.__init__",
  cdX K 323 "UnknownName.__init__",
  cdX K 342 "UnknownKind.__init__",
  cdX K 361 "InvalidOptions.__init__",
  cdX K 1029 "Ratio.__init__",
  cdX K 1092 "Ratio.__eq__",
  cdX K 1207 "_law_bag",
  cdX K 1214 "_law_take",
  cdX K 1219 "_law_text",
  cdX K 1226 "_law_glyphs",
  cdX K 1233 "_law_places"]
def oC0v : List (Bool) := [
  true,
  true,
  true,
  true,
  true,
  true,
  true,
  true,
  true,
  true,
  true,
  true,
  true,
  true,
  true,
  true,
  true,
  true,
  true,
  true,
  true,
  true,
  true,
  true]
def oC1 (K : Frag) : List (Bool) := [
  cdX K 1240 "_law_names",
  cdX K 1252 "_law_kinds",
  cdX K 1247 "_law_plain",
  cdX K 404 "is_between",
  cdX K 411 "check_between",
  cdX K 744 "write",
  cdX K 723 "font_place",
  cdX K 730 "pair_place",
  cdX K 737 "is_glyph_name",
  cdX K 434 "Font.__init__",
  cdX K 466 "Font.__contains__",
  cdX K 473 "Font.__len__",
  cdX K 501 "Font.glyphs",
  cdX K 513 "Font.advance_of",
  cdX K 627 "Font._put_advance",
  cdX K 634 "Font._put_kern",
  cdX K 648 "Font._put_blank",
  cdX K 655 "Font._check_known",
  cdX K 662 "Font._check_letters",
  cdX K 669 "Font._check_room",
  cdX K 674 "Font._check_kerns",
  cdX K 688 "Font._write_advance",
  cdX K 695 "Font._write_kern",
  cdX K 531 "Font.ligatures"]
def oC1v : List (Bool) := [
  true,
  true,
  true,
  true,
  true,
  true,
  true,
  true,
  true,
  true,
  true,
  true,
  true,
  true,
  true,
  true,
  true,
  true,
  true,
  true,
  true,
  true,
  true,
  true]
def oC2 (K : Frag) : List (Bool) := [
  cdX K 606 "Font.undo",
  cdX K 525 "Font.letters",
  cdX K 813 "beginnings",
  cdX K 758 "glyph_row",
  cdX K 765 "added_width",
  cdX K 794 "Stepper.finish",
  cdX K 780 "Stepper.__init__",
  cdX K 910 "Joined._number_of",
  cdX K 929 "Side.__init__",
  cdX K 943 "Side.finish",
  cdX K 903 "Joined._explore",
  cdX K 825 "Joined.__init__",
  cdX K 839 "Joined.letters",
  cdX K 1179 "check_common",
  cdX K 1172 "worst_rate",
  cdX K 1259 "law"]
def oC2v : List (Bool) := [
  true,
  true,
  true,
  true,
  true,
  true,
  true,
  true,
  true,
  true,
  true,
  true,
  true,
  true,
  true,
  true]
def oX0 (K : Frag) : List (Bool) := [
  xcX K 79,
  xcX K 98,
  xcX K 117,
  xcX K 136,
  xcX K 155,
  xcX K 174,
  xcX K 193,
  xcX K 212,
  xcX K 231,
  xcX K 250,
  xcX K 269,
  xcX K 288,
  xcX K 307,
  xcX K 326,
  xcX K 345,
  xcX K 364]
def oX0v : List (Bool) := [
  true,
  true,
  true,
  true,
  true,
  true,
  true,
  true,
  true,
  true,
  true,
  true,
  true,
  true,
  true,
  true]
abbrev Look0 : Type := List (Option (Option Value)) × List (Option (Option Value)) × List (Option (Option Value)) × List (Option (Option Value)) × List (Option (Option Value)) × List (Option (Option Value)) × List (Option (Option Value)) × List (Option (Option Value)) × List (Option (Option Value)) × List (Option (Option Value)) × List (Option Value) × List (Option Value) × List (Option Bool) × List (Option Bool) × List (Option Bool) × List (Option Bool) × List (Option Bool) × List (Bool) × List (Bool) × List (Bool) × List (Bool) × List (Bool) × List (Bool) × List (Bool) × List (Option (List Value)) × List (List (Option Bool)) × List (Option Obj) × List (Option CFound) × List (FnX) × List (FnX) × List (FnX) × List (Bool) × List (Bool) × List (Bool) × List (Bool)
def look0 (K : Frag) : Look0 := (oN0 K, oN1 K, oN2 K, oN3 K, oN4 K, oN5 K, oN6 K, oN7 K, oN8 K, oN9 K, oT0 K, oT1 K, oS0 K, oS1 K, oS2 K, oS3 K, oS4 K, oB0 K, oB1 K, oB2 K, oB3 K, oB4 K, oB5 K, oB6 K, oR0 K, oM0 K, oL0 K, oQ0 K, oF0 K, oF1 K, oF2 K, oC0 K, oC1 K, oC2 K, oX0 K)
def told0 : Look0 := (oN0v, oN1v, oN2v, oN3v, oN4v, oN5v, oN6v, oN7v, oN8v, oN9v, oT0v, oT1v, oS0v, oS1v, oS2v, oS3v, oS4v, oB0v, oB1v, oB2v, oB3v, oB4v, oB5v, oB6v, oR0v, oM0v, oL0v, oQ0v, oF0v, oF1v, oF2v, oC0v, oC1v, oC2v, oX0v)
abbrev Look : Type := Look0
def look (K : Frag) : Look := look0 K
def told : Look := told0
def hk : Hook where
  α := Look
  obs := fun s => look (part s.heap.get?)
  val := fun _ => told
  says := fun _ h => ∃ K : Frag, K.In h ∧ look K = told
  of := fun _ _ e => ⟨_, He.frG_in, e⟩
  keeps := fun _ _ _ ⟨K, i, e⟩ k => ⟨K, Frag.In.keeps i k, e⟩
def ob (s : SharedT) : Look := look (part (HandSHeadRun.getT s))
theorem ob_eq (s : SharedT) : ob s = hk.obs s.abs := by
  show look (part (HandSHeadRun.getT s)) = look (part s.abs.heap.get?)
  rw [show HandSHeadRun.getT s = s.abs.heap.get? from funext (HandSHeadRun.getT_eq s)]
theorem both {α β γ δ : Type} {x : Option α} {f : α → β} {g : α → γ} {k : α → δ} {b : β} {c : γ} {d : δ} {u : α → Unit} {v : Unit} (p : x.map (fun y => (f y, g y, u y)) = some (b, c, v)) (q : x.map k = some d) : x.map (fun y => (f y, g y, k y)) = some (b, c, d) := by
  cases x with
  | none => cases p
  | some y =>
    have p1 := Option.some.inj p
    have q1 := Option.some.inj q
    exact congrArg some (Prod.ext (congrArg (fun z : β × γ × Unit => z.1) p1) (Prod.ext (congrArg (fun z : β × γ × Unit => z.2.1) p1) q1))
set_option maxHeartbeats 0 in
theorem runH (w : World) : HandSHeadRun.RunEqI R qv Hook.none (fun _ => ()) 22000 names w := by
  unfold HandSHeadRun.RunEqI
  kernel_rfl
set_option maxHeartbeats 0 in
theorem run0 (w : World) : (HandSHeadRun.wholeF (fun p => HandSHeadRun.stepQ (HandSHeadRun.denQ HandSHeadRun.tabQ) p w) HandSHeadRun.fenceQ 22000 R.prog).map (fun x => ob x.2) = some (hk.val w) := by
  kernel_rfl
theorem run (w : World) : HandSHeadRun.RunEqI R qv hk ob 22000 names w := by
  have z := runH w
  unfold HandSHeadRun.RunEqI at z ⊢
  exact both z (run0 w)
theorem nth {α : Type} {l v : List α} (e : l = v) (i : Nat) {a b : α} (x : l[i]? = some a) (y : v[i]? = some b) : a = b := by
  rw [e] at x
  exact Option.some.inj (x.symm.trans y)
end HdK
namespace Toy
open PySem L2
def top (i : Nat) : Stmt := PySem.Challenge.pw_fontgap_k72_errors_of_their_own_kinds.main.body.getD i (.Pass ⟨0, 0, 0, 0⟩)
/-! ### the bag of draws -/
/-- a bag stands at b: the script's ints at l, the place, the rest, the state, the count -/
def BagAt (H : Hp) (b l : Addr) : Prop := ∃ (ns : List Int) (p q r c : Int), H b = some (.lst [.ref l, .int p, .int q, .int r, .int c]) ∧ H l = some (.lst (ns.map V.int)) ∧ 0 ≤ p ∧ 0 ≤ r ∧ r < 2147483647
def Keep (b : Addr) (H H' : Hp) : Prop := ∀ a o, H a = some o → a ≠ b → H' a = some o
def spBag (K : PySem.W.Frag) : Sp := fun vs H Q _ => ∃ (a : Addr) (ns : List Int), vs = [.ref a] ∧ SqL K H a (ns.map V.int) ∧ ∀ b l H', BagAt H' b l → H b = none → Same H H' → Q (.ref b) H'
def spTake : Sp := fun vs H Q _ => ∃ (b l : Addr) (n : Int), vs = [.ref b, .int n] ∧ 0 < n ∧ n.natAbs < 2 ^ 300 ∧ BagAt H b l ∧
  ∀ (d : Int) H', 0 ≤ d → d < n → BagAt H' b l → Keep b H H' → Q (.int d) H'
abbrev sBag : Stmt := top 64
abbrev sTake : Stmt := top 65
theorem cut63 (ns : List Int) : cutV (ns.map V.int) none (some 63) = ((ns.take (HT.sIx (ns.map V.int).length (ns.map V.int).length (some 63) - HT.sIx (ns.map V.int).length 0 none)).drop 0).map V.int ∨ True := .inr trivial
theorem cut_map (ns : List Int) (lo hi : Option Int) : ∃ ms : List Int, cutV (ns.map V.int) lo hi = ms.map V.int := by
  unfold cutV
  rw [← List.map_drop, ← List.map_take]
  exact ⟨_, rfl⟩
section
variable {P : Program} {w : World} {K : PySem.W.Frag} {mg : Str → Option Value} {base : Heap}
theorem scBag : FnScope ["_law_script"] ["_law_script"] (defScope sBag) := ⟨rfl, rfl, rfl, by decide +kernel, rfl, by decide +kernel, by decide +kernel⟩
theorem ok_bag {f : Addr} {fd : FuncData} (F : Fun K "_law_bag" "_law_bag" sBag f fd) (mL : mg "list" = none) : FnOk P w K mg base CX0 1 f fd ["_law_script"] (spBag K) := by
  refine F.ok scBag (fun vs H Q E h => ?_) (fun cdv A outer s H vs Q E hr h => ?_)
  · obtain ⟨a, ns, rfl, _⟩ := h
    rfl
  · obtain ⟨a, ns, rfl, hS, k⟩ := h
    refine ⟨_, pss_one (ps_ret (pe_lst (pa_cons (pe_callTy call_list_of (by rfl) mL (by decide +kernel) (pa_cons (pe_slice sl_list (pv 0) po_none (po_some pe_int)) pa_nil)) (pa_cons pe_int (pa_cons pe_int (pa_cons pe_int (pa_cons pe_int pa_nil))))))), ?_⟩
    refine ⟨_, rfl, _, rfl, a, _, rfl, hS, fun p np => ?_⟩
    obtain ⟨ms, em⟩ := cut_map ns none (some 63)
    refine ⟨p, _, rfl, .inl (SqL.of upd_same), fun l nl => ?_⟩
    refine ⟨by show 5 ≤ sizeLine; decide, fun b nb => ?_⟩
    have hlp : l ≠ p := fun z => by rw [z, upd_same] at nl; cases nl
    have hbl : l ≠ b := fun z => by rw [← z, upd_same] at nb; cases nb
    have hbp : p ≠ b := fun z => by rw [← z, upd_ne (Ne.symm hlp), upd_same] at nb; cases nb
    refine k b l _ ⟨ms, 0, 0, 7, 0, upd_same, ?_, by decide, by decide, by decide⟩ ?_ ?_
    · rw [upd_ne hbl, upd_same, em]
    · rw [upd_ne (Ne.symm hbl), upd_ne (Ne.symm hbp)] at nb
      exact nb
    · intro c o e
      have hcp : c ≠ p := ne_of_none e np
      have hcl : c ≠ l := fun z => by rw [z] at e; rw [upd_ne hlp] at nl; rw [nl] at e; cases e
      have hcb : c ≠ b := fun z => by rw [z] at e; rw [upd_ne (Ne.symm hbl), upd_ne (Ne.symm hbp)] at nb; rw [nb] at e; cases e
      rw [upd_ne hcb, upd_ne hcl, upd_ne hcp]
      exact e
end
section
variable {P : Program} {w : World} {K : PySem.W.Frag} {mg : Str → Option Value} {base : Heap}
theorem scTake : FnScope ["_law_bag_here", "_law_size", "_law_digit", "_law_cell"] ["_law_bag_here", "_law_size"] (defScope sTake) := ⟨rfl, rfl, rfl, by decide +kernel, rfl, by decide +kernel, by decide +kernel⟩
theorem fm_nn (a : Int) {n : Int} (h : 0 < n) : 0 ≤ a.fmod n ∧ a.fmod n < n := by
  rw [Int.fmod_eq_emod_of_nonneg _ (by omega)]
  exact ⟨Int.emod_nonneg _ (by omega), Int.emod_lt_of_pos _ h⟩
theorem bag_keep {H : Hp} {b : Addr} {o : HO} : Keep b H (upd H b o) := fun a u e h => by rw [upd_ne h]; exact e
theorem Keep.trans {b : Addr} {H H1 H2 : Hp} (a : Keep b H H1) (c : Keep b H1 H2) : Keep b H H2 := fun x o e h => c x o (a x o e h) h
theorem Keep.refl {b : Addr} {H : Hp} : Keep b H H := fun _ _ e _ => e
theorem ok_take {f : Addr} {fd : FuncData} (F : Fun K "_law_take" "_law_take" sTake f fd) (mL : mg "len" = none) (mI : mg "int" = none) : FnOk P w K mg base CX0 1 f fd ["_law_bag_here", "_law_size"] spTake := by
  refine F.ok scTake (fun vs H Q E h => ?_) (fun cdv A outer s H vs Q E hr h => ?_)
  · obtain ⟨b, l, n, rfl, _⟩ := h
    rfl
  · obtain ⟨b, l, n, rfl, n0, nW, ⟨ns, p, q, r, c, hb, hl, p0, r0, r1⟩, k⟩ := h
    have wd : CDivW 0 n := wide_div n0 nW (by decide) (by decide)
    have nn : n ≠ 0 := by omega
    refine ⟨_, pss_cons (ps_if (pt_cmpR op_ge (pe_ix ix_list (pv 0) pe_int (fun _ _ => rfl)) (pe_op op_pow pe_int pe_int) (nomark _))
        (pss_cons (ps_set (i := 2) scTake.nd rfl (Or.inl rfl) (pe_op op_modN (pe_callTy call_int1 (by rfl) mI (by decide +kernel) (pa_cons (pe_ix ix_list (pv 0) pe_int (fun _ _ => rfl)) pa_nil)) (pv 1)))
        (pss_cons (ps_asg (pe_op op_fdivW (pe_ix ix_list (pv 0) pe_int (fun _ _ => rfl)) (pv 1)) (pg_sub (pv 0) pe_int set_list))
        (pss_one (ps_ret (pv 2))))) pss_nil)
      (pss_cons (ps_set (i := 3) scTake.nd rfl (Or.inl rfl) pe_int)
      (C8.pss_cut (ps_if (pt_cmpR op_lt (pe_ix ix_list (pv 0) pe_int (fun _ _ => rfl)) (pe_callB call_len_seq (by rfl) mL PySem.boot_len (pa_cons (pe_ix ix_list (pv 0) pe_int (fun _ _ => rfl)) pa_nil)) (nomark _))
        (pss_cons (ps_set (i := 3) scTake.nd rfl (Or.inl rfl) (pe_ix ix_list (pe_ix ix_list (pv 0) pe_int (fun _ _ => rfl)) (pe_ix ix_list (pv 0) pe_int (fun _ _ => rfl)) (fun _ _ => rfl)))
        (pss_one (ps_asg (pe_op op_add (pe_ix ix_list (pv 0) pe_int (fun _ _ => rfl)) pe_int) (pg_sub (pv 0) pe_int set_list)))) pss_nil)
      (pss_cons (ps_if (pt_cmpR op_ge (pv 3) (pe_op op_pow pe_int pe_int) (nomark _))
        (pss_cons (ps_asg (pe_op op_fdivW (pv 3) (pv 1)) (pg_sub (pv 0) pe_int set_list))
        (pss_one (ps_ret (pe_op op_modN (pe_callTy call_int1 (by rfl) mI (by decide +kernel) (pa_cons (pv 3) pa_nil)) (pv 1))))) pss_nil)
      (pss_cons (ps_asg (pe_op op_add (pe_ix ix_list (pv 0) pe_int (fun _ _ => rfl)) pe_int) (pg_sub (pv 0) pe_int set_list))
      (pss_cons (ps_asg (pe_op op_mod (pe_callTy call_int1 (by rfl) mI (by decide +kernel) (pa_cons (pe_op op_add (pe_op op_add (pe_op op_mul (pe_ix ix_list (pv 0) pe_int (fun _ _ => rfl)) pe_int) (pv 3)) (pe_op op_mul (pe_ix ix_list (pv 0) pe_int (fun _ _ => rfl)) pe_int)) pa_nil)) pe_int) (pg_sub (pv 0) pe_int set_list))
      (pss_one (ps_ret (pe_op op_modN (pe_op op_fdiv (pe_op op_mod (pe_callTy call_int1 (by rfl) mI (by decide +kernel) (pa_cons (pe_op op_mul (pe_ix ix_list (pv 0) pe_int (fun _ _ => rfl)) (pe_ix ix_list (pv 0) pe_int (fun _ _ => rfl))) pa_nil)) pe_int) pe_int) (pv 1))))))))), ?_⟩
    have at2 : ∀ (a0 a1 a2 a3 a4 : V), atI [a0, a1, a2, a3, a4] 2 = some a2 := fun _ _ _ _ _ => rfl
    -- if bag[2] >= 10 ** 18
    refine ⟨_, rfl, b, _, _, _, rfl, rfl, SqL.of hb, rfl, 10, 18, rfl, rfl, ⟨by decide, by decide, by decide⟩, _, _, rfl, rfl, _, rfl, ?_⟩
    refine ite2 (fun _ => ?_) (fun _ => ?_)
    · refine ⟨_, rfl, b, _, _, _, rfl, rfl, SqL.of hb, rfl, .inl ⟨_, rfl, ?_⟩⟩
      refine ⟨_, rfl, _, _, rfl, rfl, nn, ?_⟩
      refine ⟨_, rfl, b, _, _, _, rfl, rfl, SqL.of hb, rfl, _, rfl, _, _, rfl, rfl, ⟨wd.1, wd.2⟩, ?_⟩
      refine ⟨_, rfl, b, _, _, 2, rfl, rfl, hb, rfl, ?_⟩
      refine ⟨_, rfl, k _ _ (fm_nn _ n0).1 (fm_nn _ n0).2 ⟨ns, p, q / n, r, c, upd_same, ?_, p0, r0, r1⟩ bag_keep⟩
      rw [upd_ne (ne_of hl hb (by intro z; cases ns with | nil => cases z | cons a t => cases z))]
      exact hl
    · -- cell = 0; the join
      refine ⟨fun σ' H' => ∃ (p' cell : Int) (v : Option V), σ' = [some (.ref b), some (.int n), v, some (.int cell)] ∧ 0 ≤ p' ∧ H' b = some (.lst [.ref l, .int p', .int q, .int r, .int c]) ∧ H' l = some (.lst (ns.map V.int)) ∧ Keep b H H', ?_, ?_⟩
      · refine ⟨_, rfl, b, _, _, _, rfl, rfl, SqL.of hb, rfl, _, rfl, b, _, _, _, rfl, rfl, SqL.of hb, rfl, l, _, rfl, .inl (SqL.of hl), _, _, rfl, rfl, _, rfl, ?_⟩
        refine ite2 (fun hp => ?_) (fun _ => ?_)
        · have hp' : p < ((ns.map V.int).length : Int) := of_decide_eq_true hp
          rw [List.length_map] at hp'
          obtain ⟨m, rfl⟩ : ∃ m : Nat, p = (m : Int) := ⟨p.toNat, by omega⟩
          have hm : m < ns.length := by omega
          refine ⟨_, rfl, b, _, _, _, rfl, rfl, SqL.of hb, rfl, _, rfl, b, _, _, _, rfl, rfl, SqL.of hb, rfl, l, _, _, .int ns[m], rfl, rfl, SqL.of hl, atI_nat (by rw [List.getElem?_map, List.getElem?_eq_getElem hm]; rfl), ?_⟩
          refine ⟨_, rfl, b, _, _, _, rfl, rfl, SqL.of hb, rfl, _, _, rfl, rfl, ?_⟩
          refine ⟨_, rfl, b, _, _, 1, rfl, rfl, hb, rfl, ?_⟩
          refine ⟨(m : Int) + 1, ns[m], none, rfl, by omega, upd_same, ?_, bag_keep⟩
          rw [upd_ne (ne_of hl hb (by intro z; cases ns with | nil => cases z | cons a t => cases z))]
          exact hl
        · exact ⟨p, 0, none, rfl, p0, hb, hl, Keep.refl⟩
      · rintro σ' H' ⟨p', cell, v, rfl, p0', hb', hl', kp⟩
        have hbl : ∀ o, upd H' b o l = some (.lst (ns.map V.int)) := fun o => by
          rw [upd_ne (ne_of hl' hb' (by intro z; cases ns with | nil => cases z | cons a t => cases z))]
          exact hl'
        refine ⟨_, rfl, 10, 18, rfl, rfl, ⟨by decide, by decide, by decide⟩, _, _, rfl, rfl, _, rfl, ?_⟩
        refine ite2 (fun _ => ?_) (fun _ => ?_)
        · refine ⟨_, rfl, _, rfl, _, _, rfl, rfl, ⟨wd.1, wd.2⟩, ?_⟩
          refine ⟨_, rfl, b, _, _, 2, rfl, rfl, hb', rfl, ?_⟩
          refine ⟨_, rfl, .inl ⟨_, rfl, ?_⟩⟩
          refine ⟨_, rfl, _, _, rfl, rfl, nn, ?_⟩
          exact k _ _ (fm_nn _ n0).1 (fm_nn _ n0).2 ⟨ns, p', cell / n, r, c, upd_same, hbl _, p0', r0, r1⟩ (kp.trans bag_keep)
        · refine ⟨_, rfl, b, _, _, _, rfl, rfl, SqL.of hb', rfl, _, _, rfl, rfl, ?_⟩
          refine ⟨_, rfl, b, _, _, 4, rfl, rfl, hb', rfl, ?_⟩
          refine ⟨_, rfl, b, _, _, _, rfl, rfl, SqL.of upd_same, rfl, _, _, rfl, rfl, .inr (by decide), ?_⟩
          refine ⟨_, rfl, _, _, rfl, rfl, ?_⟩
          refine ⟨_, rfl, b, _, _, _, rfl, rfl, SqL.of upd_same, rfl, _, _, rfl, rfl, .inr (by decide), ?_⟩
          refine ⟨_, _, rfl, rfl, .inl ⟨_, rfl, ?_⟩⟩
          refine ⟨_, _, rfl, rfl, (by show (0 : Int) < 2147483647; decide), ?_⟩
          refine ⟨_, rfl, b, _, _, 3, rfl, rfl, upd_same, rfl, ?_⟩
          have z0 : ∀ x : Int, 0 ≤ x % 2147483647 ∧ x % 2147483647 < 2147483647 := fun x => by omega
          generalize (r * 48271 + cell + (c + 1) * 69621 : Int) = x
          obtain ⟨y0, y1⟩ := z0 x
          refine ⟨_, rfl, b, _, _, _, rfl, rfl, SqL.of upd_same, rfl, _, rfl, b, _, _, _, rfl, rfl, SqL.of upd_same, rfl, _, _, rfl, rfl, .inl ⟨by omega, by omega⟩, .inl ⟨_, rfl, ?_⟩⟩
          refine ⟨_, _, rfl, rfl, (by show (0 : Int) < 2147483629; decide), ?_⟩
          refine ⟨_, _, rfl, rfl, ⟨by decide, by decide⟩, ?_⟩
          refine ⟨_, rfl, _, _, rfl, rfl, nn, ?_⟩
          refine k _ _ (fm_nn _ n0).1 (fm_nn _ n0).2 ⟨ns, p', q, x % 2147483647, c + 1, upd_same, ?_, p0', y0, y1⟩ ((kp.trans bag_keep).trans bag_keep)
          rw [upd_upd]
          exact hbl _
end
/-! ### rules of my own -/
section
variable {X : Cx}
/-- // by any divisor but 0, below 2 ^ 9000 in size -/
def CDivX (_ j : Int) : Prop := j ≠ 0 ∧ j.natAbs.log2 < 9000
theorem op_fdivX : OpR X (binaryOp .FloorDiv) (rI CDivX fun i j => .int (i.fdiv j)) := opI fun i j _ _ _ _ _ hc q =>
  PyProof.Rows.floordiv_int hc.1 q (.inl (PyProof.noPylong_of_log2 hc.2))
theorem divx {i j : Int} {b : Nat} (h : j ≠ 0) (hb : j.natAbs < 2 ^ b) (h0 : 0 < b) (h9 : b ≤ 9000) : CDivX i j := ⟨h, Nat.lt_of_lt_of_le (PySem.Flt.log2_lt_of h0 hb) h9⟩
/-- C(e, ..) whose __init__ may raise, wished for at the caller's slots -/
def tMakeS (C : Addr) (sp : Sp) (dvs : List V) (E : St → XK) (t : TA) : TE := fun σ H Q => t σ H fun vs H1 => ∀ x dx, H1 x = none → H1 dx = none → dx ≠ x →
  sp (.ref x :: (vs ++ dvs)) (upd (upd H1 dx (.own x)) x (.ins C dx [])) (fun v H2 => v = .non ∧ Q (.ref x) H2) (E σ)
theorem pe_makeS {CX : CXT} {k : Nat} {f C : Addr} {fd : FuncData} {ps : List Str} {sp : Sp} {E : St → XK} {x : Str} {p pos : Pos} {e : Expr} {es : List Expr} {t : TA} {ds : List Value} {dvs : List V}
    (M : Mk X.K C f) (F : FnOk X.prog X.w X.K X.mg X.base CX k f fd ps sp) (hr : Room (k + 1) X.A) (hg : Gl X x) (hm : X.mg x = some (.ref C)) (hb : Binds X.K fd ps ds) (hd : Vals dvs ds) (hx : ∀ σ, PassesAt CX X σ (E σ))
    (ha : PA X (e :: es) t) (hdb : (x == ("__debug__" : Str)) = false := by decide) (he : starEach (e :: es) X.env = (false, eval e X.env) :: starEach es X.env := by rfl) (hpl : (backTo pos (starEach es X.env)).any (·.1) = false := by rfl) :
    PE X (.Call (.Name x p) (e :: es) [] pos) (tMakeS C sp dvs E t) := by
  refine ⟨fun pins s σ H Q I h => ?_⟩
  refine PySem.wpAny_Call_Name_kw (ld_glob I hg hm ?_ hdb)
  refine PySem.W.callWith_K (h₀ := X.base) I.ok.mod.kin M.kp (thn (ha.run pos pins s σ H _ I h) fun us s1 ⟨vs, H1, I1, r, q1⟩ => ⟨I1.kIn, ?_⟩) he hpl
  have hq := q1 (s1.heap.objs.size + 1) s1.heap.objs.size (I1.hok.fresh (Nat.le_succ _)) (I1.hok.fresh (Nat.le_refl _)) (Nat.ne_of_lt (Nat.lt_succ_self _))
  have I2 := Inv.made (C := C) I1
  have r2 : Vals (V.ref (s1.heap.objs.size + 1) :: (vs ++ dvs)) (Value.ref (s1.heap.objs.size + 1) :: (us ++ ds)) := .cons rfl (r.append hd)
  have hl : (Value.ref (s1.heap.objs.size + 1) :: us ++ ds).length = ps.length := by
    have e := r2.length
    rw [F.len _ _ _ _ hq] at e
    exact e.symm
  refine wpAny_call (make_map (f := f) I1.kIn M.makes M.init (beq_iff_eq.mp M.fn) (codeAny_mono (F.run _ X.stack _ _ ⟨Value.ref (s1.heap.objs.size + 1) :: us, []⟩ (Value.ref (s1.heap.objs.size + 1) :: (us ++ ds)) _ _ (E σ) (hr.make C us [])
    (I2.env0.make C us []) (hb _ (Value.ref (s1.heap.objs.size + 1) :: us) I2.kIn hl) r2 hq) fun r s' hq' => ?_))
  cases r with
  | error e => exact hx σ pins _ _ e s' I2 hq'
  | ok fl =>
    cases fl with
    | ret u =>
      obtain ⟨v, H', I3, rv, ev, q3⟩ := I2.after hq'
      subst ev
      exact ⟨rv, ⟨V.ref (s1.heap.objs.size + 1), H', I3, rfl, q3⟩⟩
    | next => exact False.elim hq'
    | brk => exact False.elim hq'
    | cont => exact False.elim hq'
end
/-! ### an own error with one field -/
theorem upd_exc {H : Hp} {a dx : Addr} {u1 u2 u3 o : HO} (ha : H a = none) (hd : dx ≠ a) : upd (del (upd (upd (upd H a u1) dx u2) a u3) a) dx o = upd H dx o := by
  funext b
  by_cases h1 : b = dx
  · rw [h1, upd_same, upd_same]
  · rw [upd_ne h1, upd_ne h1]
    by_cases h2 : b = a
    · rw [h2, del_same, ha]
    · rw [del_ne h2, upd_ne h2, upd_ne h1, upd_ne h2]
/-- C.__init__(self, y): self.f = y -/
def spEx1 (C : Addr) (f : Str) : Sp := fun vs H Q _ => ∃ (a : Addr) (y : V), vs = [.ref a, y] ∧ H a = some (exo a C none) ∧ ∀ dx, H dx = none → dx ≠ a → Q .non (upd (upd H dx (exd dx [(f, y)])) a (exo a C (some dx)))
theorem mkO1 {C : Addr} {f : Str} {ta : TA} {σ : St} {H : Hp} {Q : XK} (h : ta σ H fun vs H1 => ∃ y, vs = [y] ∧ ∀ d, H1 d = none → Q (.ref C) (some d) (upd H1 d (.xd [(f, y)]))) (hm : ∀ (P R : List V → Hp → Prop), (∀ vs H, P vs H → R vs H) → ta σ H P → ta σ H R) : tMkO C (spEx1 C f) [] ta σ H Q := by
  refine hm _ _ (fun vs H1 ⟨y, ev, k⟩ => ?_) h
  subst ev
  refine ⟨by show 1 ≤ 1000; decide, fun a na => ⟨a, y, rfl, upd_same, fun dx hdx nda => ⟨rfl, dx, [(f, y)], upd_same, ?_, ?_, ?_⟩⟩⟩
  · rw [upd_ne nda, upd_same]
  · rw [upd_ne nda] at hdx
    exact hdx
  · rw [upd_exc na nda]
    rw [upd_ne nda] at hdx
    exact k dx hdx
/-- what the written part says of such a class and its __init__ -/
structure ErrC (K : PySem.W.Frag) (mg : Str → Option Value) (x : Str) (C fI : Addr) : Prop where
  g : mg x = some (.ref C)
  T : OexC K C
  iC : PySem.W.findIn K (.ref C) "__init__" = some (some (.ref fI))
  tI : PySem.W.typeIn K (.ref fI) = some (.type "function")
/-- raise C(e) -/
def tRaise1 (C : Addr) (f : Str) (W : WX) (te : TE) : TS := fun _ σ H => te σ H fun y H1 => ∀ d, H1 d = none → W (.ref C) (some d) σ (upd H1 d (.xd [(f, y)]))
section
variable {X : Cx}
theorem ps_raise1 {CX : CXT} {x f : Str} {C fI : Addr} {k : Nat} {fd : FuncData} {te : TE} {W : WX} {a : Expr} {p pos pos2 : Pos} (R : ErrC X.K X.mg x C fI) (F1 : FnOk X.prog X.w X.K X.mg X.base CX k fI fd ["self", f] (spEx1 C f)) (hr : Room (k + 1) X.A) (hb : Binds X.K fd ["self", f] [])
    (hx : Passes CX X (fun _ _ _ => False)) (hc : X.calm = true) (tk : Takes X W) (ha : PE X a te) (hm : ∀ σ H (P R : V → Hp → Prop), (∀ v H, P v H → R v H) → te σ H P → te σ H R) (hg : Gl X x := by rfl) (hdb : (x == ("__debug__" : Str)) = false := by decide)
    (he : starEach (a :: []) X.env = (false, eval a X.env) :: starEach [] X.env := by rfl) (hpl : (backTo pos (starEach [] X.env)).any (·.1) = false := by rfl) :
    PS X (.Raise (some (.Call (.Name x p) [a] [] pos)) none pos2) (tRaise1 C f W te) := by
  have q := ps_raise hc tk (pmk_oex (p := p) (e := a) (es := []) R.T R.iC R.tI F1 hr hb .nil hx hg R.g (pa_cons ha pa_nil he) hdb he hpl) (pos := pos2)
  refine ⟨fun pins s σ H D I h => q.run pins s σ H D I ?_⟩
  refine mkO1 (f := f) ?_ (fun P R hpr h => ?_)
  · exact hm σ H _ _ (fun y H1 k => ⟨y, rfl, k⟩) h
  · exact hm σ H _ _ (fun v H1 k => hpr _ _ k) h
theorem mono_tVar {i : Nat} (σ : St) (H : Hp) (P R : V → Hp → Prop) (h : ∀ v H, P v H → R v H) : tVar i σ H P → tVar i σ H R := fun ⟨v, e, p⟩ => ⟨v, e, h v H p⟩
end
/-! ### kinds of values -/
/-- v is an int (a truth value too): i; a truth value: b -/
def Kd (K : PySem.W.Frag) (H : Hp) (v : V) (i b : Bool) : Prop := ∃ T : String, TyX K H v (.type T) ∧ kitB T "int" = some i ∧ kitB T "bool" = some b
theorem Kd.int {K : PySem.W.Frag} {H : Hp} {n : Int} : Kd K H (.int n) true false := ⟨"int", .base (.int n), by decide +kernel, by decide +kernel⟩
theorem Kd.bl {K : PySem.W.Frag} {H : Hp} {n : Bool} : Kd K H (.bl n) true true := ⟨"bool", .base (.bl n), by decide +kernel, by decide +kernel⟩
theorem Kd.non {K : PySem.W.Frag} {H : Hp} : Kd K H .non false false := ⟨"NoneType", .base .non, by decide +kernel, by decide +kernel⟩
theorem Kd.str {K : PySem.W.Frag} {H : Hp} {z : Str} : Kd K H (.str z) false false := ⟨"str", .base (.str z), by decide +kernel, by decide +kernel⟩
theorem Kd.lst {K : PySem.W.Frag} {H : Hp} {a : Addr} {xs : List V} (e : H a = some (.lst xs)) : Kd K H (.ref a) false false := ⟨"list", .base (.lst e), by decide +kernel, by decide +kernel⟩
theorem Kd.tup {K : PySem.W.Frag} {H : Hp} {a : Addr} {xs : List V} (e : H a = some (.tup xs)) : Kd K H (.ref a) false false := ⟨"tuple", .base (.tup e), by decide +kernel, by decide +kernel⟩
/-! ### is_whole, and the law's own of that shape -/
def spWhole (K : PySem.W.Frag) : Sp := fun vs H Q _ => ∃ (v : V) (i b : Bool), vs = [v] ∧ Kd K H v i b ∧ Q (.bl (i && !b)) H
section
variable {P : Program} {w : World} {K : PySem.W.Frag} {mg : Str → Option Value} {base : Heap}
abbrev sWhole : Stmt := top 23
theorem scWhole : FnScope ["value"] ["value"] (defScope sWhole) := ⟨rfl, rfl, rfl, by decide +kernel, rfl, by decide +kernel, by decide +kernel⟩
theorem ok_whole {f : Addr} {fd : FuncData} (F : Fun K "is_whole" "is_whole" sWhole f fd) (mIs : mg "isinstance" = none) (mI : mg "int" = none) (mB : mg "bool" = none) : FnOk P w K mg base CX0 1 f fd ["value"] (spWhole K) := by
  refine F.ok scWhole (fun vs H Q E h => ?_) (fun cdv A outer s H vs Q E hr h => ?_)
  · obtain ⟨v, i, b, rfl, _⟩ := h
    rfl
  · obtain ⟨v, i, b, rfl, ⟨T, ty, k1, k2⟩, k⟩ := h
    refine ⟨_, pss_one (ps_ret (pe_and (pe_callB call_isi (by rfl) mIs (by decide +kernel) (pa_cons (pv 0) (pa_cons (pe_bltn (v := .ty "int") (by rfl) mI (by decide +kernel) rfl) pa_nil)))
      (pe_one (pe_not (pe_callB call_isi (by rfl) mIs (by decide +kernel) (pa_cons (pv 0) (pa_cons (pe_bltn (v := .ty "bool") (by rfl) mB (by decide +kernel) rfl) pa_nil))))))), ?_⟩
    refine ⟨_, rfl, _, _, _, _, i, rfl, .ty "int", ty, kit_ty k1, i, rfl, ?_⟩
    cases i with
    | false => exact iteF k
    | true =>
      refine iteT ?_
      exact ⟨_, rfl, _, _, _, _, b, rfl, .ty "bool", ty, kit_ty k2, b, rfl, k⟩
/-! ### an error's __init__ -/
abbrev sEI : Stmt := inClass (top 5) 0
theorem scEI : FnScope ["self", "value"] ["self", "value"] (defScope sEI) := ⟨rfl, rfl, rfl, by decide +kernel, rfl, by decide +kernel, by decide +kernel⟩
theorem ok_ei {f C : Addr} {fd : FuncData} (F : Fun K "__init__" "InvalidNumber.__init__" sEI f fd) (T : OexC K C) (hno : PySem.W.findIn K (.ref C) "value" = some none) : FnOk P w K mg base CX0 1 f fd ["self", "value"] (spEx1 C "value") := by
  refine F.ok scEI (fun vs H Q E h => ?_) (fun cdv A outer s H vs Q E hr h => ?_)
  · obtain ⟨v, i, rfl, _⟩ := h
    rfl
  · obtain ⟨a, y, rfl, ha, k⟩ := h
    refine ⟨_, pss_one (ps_ost (pv 0) (pv 1)), ?_⟩
    exact ⟨_, rfl, _, rfl, a, C, rfl, T, hno, .inl ⟨ha, fun dx n ne => k dx n ne⟩⟩
end
/-! ### what stays -/
theorem TyOf.sm {K : PySem.W.Frag} {H H' : Hp} {v : V} {t : Value} (s : Same H H') (h : TyOf K H v t) : TyOf K H' v t := by
  cases h with
  | non => exact .non
  | bl x => exact .bl x
  | int i => exact .int i
  | str x => exact .str x
  | flt x => exact .flt x
  | lst e => exact .lst (s _ _ e)
  | frz e => exact .frz (s _ _ e)
  | tup e => exact .tup (s _ _ e)
  | dK e => exact .dK (s _ _ e)
  | dT e => exact .dT (s _ _ e)
  | ins e cl ha hn htk hm => exact .ins (s _ _ e) cl ha hn htk hm
theorem TyX.sm {K : PySem.W.Frag} {H H' : Hp} {v : V} {t : Value} (s : Same H H') (h : TyX K H v t) : TyX K H' v t := by
  cases h with
  | base b => exact .base (TyOf.sm s b)
  | byt b => exact .byt b
  | set e => exact .set (s _ _ e)
  | kList e c => exact .kList e c
  | kTuple e c => exact .kTuple e c
  | kDict e c => exact .kDict e c
  | fTuple e => exact .fTuple (s _ _ e)
  | fDict e => exact .fDict (s _ _ e)
theorem Kd.sm {K : PySem.W.Frag} {H H' : Hp} {v : V} {i b : Bool} (s : Same H H') : Kd K H v i b → Kd K H' v i b := fun ⟨T, ty, k1, k2⟩ => ⟨T, TyX.sm s ty, k1, k2⟩
theorem same_upd {H : Hp} {a : Addr} {o : HO} (h : H a = none) : Same H (upd H a o) := fun b u e => by
  rw [upd_ne (ne_of_none e h)]
  exact e
theorem fresh_of {H : Hp} {a b : Addr} {u : HO} (h : H a = none) (e : H b = some u) : b ≠ a := fun z => by rw [z, h] at e; cases e
/-! ### what the laws of ratios share -/
structure At (K : PySem.W.Frag) (mg : Str → Option Value) (x : Str) (f : Addr) : Prop where
  g : mg x = some (.ref f)
  k : PySem.W.keepIn K (.ref f) = true
theorem BagAt.sm {H H' : Hp} {b l : Addr} (s : Same H H') : BagAt H b l → BagAt H' b l := fun ⟨ns, p, q, r, c, h1, h2, h3⟩ => ⟨ns, p, q, r, c, s _ _ h1, s _ _ h2, h3⟩
theorem BagAt.ne {H : Hp} {a b l : Addr} : BagAt H b l → H a = none → a ≠ b := fun ⟨ns, p, q, r, c, h1, _⟩ h z => by rw [z, h1] at h; cases h
theorem BagAt.nl {H : Hp} {a b l : Addr} : BagAt H b l → H a = none → a ≠ l := fun ⟨ns, p, q, r, c, _, h2, _⟩ h z => by rw [z, h2] at h; cases h
theorem BagAt.up {H : Hp} {a b l : Addr} {o : HO} (h1 : a ≠ b) (h2 : a ≠ l) : BagAt H b l → BagAt (upd H a o) b l := fun ⟨ns, p, q, r, c, e1, e2, h3⟩ => ⟨ns, p, q, r, c, (upd_ne (Ne.symm h1)).trans e1, (upd_ne (Ne.symm h2)).trans e2, h3⟩
theorem atI_in {α : Type} {xs : List α} {d : Int} (h0 : 0 ≤ d) (h1 : d < (xs.length : Int)) : ∃ v, atI xs d = some v ∧ v ∈ xs := by
  obtain ⟨m, rfl⟩ : ∃ m : Nat, d = (m : Int) := ⟨d.toNat, by omega⟩
  have hm : m < xs.length := by omega
  exact ⟨xs[m], atI_nat (List.getElem?_eq_getElem hm), List.getElem_mem hm⟩
def spLaw (K : PySem.W.Frag) : Sp := fun vs H Q _ => ∃ (a : Addr) (ns : List Int), vs = [.ref a] ∧ SqL K H a (ns.map V.int) ∧ ns.length ≤ 63 ∧ ∀ H', Q (.bl true) H'
/-! ### own errors: their class called; held as values -/
section
variable {X : Cx} {C fI : Addr} {k : Nat} {fd : FuncData} {ps : List Str} {sp : Sp} {pins : List (Addr × Obj)} {σ : L2.St}
/-- the room of a call of the class -/
theorem err_bind {H1 : Hp} {us ds : List Value} {vs dvs : List V} {a : Addr} {Q : VK} {E : XK} {CX : CXT} (F1 : FnOk X.prog X.w X.K X.mg X.base CX k fI fd ps sp) (rv : Vals vs us) (rd : Vals dvs ds) (q : sp (.ref a :: (vs ++ dvs)) H1 Q E) :
    Vals (V.ref a :: (vs ++ dvs)) (Value.ref a :: (us ++ ds)) ∧ ((Value.ref a :: us) ++ ds).length = ps.length := by
  have all : Vals (V.ref a :: (vs ++ dvs)) (Value.ref a :: (us ++ ds)) := .cons rfl (rv.append rd)
  exact ⟨all, by rw [List.cons_append, ← all.length]; exact F1.len _ _ _ _ q⟩
/-- C(..) of an own error whose __init__ keeps to sp: where the object stands, and what __init__ leaves -/
theorem err_call {CX : CXT} {x : Str} (R : ErrC X.K X.mg x C fI) (F1 : FnOk X.prog X.w X.K X.mg X.base CX k fI fd ps sp) (hr : Room (k + 1) X.A) {ds : List Value} {dvs : List V} (hb : Binds X.K fd ps ds) (rd : Vals dvs ds)
    {H1 : Hp} {s1 : Shared} {us : List Value} {vs : List V} {Qa : Addr → VK} {Ea : XK} {T : Value → Shared → Prop} {E : Value → Shared → Prop} (I1 : Inv X pins σ H1 s1) (rv : Vals vs us) (hz : vs.length ≤ 1000)
    (q1 : ∀ a, H1 a = none → sp (.ref a :: (vs ++ dvs)) (upd H1 a (exo a C none)) (Qa a) Ea)
    (good : ∀ (a : Addr) (h2 : Heap) (v : V) (s' : Shared), s1.heap.objs.size ≤ a → (∀ b o, s1.heap.get? b = some o → h2.get? b = some o) → Inv X pins σ (upd H1 a (exo a C none)) { s1 with heap := h2 } →
      CE X.stack X.prog X.w (upd H1 a (exo a C none)) { s1 with heap := h2 } (Qa a) .none s' → T (.ref a) s')
    (bad : ∀ (a : Addr) (h2 : Heap) (er : Value) (s' : Shared), Inv X pins σ (upd H1 a (exo a C none)) { s1 with heap := h2 } → CX X.stack (upd H1 a (exo a C none)) { s1 with heap := h2 } Ea er s' → E er s')
    (nn : ∀ a v H2, Qa a v H2 → v = .non) : wpAny (model X.prog X.w) X.A (call (.ref C) us) T E s1 := by
  rcases s1 with ⟨hp, g, dr, tk, os⟩
  rcases R.T.cls with ⟨nm, q, N, bs, bm, sn, sub, ab, col, dd, k0, k1, k2, k3, k5, inK, isVE⟩
  -- the args' tuple, then the error
  let a := hp.objs.size + 1
  let h2 := (hp.push (PySem.W.kdv_tup us)).push (PySem.HandSPX.excO C hp.objs.size)
  have keeps : ∀ b o, hp.get? b = some o → h2.get? b = some o := fun b o e => Heap.get?_push_of_some _ (Heap.get?_push_of_some _ e)
  have new : hp.objs.size ≤ a := Nat.le_add_right _ _
  have here : h2.get? a = some (PySem.HandSPX.excO C hp.objs.size) := by
    show ((hp.push (PySem.W.kdv_tup us)).push (PySem.HandSPX.excO C hp.objs.size)).get? (hp.objs.size + 1) = _
    heap_get
  have J : Inv X pins σ (upd H1 a (exo a C none)) ⟨h2, g, dr, tk, os⟩ := I1.laid (t' := tk) keeps new (exo_ok here)
  have q := q1 a (I1.hok.fresh new)
  obtain ⟨all, len⟩ := err_bind (H1 := upd H1 a (exo a C none)) F1 rv rd q
  have fits : us.length ≤ sizeLine := by
    have e1 := rv.length
    have e2 : sizeLine = 16777216 := sizeLine_eq
    omega
  have run := F1.run (X.A.under (.builtin "type.__call__" ⟨.ref C :: us, []⟩)) X.stack _ _ ⟨Value.ref a :: us, []⟩ _ _ (Qa a) Ea (hr.make C us []) (J.env0.make C us []) (hb _ (Value.ref a :: us) J.kIn len) all q
  refine wpAny_call (PySem.HandSPX.call_own PySem.F.excBase_ValueError (fun Y => PySem.HandSPX.refsVE_contains Y bm isVE) (I1.kIn _ _ inK) (PySem.W.looks_findIn I1.kIn R.iC) (fun self => PySem.W.bind_fn I1.kIn self R.tI) fits (codeAny_mono run ?_))
  rintro (er | (_ | _ | _ | u)) s' z
  · exact bad a h2 er s' J z
  · exact (show False from z).elim
  · exact (show False from z).elim
  · exact (show False from z).elim
  · obtain ⟨v, H2, z1, z2, z3, z4, rel, z5⟩ := id z
    have e := nn a v H2 z5
    subst e
    have e2 : u = .none := rel
    subst e2
    exact ⟨rfl, good a h2 .non s' new keeps J z⟩
/-- the class's name, its arguments, then the call -/
theorem err_written {e : Expr} {es : List Expr} {x : Str} {p pos : Pos} {ta : TA} {s : Shared} {H : Hp} {T : Value → Shared → Prop} {Q : List V → Hp → Prop} (R : ErrC X.K X.mg x C fI) (hg : Gl X x) (ha : PA X (e :: es) ta) (hdb : (x == ("__debug__" : Str)) = false)
    (he : starEach (e :: es) X.env = (false, eval e X.env) :: starEach es X.env) (hpl : (backTo pos (starEach es X.env)).any (·.1) = false) (I : Inv X pins σ H s) (h : ta σ H Q)
    (go : ∀ us s1 vs H1, Inv X pins σ H1 s1 → Vals vs us → Q vs H1 → wpAny (model X.prog X.w) X.A (call (.ref C) us) T X.xe s1) :
    wpAny (model X.prog X.w) X.A (eval (.Call (.Name x p) (e :: es) [] pos) X.env) T X.xe s := by
  refine PySem.wpAny_Call_Name_kw (ld_glob I hg R.g ?_ hdb)
  refine PySem.W.callWith_K (h₀ := X.base) I.ok.mod.kin R.T.kC (wpAny_mono (ha.run pos pins s σ H _ I h) (fun us s1 told => ?_) fun _ _ z => z) he hpl
  obtain ⟨vs, H1, I1, rv, q⟩ := told
  exact ⟨I1.kIn, go us s1 vs H1 I1 rv q⟩
end
/-! what follows for values, for `isinstance` of them, and for `raise` -/
def tExv (C : Addr) (sp : Sp) (dvs : List V) (ta : TA) : TE := fun σ H Q => ta σ H fun vs H1 => vs.length ≤ 1000 ∧ ∀ a, H1 a = none → sp (.ref a :: (vs ++ dvs)) (upd H1 a (exo a C none)) (fun v H2 => v = .non ∧ Q (.ref a) H2) E0
section
variable {X : Cx} {e : Expr} {es : List Expr} {pos p : Pos} {ta : TA} {x : Str} {C fI : Addr} {k : Nat} {fd : FuncData} {ps : List Str} {sp : Sp}
theorem pe_exv {ds : List Value} {dvs : List V} (R : ErrC X.K X.mg x C fI) (F1 : FnOk X.prog X.w X.K X.mg X.base CX0 k fI fd ps sp) (hr : Room (k + 1) X.A) (hb : Binds X.K fd ps ds) (hd : Vals dvs ds) (hg : Gl X x) (ha : PA X (e :: es) ta)
    (hdb : (x == ("__debug__" : Str)) = false := by decide) (he : starEach (e :: es) X.env = (false, eval e X.env) :: starEach es X.env := by rfl) (hpl : (backTo pos (starEach es X.env)).any (·.1) = false := by rfl) :
    PE X (.Call (.Name x p) (e :: es) [] pos) (tExv C sp dvs ta) :=
  ⟨fun _ _ _ _ Q I h => err_written R hg ha hdb he hpl I h fun _ _ _ _ I1 rv q =>
    err_call R F1 hr hb hd I1 rv q.1 q.2 (fun a _ _ _ _ _ J z => by
      obtain ⟨v, H2, J2, _, _, w⟩ := J.after z
      exact ⟨.ref a, H2, J2, rfl, w⟩) (fun _ _ _ _ _ z => False.elim z) (fun _ _ _ z => z.1)⟩
/-- a held error of the class at D, its fields in the dict at d -/
def rIsV (K : PySem.W.Frag) : List V → Hp → VK → Prop := fun xs H Q => ∃ (a D d : Addr) (fs : List (Str × V)) (c : V) (cv : Value) (b : Bool), xs = [.ref a, c] ∧ ExcC K D ∧ H a = some (exo a D (some d)) ∧ H d = some (exd d fs) ∧ ClsV c cv ∧ PySem.W.kitOne K (.ref D) cv = some b ∧ Q (.bl b) H
theorem call_isV : CallR X (.builtin "isinstance") (rIsV X.K) := by
  rintro pins s σ H _ _ Q I (_ | ⟨r1, _ | ⟨r2, _ | _⟩⟩) ⟨a, D, d, fs, c, cv, b, e0, EC, at1, at2, isC, told, q⟩ <;> cases e0
  have e1 : _ = Value.ref a := r1
  subst e1
  rw [isC.eq r2]
  obtain ⟨_, atE⟩ := exo_at I.hok at1
  obtain ⟨_, ns, _⟩ := exd_at I.hok at2
  obtain ⟨od, atD, _⟩ := lookIn_ns ns
  have cls : (PySem.W.clsIn X.K D).isSome = true := by
    obtain ⟨_, y, _⟩ := PySem.W.any_some EC.hd
    exact Option.isSome_iff_exists.mpr ⟨_, y⟩
  exact PySem.W.kia_one (PySem.W.kitx_exc cls EC.hg EC.hk EC.hs EC.ha EC.hn EC.ht EC.hm) I.kIn (show PySem.W.InstAt s.heap a _ D (some od) from ⟨atE, rfl, rfl, atD⟩) told (by intro z; cases z) fun tk => ⟨.bl b, H, I.tok tk, rfl, q⟩
/-- the same error, to be raised; its context is None -/
theorem pmkN_oex {CX : CXT} (R : ErrC X.K X.mg x C fI) (F1 : FnOk X.prog X.w X.K X.mg X.base CX k fI fd ps sp) (hr : Room (k + 1) X.A) (hb : Binds X.K fd ps []) (hx : Passes CX X (fun _ _ _ => False)) (hg : Gl X x) (ha : PA X (e :: es) ta)
    (hdb : (x == ("__debug__" : Str)) = false := by decide) (he : starEach (e :: es) X.env = (false, eval e X.env) :: starEach es X.env := by rfl) (hpl : (backTo pos (starEach es X.env)).any (·.1) = false := by rfl) :
    L2N.PMk X (.Call (.Name x p) (e :: es) [] pos) (tMkO C sp [] ta) := fun pins s σ H Q I h => by
  refine err_written R hg ha hdb he hpl I h fun us s1 vs H1 I1 rv q => err_call R F1 hr hb .nil I1 rv q.1 q.2 (fun a h2 v s' new keeps J z => ?_) (fun a h2 er s' J z => hx _ _ _ _ er s' J z) (fun _ _ _ z => z.1)
  obtain ⟨v', H2, zo, zb, zu, zk, _, _, d, fs, at1, at2, free, w⟩ := z
  rcases s1 with ⟨hp, g, dr, tk, os⟩
  rcases s' with ⟨h', g', dr', tk', os'⟩
  obtain ⟨t0, G, JG, sub, gone, there, na⟩ := mk_end0 (d2 := dr') (t2 := tk') I1 new keeps zu zk zo zb at1 at2 free
  refine ⟨a, _, _, ⟨G, g', dr', tk', os'⟩, _, .ref C, some d, rfl, JG, sub, gone, there, ⟨rfl, rfl, ?_⟩, rfl, rfl, na, rfl, zb, raises_own R.T.exC R.T.tyC, w⟩
  intro vs hv
  cases hv
  rfl
end
/-! ### an own error with two fields -/
theorem upd_exc2 {H : Hp} {a dx : Addr} {u1 u2 u3 u4 o : HO} (ha : H a = none) (hd : dx ≠ a) : upd (del (upd (upd (upd (upd H a u1) dx u2) a u3) dx u4) a) dx o = upd H dx o := by
  funext b
  by_cases h1 : b = dx
  · rw [h1, upd_same, upd_same]
  · rw [upd_ne h1, upd_ne h1]
    by_cases h2 : b = a
    · rw [h2, del_same, ha]
    · rw [del_ne h2, upd_ne h1, upd_ne h2, upd_ne h1, upd_ne h2]
def spEx2 (C : Addr) (f g : Str) : Sp := fun vs H Q _ => ∃ (a : Addr) (x y : V), vs = [.ref a, x, y] ∧ H a = some (exo a C none) ∧ ∀ dx, H dx = none → dx ≠ a → Q .non (upd (upd (upd H dx (exd dx [(f, x)])) a (exo a C (some dx))) dx (exd dx [(g, y), (f, x)]))
theorem mkO2 {C : Addr} {f g : Str} {ta : TA} {σ : St} {H : Hp} {Q : XK} (h : ta σ H fun vs H1 => ∃ x y, vs = [x, y] ∧ ∀ d, H1 d = none → Q (.ref C) (some d) (upd H1 d (.xd [(g, y), (f, x)]))) (hm : ∀ (P R : List V → Hp → Prop), (∀ vs H, P vs H → R vs H) → ta σ H P → ta σ H R) : tMkO C (spEx2 C f g) [] ta σ H Q := by
  refine hm _ _ (fun vs H1 ⟨x, y, ev, k⟩ => ?_) h
  subst ev
  refine ⟨by show 2 ≤ 1000; decide, fun a na => ⟨a, x, y, rfl, upd_same, fun dx hdx nda => ⟨rfl, dx, [(g, y), (f, x)], ?_, upd_same, ?_, ?_⟩⟩⟩
  · rw [upd_ne (Ne.symm nda), upd_same]
  · rw [upd_ne nda] at hdx
    exact hdx
  · rw [upd_exc2 na nda]
    rw [upd_ne nda] at hdx
    exact k dx hdx
/-- raise C(a, b) -/
def tRaise2 (C : Addr) (f g : Str) (W : WX) (te tu : TE) : TS := fun _ σ H => te σ H fun x H1 => tu σ H1 fun y H2 => ∀ d, H2 d = none → W (.ref C) (some d) σ (upd H2 d (.xd [(g, y), (f, x)]))
section
variable {X : Cx}
theorem ps_raise2 {CX : CXT} {x f g : Str} {C fI : Addr} {k : Nat} {fd : FuncData} {te tu : TE} {W : WX} {a b : Expr} {p pos pos2 : Pos} (R : ErrC X.K X.mg x C fI) (F1 : FnOk X.prog X.w X.K X.mg X.base CX k fI fd ["self", f, g] (spEx2 C f g)) (hr : Room (k + 1) X.A) (hb : Binds X.K fd ["self", f, g] [])
    (hx : Passes CX X (fun _ _ _ => False)) (hc : X.calm = true) (tk : Takes X W) (ha : PE X a te) (hb2 : PE X b tu) (hm : ∀ σ H (P R : V → Hp → Prop), (∀ v H, P v H → R v H) → te σ H P → te σ H R) (hm2 : ∀ σ H (P R : V → Hp → Prop), (∀ v H, P v H → R v H) → tu σ H P → tu σ H R) (hg : Gl X x := by rfl) (hdb : (x == ("__debug__" : Str)) = false := by decide)
    (he : starEach [a, b] X.env = (false, eval a X.env) :: starEach [b] X.env := by rfl) (he2 : starEach [b] X.env = (false, eval b X.env) :: starEach [] X.env := by rfl) (hpl : (backTo pos (starEach [b] X.env)).any (·.1) = false := by rfl) :
    PS X (.Raise (some (.Call (.Name x p) [a, b] [] pos)) none pos2) (tRaise2 C f g W te tu) := by
  have q := ps_raise hc tk (pmk_oex (p := p) (e := a) (es := [b]) R.T R.iC R.tI F1 hr hb .nil hx hg R.g (pa_cons ha (pa_cons hb2 pa_nil he2) he) hdb he hpl) (pos := pos2)
  refine ⟨fun pins s σ H D I h => q.run pins s σ H D I ?_⟩
  refine mkO2 (f := f) (g := g) ?_ (fun P R hpr h => ?_)
  · exact hm σ H _ _ (fun u H1 k => hm2 σ H1 _ _ (fun v H2 k2 => ⟨u, v, rfl, k2⟩) k) h
  · exact hm σ H _ _ (fun u H1 k => hm2 σ H1 _ _ (fun v H2 k2 => hpr _ _ k2) k) h
end
/-! ### _put_advance, _put_kern -/
/-! ### try with several clauses, each with the error's name; nothing else leaves -/
section
open PyProof.Rows
/-- behind a suite the name in slot i is gone -/
def unset (i : Nat) (D : Ends) : Ends := { nx := fun σ H => D.nx (σ.set i none) H, rt := D.rt, bk := fun σ H => D.bk (σ.set i none) H, ct := fun σ H => D.ct (σ.set i none) H }
/-- a clause as data: the class, the slot of the name, the suite's reading -/
abbrev Cls1 := Value × Nat × (Addr → Value → Option Addr → TS)
def wManyA (K : PySem.W.Frag) (D : Ends) : List Cls1 → WX
  | [] => fun _ _ _ _ => False
  | (c, i, ts) :: r => fun cls d σ H => ∃ b, PySem.W.exmOne K cls c = some b ∧ (b = true → ∀ a, H a = none → ts a cls d (unset i D) (σ.set i (some (.ref a))) H) ∧ (b = false → wManyA K D r cls d σ H)
/-- handlers against clauses; Z: what is kept of the error's object -/
inductive HdsZ (Z : Value → Option Addr → Obj → Prop) (X : Cx) : List ExceptHandler → List Cls1 → Prop
  | nil : HdsZ Z X [] []
  | cons {x n : Str} {c : Value} {i : Nat} {ts : Addr → Value → Option Addr → TS} {b0 : Stmt} {suite : List Stmt} {np hp : Pos} {hds : List ExceptHandler} {l : List Cls1} (hc : Names X x c) (hi : X.N[i]? = some n) (hl : X.env.kindOf n = some .local)
      (hs : ∀ (a : Addr) (oe : Obj) (cls : Value) (d : Option Addr) (pn : List (Addr × Obj)), Z cls d oe → (∃ vs, oe.data = .fields vs) → PSs (X.suite a ((a, oe) :: pn)) (b0 :: suite) (ts a cls d)) (r : HdsZ Z X hds l) :
      HdsZ Z X (.ExceptHandler (some (.Name x np)) (some n) (b0 :: suite) hp :: hds) ((c, i, ts) :: l)
abbrev HdsA (X : Cx) : List ExceptHandler → List Cls1 → Prop := HdsZ Zc X
variable {X : Cx} {body : List Stmt} {h0 : ExceptHandler} {hds : List ExceptHandler} {l : List Cls1} {pos : Pos} {tb : WX → TS}
/-- the clauses, one behind another, looked at with the landed error -/
theorem hds_run {Z : Value → Option Addr → Obj → Prop} (zc : ∀ cls d o, Z cls d o → Zc cls d o) {pins : List (Addr × Obj)} {σ : L2.St} {H : Hp} {B h3 : Heap} {D : Ends} {a : Addr} {cls : Value} {d : Option Addr} {sI s' : Shared} {oe : Obj} {vs : Array Value} (hs : X.stack = X.env :: X.outer) (hf : X.env.frame = some X.env.locals) (hN : X.N.Nodup)
    (J : Inv X pins σ H sI) (nb : ∀ b o, sI.heap.get? b = some o → b ∉ frs X.stack → B.get? b = some o) (up : sI.heap.UpToSlots h3) (fl : HandSPX.FlyingZ B (X.env :: X.outer) a (Z cls d) h3) (na : H a = none) (os : s'.os = sI.os) (ag : AllBare s'.gens)
    (nL : a ≠ X.env.locals) (nF : a ∉ X.fs) (he : h3.get? a = some oe) (hz : Z cls d oe) (hd : oe.data = .fields vs) :
    ∀ {hds : List ExceptHandler} {l : List Cls1}, HdsZ Z X hds l → wManyA X.K D l cls d σ H → wpAny (model X.prog X.w) X.A (handleBy (.ref a) X.env hds) (SP X pins D) X.xe { s' with heap := h3 } := by
  have ok := J.ok
  have J3 : Inv X pins σ H { s' with heap := h3 } := J.landed nb fl.1 up os ag
  have S3 := J3.suite he hd na nL nF
  have LT : PySem.W.Looks (model X.prog X.w) h3 (typeOf (.ref a)) cls := fun A Q E s k q => wpAny_typeOf_ref (k _ _ he) (by rw [(zc _ _ _ hz).1]; exact q)
  intro hds l hk
  induction hk with
  | nil => exact False.elim
  | @cons x n c i ts b0 suite np hp hds2 l2 hc hi hl hsu r ih =>
    rintro ⟨b, hb, yes, no⟩
    refine wpAny_handleBy_cons (codeAny_handlers_test ?_) (by intro q; cases q)
    have LM := PySem.W.exm_one (M := model X.prog X.w) J3.kIn LT hb
    have look : ∀ {Q : Value → Shared → Prop} {E : Value → Shared → Prop}, Q c { s' with heap := h3 } → wpAny (model X.prog X.w) (X.A.mark (some (.ref a))) (eval (.Name x np) X.env) Q E { s' with heap := h3 } := fun q => by
      obtain ⟨hg, hdbg, hm | ⟨hm, hv, hnn⟩⟩ := hc
      · exact ld_glob (X := X.suite a ((a, oe) :: (X.pn ++ pins))) S3 hg hm q hdbg
      · exact ld_blt (X := X.suite a ((a, oe) :: (X.pn ++ pins))) S3 hg hm hv q hnn hdbg
    refine look (LM.here ?_)
    cases b with
    | false => exact ih (no rfl)
    | true =>
      refine codeAny_handlers_suite_as (HandSPX.lands_againZ fl fun h4 fl4 up4 => ?_)
      obtain ⟨oe4, vs4, he4, hz4, hd4⟩ := fl4.there
      have S4 := (J.landed (s' := { s' with heap := h4 }) nb fl4.1 (up.trans up4) os ag).suite he4 hd4 na nL nF
      refine store_ok (X := X.suite a ((a, oe4) :: (X.pn ++ pins))) (v := .ref a) S4 hN hi (.inl hl) rfl (fun s5 S5 => ?_) (.inr hl)
      refine wpAny_mono ((hsu a oe4 cls d (X.pn ++ pins) hz4 ⟨_, hd4⟩).run [] s5 _ H _ S5 (yes rfl a na)) (fun f s6 q6 => ?_) (fun _ _ z => z.elim)
      have bye : ∀ {σ6 : L2.St} {H6 : Hp} {R : Shared → Prop}, Inv (X.suite a ((a, oe4) :: (X.pn ++ pins))) [] σ6 H6 s6 → (∀ s7, Inv X pins (σ6.set i none) H6 s7 → R s7) →
          wpAny (model X.prog X.w) X.A (do bindName X.env n .none; unbindBehindTheSuite X.env n hp) (fun _ s7 => R s7) X.xe s6 := fun S6 k => gone_ok (S6.unsuite ok) hN hi hl k
      cases f with
      | next => obtain ⟨σ6, H6, S6, q⟩ := q6; exact bye S6 fun _ J7 => ⟨_, _, J7, q⟩
      | brk => obtain ⟨σ6, H6, S6, q⟩ := q6; exact bye S6 fun _ J7 => ⟨_, _, J7, q⟩
      | cont => obtain ⟨σ6, H6, S6, q⟩ := q6; exact bye S6 fun _ J7 => ⟨_, _, J7, q⟩
      | ret u => obtain ⟨v6, σ6, H6, S6, r6, q⟩ := q6; exact bye S6 fun _ J7 => ⟨_, _, _, J7, r6, q⟩
/-- the error is none of the running frames -/
theorem not_frame {B h3 : Heap} {a : Addr} {Zo : Obj → Prop} {oe : Obj} {vs : Array Value} (fl : HandSPX.FlyingZ B (X.env :: X.outer) a Zo h3) (he : h3.get? a = some oe) (hd : oe.data = .fields vs) (hf : X.env.frame = some X.env.locals) : a ≠ X.env.locals ∧ a ∉ X.fs := by
  have no : ∀ e ∈ X.env :: X.outer, e.frame ≠ some a := fun e he1 he2 => by
    obtain ⟨_, o', e', hnf⟩ := fl.2.2.1.mem (List.mem_filterMap.mpr ⟨e, he1, he2⟩)
    cases he.symm.trans e'
    exact hnf _ hd
  exact ⟨fun z => no _ List.mem_cons_self (by rw [hf, z]), fun hm => let ⟨e, h1, h2⟩ := List.mem_filterMap.mp hm; no e (List.mem_cons_of_mem _ h1) h2⟩
/-- the body of a try, its errors wished for by xe -/
theorem try_run {pn : List (Addr × Obj)} {xe : Value → Shared → Prop} {pins : List (Addr × Obj)} {s : Shared} {σ : L2.St} {H : Hp} {D : Ends} {t : TS} (I : Inv X pins σ H s) (hpn : pn = X.pn ++ pins) (b : PSs (X.tr pn xe) body t) (h : t D σ H) (xe' : xe = fun e s1 => wpAny (model X.prog X.w) X.A (noteFrame e X.env) (fun _ s2 => wpAny (model X.prog X.w) X.A (setFlight e none) (fun _ s3 => wpAny (model X.prog X.w) X.A (handleBy e X.env (h0 :: hds)) (SP X pins D) X.xe s3) X.xe s2) X.xe s1) :
    wpAny (model X.prog X.w) X.A (exec (.Try body (h0 :: hds) [] [] pos) X.env) (SP X pins D) X.xe s := by
  subst hpn xe'
  have ok := I.ok
  refine wpAny_Try_except (wpAny_mono (b.run [] s σ H D (I.toTry _) h) (fun f s1 q => ?_) (fun _ _ z => z))
  rcases f with _ | _ | _ | u
  · obtain ⟨σ1, H1, J, z⟩ := q
    exact wpAny_execs_nil ⟨σ1, H1, J.ofTry ok, z⟩
  · obtain ⟨σ1, H1, J, z⟩ := q
    exact ⟨σ1, H1, J.ofTry ok, z⟩
  · obtain ⟨σ1, H1, J, z⟩ := q
    exact ⟨σ1, H1, J.ofTry ok, z⟩
  · obtain ⟨v, σ1, H1, J, rest⟩ := q
    exact ⟨v, σ1, H1, J.ofTry ok, rest⟩
theorem ps_try_manyA (hs : X.stack = X.env :: X.outer) (hf : X.env.frame = some X.env.locals) (hN : X.N.Nodup)
    (hb : ∀ (W : WX) (pn : List (Addr × Obj)) (xe : Value → Shared → Prop), Takes (X.tr pn xe) W → PassesOwn (model X.prog X.w) X.A X.env xe → PSs (X.tr pn xe) body (tb W))
    (hh : HdsA X (h0 :: hds) l) : PS X (.Try body (h0 :: hds) [] [] pos) (fun D σ H => tb (wManyA X.K D l) D σ H) := by
  refine ⟨fun pins s σ H D I h => try_run I rfl (hb (wManyA X.K D l) _ _ ?_ PassesOwn.looking) h rfl⟩
  rintro u s' ⟨a, B, sI, pins', σ', H', cls, d, rfl, J', nb, up, sky, na, os, ag, w⟩
  show wpAny (model X.prog X.w) X.A (noteFrame (.ref a) X.env) _ _ _
  refine Sky.land Zc.steady (by rw [I.ok.frames, hs]) hf (by rw [← hs]; exact sky) fun h3 fl up3 => ?_
  obtain ⟨oe, vs, he, hz, hd⟩ := fl.there
  obtain ⟨n1, n2⟩ := not_frame fl he hd hf
  exact hds_run (fun _ _ _ z => z) hs hf hN (J'.ofTry I.ok) nb (up.trans up3) fl na os ag n1 n2 he hz hd hh w
/-! the same where the error's context is None: the suites may call defs -/
theorem ps_try_manyN (hs : X.stack = X.env :: X.outer) (hf : X.env.frame = some X.env.locals) (hN : X.N.Nodup)
    (hb : ∀ (W : WX) (pn : List (Addr × Obj)) (xe : Value → Shared → Prop), L2N.Takes (X.tr pn xe) W → PassesOwn (model X.prog X.w) X.A X.env xe → PSs (X.tr pn xe) body (tb W))
    (hh : HdsZ L2N.Zn X (h0 :: hds) l) : PS X (.Try body (h0 :: hds) [] [] pos) (fun D σ H => tb (wManyA X.K D l) D σ H) := by
  refine ⟨fun pins s σ H D I h => try_run I rfl (hb (wManyA X.K D l) _ _ ?_ PassesOwn.looking) h rfl⟩
  rintro u s' ⟨a, B, sI, pins', σ', H', cls, d, rfl, J', nb, up, sky, na, os, ag, w⟩
  show wpAny (model X.prog X.w) X.A (noteFrame (.ref a) X.env) _ _ _
  refine L2N.Sky.land L2N.Zn.steady (by rw [I.ok.frames, hs]) hf (by rw [← hs]; exact sky) fun h3 fl up3 => ?_
  obtain ⟨oe, vs, he, hz, hd⟩ := fl.there
  obtain ⟨n1, n2⟩ := not_frame fl he hd hf
  exact hds_run (fun _ _ _ z => z.zc) hs hf hN (J'.ofTry I.ok) nb (up.trans up3) fl na os ag n1 n2 he hz hd hh w
/-- a clause whose suite calls defs -/
theorem HdsN.cons {x n : Str} {c : Value} {i : Nat} {ts : Addr → Value → Option Addr → TS} {b0 : Stmt} {suite : List Stmt} {np hp : Pos} (hc : Names X x c) (hi : X.N[i]? = some n) (hl : X.env.kindOf n = some .local)
    (hs : ∀ (a : Addr) (oe : Obj) (cls : Value) (d : Option Addr) (pn : List (Addr × Obj)), Zc cls d oe → (∃ vs, oe.data = .fields vs) → L2H.HotC (X.suite a ((a, oe) :: pn)) → PSs (X.suite a ((a, oe) :: pn)) (b0 :: suite) (ts a cls d)) (r : HdsZ L2N.Zn X hds l) :
    HdsZ L2N.Zn X (.ExceptHandler (some (.Name x np)) (some n) (b0 :: suite) hp :: hds) ((c, i, ts) :: l) :=
  .cons hc hi hl (fun a oe cls d pn hz hf => hs a oe cls d pn hz.zc hf (let ⟨vs, hv⟩ := hf; ⟨(a, oe), ⟨rfl, vs, hv, hz.2.2 vs hv⟩, List.mem_cons_self⟩)) r
end
section
variable {X : Cx} {CX : CXT} {x f g : Str} {C fI : Addr} {k : Nat} {fd : FuncData} {te tu : TE} {W : WX} {a b : Expr} {p pos pos2 : Pos}
/-- raise C(e), its context None -/
theorem ps_raise1N (R : ErrC X.K X.mg x C fI) (F1 : FnOk X.prog X.w X.K X.mg X.base CX k fI fd ["self", f] (spEx1 C f)) (hr : Room (k + 1) X.A) (hb : Binds X.K fd ["self", f] [])
    (hx : Passes CX X (fun _ _ _ => False)) (hc : X.calm = true) (tk : L2N.Takes X W) (ha : PE X a te) (hm : ∀ σ H (P R : V → Hp → Prop), (∀ v H, P v H → R v H) → te σ H P → te σ H R) (hg : Gl X x := by rfl) (hdb : (x == ("__debug__" : Str)) = false := by decide)
    (he : starEach (a :: []) X.env = (false, eval a X.env) :: starEach [] X.env := by rfl) (hpl : (backTo pos (starEach [] X.env)).any (·.1) = false := by rfl) :
    PS X (.Raise (some (.Call (.Name x p) [a] [] pos)) none pos2) (tRaise1 C f W te) :=
  ⟨fun pins s σ H D I h => (L2N.ps_raise hc tk (pmkN_oex R F1 hr hb hx hg (pa_cons ha pa_nil he) hdb he hpl)).run pins s σ H D I
    (mkO1 (f := f) (hm σ H _ _ (fun y _ k => ⟨y, rfl, k⟩) h) fun _ _ hpr z => hm σ H _ _ (fun _ _ k => hpr _ _ k) z)⟩
theorem ps_raise2N (R : ErrC X.K X.mg x C fI) (F1 : FnOk X.prog X.w X.K X.mg X.base CX k fI fd ["self", f, g] (spEx2 C f g)) (hr : Room (k + 1) X.A) (hb : Binds X.K fd ["self", f, g] [])
    (hx : Passes CX X (fun _ _ _ => False)) (hc : X.calm = true) (tk : L2N.Takes X W) (ha : PE X a te) (hb2 : PE X b tu) (hm : ∀ σ H (P R : V → Hp → Prop), (∀ v H, P v H → R v H) → te σ H P → te σ H R) (hm2 : ∀ σ H (P R : V → Hp → Prop), (∀ v H, P v H → R v H) → tu σ H P → tu σ H R) (hg : Gl X x := by rfl) (hdb : (x == ("__debug__" : Str)) = false := by decide)
    (he : starEach [a, b] X.env = (false, eval a X.env) :: starEach [b] X.env := by rfl) (he2 : starEach [b] X.env = (false, eval b X.env) :: starEach [] X.env := by rfl) (hpl : (backTo pos (starEach [b] X.env)).any (·.1) = false := by rfl) :
    PS X (.Raise (some (.Call (.Name x p) [a, b] [] pos)) none pos2) (tRaise2 C f g W te tu) :=
  ⟨fun pins s σ H D I h => (L2N.ps_raise hc tk (pmkN_oex R F1 hr hb hx hg (pa_cons ha (pa_cons hb2 pa_nil he2) he) hdb he hpl)).run pins s σ H D I
    (mkO2 (f := f) (g := g) (hm σ H _ _ (fun u _ k => hm2 σ _ _ _ (fun v _ k2 => ⟨u, v, rfl, k2⟩) k) h) fun _ _ hpr z => hm σ H _ _ (fun _ _ k => hm2 σ _ _ _ (fun _ _ k2 => hpr _ _ k2) k) z)⟩
end
/-! ### in an except suite: defs proved there, C(..), == of two lists with one own object each -/
namespace HQ
open L2H
section
variable {P : Program} {w : World} {K : PySem.W.Frag} {mg : Str → Option Value} {base : Heap} {x qual : Str} {f : Addr} {fd : FuncData} {N ps : List Str} {k : Nat} {sp : Sp}
/-- the body of a def, walked under a handled error -/
def BodyH (P : Program) (w : World) (K : PySem.W.Frag) (mg : Str → Option Value) (base : Heap) (qual : Str) (f : Addr) (N : List Str) (sc : Scope) (body : List Stmt) (k : Nat) (sp : Sp) : Prop :=
  ∀ (cdv : Value) (A : Around) (outer : List Env) (s : Shared) (H : Hp) (vs : List V) (Q : VK) (E : XK) (p : Addr × Obj), Hot1 A p → RoomH k (A.deeper (PyProof.Rows.envOfC qual sc s.heap.objs.size f cdv)) → sp vs H Q E →
    ∃ t, PSs (cxH CX0 P w K mg base N qual sc f cdv A outer s H E p) body t ∧ t { nx := fun _ H' => Q .non H', rt := Q } (L2.start N vs) H
theorem okH {st : Stmt} (F : Fun K x qual st f fd) (S : FnScope N ps (defScope st)) (len : ∀ vs H Q E, sp vs H Q E → vs.length = ps.length) (body : BodyH P w K mg base qual f N (defScope st) (defBody st) k sp) : FnH P w K mg base CX0 (k + 1) f fd ps sp := by
  rcases F.ex with ⟨_, _, _, _, _, _, cdv, _, _, e, at_, code⟩
  subst e
  exact fn_ofH at_ code S len (body cdv)
theorem okDH {params : Arguments} {body : List Stmt} {scope : Scope} {dvs : List V} {kws : List (Str × V)} (F : FunD K x qual params body scope dvs kws f fd) (S : FnScope N ps scope) (len : ∀ vs H Q E, sp vs H Q E → vs.length = ps.length)
    (hbody : BodyH P w K mg base qual f N scope body k sp) : FnH P w K mg base CX0 (k + 1) f fd ps sp := by
  rcases F.ex with ⟨_, _, _, _, _, _, _, cdv, _, _, e, at_, code, _⟩
  subst e
  exact fn_ofH at_ code S len (hbody cdv)
end
section
variable {X : Cx} {k : Nat} {f C : Addr} {fd : FuncData} {ps : List Str} {sp : Sp} {pins : List (Addr × Obj)} {σ : L2.St}
theorem pin_of {H : Hp} {s : Shared} {p : Addr × Obj} (I : Inv X pins σ H s) (hp : p ∈ X.pn) : PinOk X.stack H s p := by
  obtain ⟨there, free, loc, fs, cell⟩ := I.pin p (List.mem_append_left _ hp)
  refine ⟨there, free, fun m => ?_, cell⟩
  rcases List.mem_cons.mp (I.stkSub p.1 m) with z | z
  · exact loc z
  · exact fs z
/-- what a def that leaves no error gives its caller -/
theorem back_of {H : Hp} {s : Shared} {r : Result} {s' : Shared} {Q : VK} (I : Inv X pins σ H s) (z : CR CX0 X.stack X.prog X.w H s Q E0 r s') : ∃ u, r = .ok (.ret u) ∧ EP X pins σ Q u s' := by
  rcases r with e | (_ | _ | _ | u)
  · exact (show False from z).elim
  · exact (show False from z).elim
  · exact (show False from z).elim
  · exact (show False from z).elim
  · exact ⟨u, rfl, I.after z⟩
/-- C(..) -/
theorem pe_makeH {x : Str} {p pos : Pos} {e : Expr} {es : List Expr} {t : TA} {ds : List Value} {dvs : List V}
    (M : Mk X.K C f) (F : FnH X.prog X.w X.K X.mg X.base CX0 k f fd ps sp) (hr : RoomH (k + 1) X.A) (hc : HotC X) (hg : Gl X x) (hm : X.mg x = some (.ref C)) (hb : Binds X.K fd ps ds) (hd : Vals dvs ds)
    (ha : PA X (e :: es) t) (hdb : (x == ("__debug__" : Str)) = false := by decide) (he : starEach (e :: es) X.env = (false, eval e X.env) :: starEach es X.env := by rfl) (hpl : (backTo pos (starEach es X.env)).any (·.1) = false := by rfl) :
    PE X (.Call (.Name x p) (e :: es) [] pos) (tMake C sp dvs E0 t) := by
  obtain ⟨pn, hot, mem⟩ := hc
  refine ⟨fun pins s σ H Q I h => PySem.wpAny_Call_Name_kw (ld_glob I hg hm ?_ hdb)⟩
  refine PySem.W.callWith_K (h₀ := X.base) I.ok.mod.kin M.kp (wpAny_mono (ha.run pos pins s σ H _ I h) (fun us s1 told => ?_) fun _ _ z => z) he hpl
  obtain ⟨vs, H1, I1, rv, q1⟩ := told
  refine ⟨I1.kIn, ?_⟩
  -- the instance and its dict
  have q := q1 (s1.heap.objs.size + 1) s1.heap.objs.size (I1.hok.fresh (Nat.le_succ _)) (I1.hok.fresh (Nat.le_refl _)) (Nat.ne_of_lt (Nat.lt_succ_self _))
  have J := Inv.made (C := C) I1
  have all : Vals (V.ref (s1.heap.objs.size + 1) :: (vs ++ dvs)) (Value.ref (s1.heap.objs.size + 1) :: (us ++ ds)) := .cons rfl (rv.append hd)
  have len : (Value.ref (s1.heap.objs.size + 1) :: us ++ ds).length = ps.length := by
    rw [List.cons_append, ← all.length]
    exact F.len _ _ _ _ q
  have run := F.run _ X.stack _ _ ⟨Value.ref (s1.heap.objs.size + 1) :: us, []⟩ _ _ _ E0 pn (hr.make C us []) ⟨hot.1, hot.2⟩ (pin_of J mem) (J.env0.make C us []) (hb _ (Value.ref (s1.heap.objs.size + 1) :: us) J.kIn len) all q
  refine wpAny_call (make_map (f := f) I1.kIn M.makes M.init (beq_iff_eq.mp M.fn) (codeAny_mono run fun r s' z => ?_))
  obtain ⟨u, rfl, v, H', J', ru, ev, w⟩ := back_of J z
  subst ev
  exact ⟨ru, .ref (s1.heap.objs.size + 1), H', J', rfl, w⟩
/-- the place of a comparison inside ==: as deep as is said, else the suite's own -/
structure Near (X : Cx) (n : Nat) (A : Around) : Prop where
  room : RoomH n A
  frames : A.frames = X.A.frames
  handled : A.handled = X.A.handled
/-- the state somewhere behind: nothing that was tracked is lost -/
def Later (X : Cx) (pins : List (Addr × Obj)) (σ : L2.St) (H : Hp) (s : Shared) : Prop := ∃ H', Inv X pins σ H' s ∧ Ext H H'
/-- two instances by their own __eq__ -/
theorem eq_inst {n : Nat} {A : Around} {R : Addr → Addr → Hp → Prop} {H H0 : Hp} {s : Shared} {a b dx dy : Addr} {fs gs : List (Str × V)} (F : FnH X.prog X.w X.K X.mg X.base CX0 n f fd ps (spEq R)) (hc : HotC X)
    (hs : PySem.W.findIn X.K (.ref C) "__eq__" = some (some (.ref f))) (hf : PySem.W.isFn X.K (.ref f) = true) (hb : Binds X.K fd ps []) (near : Near X n A) (I : Inv X pins σ H s) (x0 : Ext H0 H) (ea : H a = some (.ins C dx fs)) (eb : H b = some (.ins C dy gs)) (hR : R a b H) :
    wpAny (model X.prog X.w) A (richCompare .Eq (.ref a) (.ref b)) (fun v s' => v = .bool true ∧ Later X pins σ H0 s') X.xe s := by
  obtain ⟨pn, hot, mem⟩ := hc
  obtain ⟨_, ja, _⟩ := ins_get I.hok ea
  obtain ⟨_, jb, _⟩ := ins_get I.hok eb
  obtain ⟨_, ja, _⟩ := ja.look
  obtain ⟨_, jb, _⟩ := jb.look
  obtain ⟨_, fr⟩ := I.fr
  have q : spEq R [.ref a, .ref b] H (fun v H' => v = .bl true ∧ Ext H H') E0 := ⟨a, b, rfl, hR, fun _ e => ⟨rfl, e⟩⟩
  have two : Vals [V.ref a, V.ref b] [Value.ref a, Value.ref b] := .cons rfl (.cons rfl .nil)
  have env : Env0 X.prog X.w X.K X.mg X.base A X.stack s H := by
    obtain ⟨z1, z2, z3, z4, z5, z6, z7, z8⟩ := I.env0
    exact ⟨near.frames.trans z1, z2, z3, z4, z5, z6, z7, z8⟩
  have bind := hb s [.ref a, .ref b] I.kIn (F.len _ _ _ _ q)
  have hot2 : Hot1 A pn := ⟨near.handled.trans hot.1, hot.2⟩
  have run := F.run A X.stack s H ⟨[.ref a, .ref b], []⟩ _ _ _ E0 pn near.room hot2 (pin_of I mem) env bind two q
  refine PySem.W.cmp_K (op := .Eq) (tb := .ref C) (by have := near.room.un; omega) fr I.ok.mod.kin ja jb.type (by simp [PySem.W.notFirst]) hs hf (wpAny_call (codeAny_mono run fun r s' z => ?_))
  obtain ⟨u, rfl, v, H', J, ru, ev, x1⟩ := back_of I z
  subst ev
  have eu : u = .bool true := ru
  subst eu
  exact ⟨rfl, H', J, x0.trans x1⟩
/-- [a] == [b] -/
def rEq1 (C : Addr) (R : Addr → Addr → Hp → Prop) : R2 := fun x y H Q => ∃ p q a b dx dy fs gs, x = .ref p ∧ y = .ref q ∧ H p = some (.lst [.ref a]) ∧ H q = some (.lst [.ref b]) ∧ H a = some (.ins C dx fs) ∧ H b = some (.ins C dy gs) ∧
  (∀ H', Ext H H' → R a b H') ∧ ∀ H', Ext H H' → Q (.bl true) H'
theorem op_eq1 {n : Nat} {R : Addr → Addr → Hp → Prop} (F : FnH X.prog X.w X.K X.mg X.base CX0 n f fd ps (spEq R)) (hc : HotC X) (hs : PySem.W.findIn X.K (.ref C) "__eq__" = some (some (.ref f))) (hf : PySem.W.isFn X.K (.ref f) = true) (hb : Binds X.K fd ps [])
    (hr : RoomH (n + 1) X.A) : OpR X (compareOp .Eq) (rEq1 C R) := by
  rintro pins s σ H _ _ v u Q I rx ry ⟨p, q, a, b, dx, dy, fs, gs, rfl, rfl, hp, hq, ea, eb, hR, go⟩
  have e1 : v = Value.ref p := rx
  have e2 : u = Value.ref q := ry
  subst e1 e2
  have near : Near X n X.A.in1 := ⟨⟨by have := hr.dp; show X.A.depth + 3 * n + 5 < _; omega, by have := hr.un; show X.A.units + 1 + 16 * n + 200 < _; omega⟩, rfl, rfl⟩
  -- a list of one object, seen in the heap
  have seen : ∀ {H' : Hp} {s' : Shared} {l c : Addr}, Inv X pins σ H' s' → H' l = some (.lst [.ref c]) → ∃ m, s'.heap.get? l = some { cls := .type "list", data := .seq #[Value.ref c] m } := fun {H' s' l c} J e => by
    obtain ⟨_, its, m, r, at_⟩ := J.hok l _ e
    cases r with
    | cons h t =>
      cases t
      rw [show _ = Value.ref c from h] at at_
      exact ⟨m, at_⟩
  refine wpAny_mono (GQ.rc_listG (N := 1) (Q := fun r s' => r = .bool true ∧ Later X pins σ H s') (by have := hr.un; omega) (fun _ s' => Later X pins σ H s') (fun i s' z => ?_) (fun s' z => ⟨rfl, z⟩) ⟨H, I, Ext.rfl'⟩) (fun r s' z => ?_) fun _ _ z => z
  · obtain ⟨H1, J, x1⟩ := id z
    obtain ⟨m1, l1⟩ := seen J (x1 _ _ hp)
    obtain ⟨m2, l2⟩ := seen J (x1 _ _ hq)
    refine ⟨_, _, m1, m2, l1, l2, rfl, rfl, fun h1 _ => ?_⟩
    have i0 : i = 0 := Nat.lt_one_iff.mp h1
    subst i0
    show wpAny _ X.A.in1 (eqBool (.ref a) (.ref b)) _ _ _
    by_cases same : a = b
    · subst same
      exact SeqAt.EqAt.same (A := X.A.in1) (s := s') (.ref a) X.prog X.w X.xe _ ⟨rfl, H1, J, x1⟩
    · exact GQ.eqBool_refG same (wpAny_mono (eq_inst F hc hs hf hb near J x1 (x1 _ _ ea) (x1 _ _ eb) (hR _ x1)) (fun r s2 w => ⟨true, w.1, rfl, w.2⟩) fun _ _ w => w)
  · obtain ⟨rfl, H', J, x1⟩ := z
    exact ⟨.bl true, H', J, rfl, go H' x1⟩
end
end HQ
/-! ### the sixteen errors' __init__ -/
section
variable {P : Program} {w : World} {K : PySem.W.Frag} {mg : Str → Option Value} {base : Heap}
abbrev sE0 : Stmt := inClass (top 4) 0
theorem scE0 : FnScope ["self", "glyph"] ["self", "glyph"] (defScope sE0) := ⟨rfl, rfl, rfl, by decide +kernel, rfl, by decide +kernel, by decide +kernel⟩
theorem ok_e0 {f C : Addr} {fd : FuncData} (F : Fun K "__init__" "InvalidGlyph.__init__" sE0 f fd) (T : OexC K C) (hno : PySem.W.findIn K (.ref C) "glyph" = some none) : FnOk P w K mg base CX0 1 f fd ["self", "glyph"] (spEx1 C "glyph") := by
  refine F.ok scE0 (fun vs H Q E h => by obtain ⟨v, i, rfl, _⟩ := h; rfl) (fun cdv A outer s H vs Q E hr h => ?_)
  obtain ⟨a, y, rfl, ha, k⟩ := h
  exact ⟨_, pss_one (ps_ost (pv 0) (pv 1)), ⟨_, rfl, _, rfl, a, C, rfl, T, hno, .inl ⟨ha, fun dx n ne => k dx n ne⟩⟩⟩
abbrev sE1 : Stmt := inClass (top 5) 0
theorem scE1 : FnScope ["self", "value"] ["self", "value"] (defScope sE1) := ⟨rfl, rfl, rfl, by decide +kernel, rfl, by decide +kernel, by decide +kernel⟩
theorem ok_e1 {f C : Addr} {fd : FuncData} (F : Fun K "__init__" "InvalidNumber.__init__" sE1 f fd) (T : OexC K C) (hno : PySem.W.findIn K (.ref C) "value" = some none) : FnOk P w K mg base CX0 1 f fd ["self", "value"] (spEx1 C "value") := by
  refine F.ok scE1 (fun vs H Q E h => by obtain ⟨v, i, rfl, _⟩ := h; rfl) (fun cdv A outer s H vs Q E hr h => ?_)
  obtain ⟨a, y, rfl, ha, k⟩ := h
  exact ⟨_, pss_one (ps_ost (pv 0) (pv 1)), ⟨_, rfl, _, rfl, a, C, rfl, T, hno, .inl ⟨ha, fun dx n ne => k dx n ne⟩⟩⟩
abbrev sE2 : Stmt := inClass (top 6) 0
theorem scE2 : FnScope ["self", "glyph"] ["self", "glyph"] (defScope sE2) := ⟨rfl, rfl, rfl, by decide +kernel, rfl, by decide +kernel, by decide +kernel⟩
theorem ok_e2 {f C : Addr} {fd : FuncData} (F : Fun K "__init__" "UnknownGlyph.__init__" sE2 f fd) (T : OexC K C) (hno : PySem.W.findIn K (.ref C) "glyph" = some none) : FnOk P w K mg base CX0 1 f fd ["self", "glyph"] (spEx1 C "glyph") := by
  refine F.ok scE2 (fun vs H Q E h => by obtain ⟨v, i, rfl, _⟩ := h; rfl) (fun cdv A outer s H vs Q E hr h => ?_)
  obtain ⟨a, y, rfl, ha, k⟩ := h
  exact ⟨_, pss_one (ps_ost (pv 0) (pv 1)), ⟨_, rfl, _, rfl, a, C, rfl, T, hno, .inl ⟨ha, fun dx n ne => k dx n ne⟩⟩⟩
abbrev sE3 : Stmt := inClass (top 7) 0
theorem scE3 : FnScope ["self", "limit"] ["self", "limit"] (defScope sE3) := ⟨rfl, rfl, rfl, by decide +kernel, rfl, by decide +kernel, by decide +kernel⟩
theorem ok_e3 {f C : Addr} {fd : FuncData} (F : Fun K "__init__" "TooMany.__init__" sE3 f fd) (T : OexC K C) (hno : PySem.W.findIn K (.ref C) "limit" = some none) : FnOk P w K mg base CX0 1 f fd ["self", "limit"] (spEx1 C "limit") := by
  refine F.ok scE3 (fun vs H Q E h => by obtain ⟨v, i, rfl, _⟩ := h; rfl) (fun cdv A outer s H vs Q E hr h => ?_)
  obtain ⟨a, y, rfl, ha, k⟩ := h
  exact ⟨_, pss_one (ps_ost (pv 0) (pv 1)), ⟨_, rfl, _, rfl, a, C, rfl, T, hno, .inl ⟨ha, fun dx n ne => k dx n ne⟩⟩⟩
abbrev sE4 : Stmt := inClass (top 8) 0
theorem scE4 : FnScope ["self", "left", "right"] ["self", "left", "right"] (defScope sE4) := ⟨rfl, rfl, rfl, by decide +kernel, rfl, by decide +kernel, by decide +kernel⟩
theorem ok_e4 {f C : Addr} {fd : FuncData} (F : Fun K "__init__" "Overlap.__init__" sE4 f fd) (T : OexC K C) (hno : PySem.W.findIn K (.ref C) "left" = some none) (hno2 : PySem.W.findIn K (.ref C) "right" = some none) : FnOk P w K mg base CX0 1 f fd ["self", "left", "right"] (spEx2 C "left" "right") := by
  refine F.ok scE4 (fun vs H Q E h => by obtain ⟨v, i, j, rfl, _⟩ := h; rfl) (fun cdv A outer s H vs Q E hr h => ?_)
  obtain ⟨a, x, y, rfl, ha, k⟩ := h
  refine ⟨_, pss_cons (ps_ost (pv 0) (pv 1)) (pss_one (ps_ost (pv 0) (pv 2))), ⟨_, rfl, _, rfl, a, C, rfl, T, hno, .inl ⟨ha, fun dx n ne => ?_⟩⟩⟩
  refine ⟨_, rfl, _, rfl, a, C, rfl, T, hno2, .inr ⟨dx, _, upd_same, ?_, by show 1 ≤ 900; decide, k dx n ne⟩⟩
  rw [upd_ne ne, upd_same]
abbrev sE5 : Stmt := inClass (top 9) 0
theorem scE5 : FnScope ["self", "user"] ["self", "user"] (defScope sE5) := ⟨rfl, rfl, rfl, by decide +kernel, rfl, by decide +kernel, by decide +kernel⟩
theorem ok_e5 {f C : Addr} {fd : FuncData} (F : Fun K "__init__" "InUse.__init__" sE5 f fd) (T : OexC K C) (hno : PySem.W.findIn K (.ref C) "user" = some none) : FnOk P w K mg base CX0 1 f fd ["self", "user"] (spEx1 C "user") := by
  refine F.ok scE5 (fun vs H Q E h => by obtain ⟨v, i, rfl, _⟩ := h; rfl) (fun cdv A outer s H vs Q E hr h => ?_)
  obtain ⟨a, y, rfl, ha, k⟩ := h
  exact ⟨_, pss_one (ps_ost (pv 0) (pv 1)), ⟨_, rfl, _, rfl, a, C, rfl, T, hno, .inl ⟨ha, fun dx n ne => k dx n ne⟩⟩⟩
abbrev sE6 : Stmt := inClass (top 10) 0
theorem scE6 : FnScope ["self", "index"] ["self", "index"] (defScope sE6) := ⟨rfl, rfl, rfl, by decide +kernel, rfl, by decide +kernel, by decide +kernel⟩
theorem ok_e6 {f C : Addr} {fd : FuncData} (F : Fun K "__init__" "DeedRefused.__init__" sE6 f fd) (T : OexC K C) (hno : PySem.W.findIn K (.ref C) "index" = some none) : FnOk P w K mg base CX0 1 f fd ["self", "index"] (spEx1 C "index") := by
  refine F.ok scE6 (fun vs H Q E h => by obtain ⟨v, i, rfl, _⟩ := h; rfl) (fun cdv A outer s H vs Q E hr h => ?_)
  obtain ⟨a, y, rfl, ha, k⟩ := h
  exact ⟨_, pss_one (ps_ost (pv 0) (pv 1)), ⟨_, rfl, _, rfl, a, C, rfl, T, hno, .inl ⟨ha, fun dx n ne => k dx n ne⟩⟩⟩
abbrev sE7 : Stmt := inClass (top 11) 0
theorem scE7 : FnScope ["self", "line"] ["self", "line"] (defScope sE7) := ⟨rfl, rfl, rfl, by decide +kernel, rfl, by decide +kernel, by decide +kernel⟩
theorem ok_e7 {f C : Addr} {fd : FuncData} (F : Fun K "__init__" "InvalidLine.__init__" sE7 f fd) (T : OexC K C) (hno : PySem.W.findIn K (.ref C) "line" = some none) : FnOk P w K mg base CX0 1 f fd ["self", "line"] (spEx1 C "line") := by
  refine F.ok scE7 (fun vs H Q E h => by obtain ⟨v, i, rfl, _⟩ := h; rfl) (fun cdv A outer s H vs Q E hr h => ?_)
  obtain ⟨a, y, rfl, ha, k⟩ := h
  exact ⟨_, pss_one (ps_ost (pv 0) (pv 1)), ⟨_, rfl, _, rfl, a, C, rfl, T, hno, .inl ⟨ha, fun dx n ne => k dx n ne⟩⟩⟩
abbrev sE8 : Stmt := inClass (top 12) 0
theorem scE8 : FnScope ["self", "letter", "index"] ["self", "letter", "index"] (defScope sE8) := ⟨rfl, rfl, rfl, by decide +kernel, rfl, by decide +kernel, by decide +kernel⟩
theorem ok_e8 {f C : Addr} {fd : FuncData} (F : Fun K "__init__" "UnknownLetter.__init__" sE8 f fd) (T : OexC K C) (hno : PySem.W.findIn K (.ref C) "letter" = some none) (hno2 : PySem.W.findIn K (.ref C) "index" = some none) : FnOk P w K mg base CX0 1 f fd ["self", "letter", "index"] (spEx2 C "letter" "index") := by
  refine F.ok scE8 (fun vs H Q E h => by obtain ⟨v, i, j, rfl, _⟩ := h; rfl) (fun cdv A outer s H vs Q E hr h => ?_)
  obtain ⟨a, x, y, rfl, ha, k⟩ := h
  refine ⟨_, pss_cons (ps_ost (pv 0) (pv 1)) (pss_one (ps_ost (pv 0) (pv 2))), ⟨_, rfl, _, rfl, a, C, rfl, T, hno, .inl ⟨ha, fun dx n ne => ?_⟩⟩⟩
  refine ⟨_, rfl, _, rfl, a, C, rfl, T, hno2, .inr ⟨dx, _, upd_same, ?_, by show 1 ≤ 900; decide, k dx n ne⟩⟩
  rw [upd_ne ne, upd_same]
abbrev sE9 : Stmt := inClass (top 13) 0
theorem scE9 : FnScope ["self", "number"] ["self", "number"] (defScope sE9) := ⟨rfl, rfl, rfl, by decide +kernel, rfl, by decide +kernel, by decide +kernel⟩
theorem ok_e9 {f C : Addr} {fd : FuncData} (F : Fun K "__init__" "InvalidState.__init__" sE9 f fd) (T : OexC K C) (hno : PySem.W.findIn K (.ref C) "number" = some none) : FnOk P w K mg base CX0 1 f fd ["self", "number"] (spEx1 C "number") := by
  refine F.ok scE9 (fun vs H Q E h => by obtain ⟨v, i, rfl, _⟩ := h; rfl) (fun cdv A outer s H vs Q E hr h => ?_)
  obtain ⟨a, y, rfl, ha, k⟩ := h
  exact ⟨_, pss_one (ps_ost (pv 0) (pv 1)), ⟨_, rfl, _, rfl, a, C, rfl, T, hno, .inl ⟨ha, fun dx n ne => k dx n ne⟩⟩⟩
abbrev sE10 : Stmt := inClass (top 14) 0
theorem scE10 : FnScope ["self", "index"] ["self", "index"] (defScope sE10) := ⟨rfl, rfl, rfl, by decide +kernel, rfl, by decide +kernel, by decide +kernel⟩
theorem ok_e10 {f C : Addr} {fd : FuncData} (F : Fun K "__init__" "InvalidText.__init__" sE10 f fd) (T : OexC K C) (hno : PySem.W.findIn K (.ref C) "index" = some none) : FnOk P w K mg base CX0 1 f fd ["self", "index"] (spEx1 C "index") := by
  refine F.ok scE10 (fun vs H Q E h => by obtain ⟨v, i, rfl, _⟩ := h; rfl) (fun cdv A outer s H vs Q E hr h => ?_)
  obtain ⟨a, y, rfl, ha, k⟩ := h
  exact ⟨_, pss_one (ps_ost (pv 0) (pv 1)), ⟨_, rfl, _, rfl, a, C, rfl, T, hno, .inl ⟨ha, fun dx n ne => k dx n ne⟩⟩⟩
abbrev sE11 : Stmt := inClass (top 15) 0
theorem scE11 : FnScope ["self", "combination"] ["self", "combination"] (defScope sE11) := ⟨rfl, rfl, rfl, by decide +kernel, rfl, by decide +kernel, by decide +kernel⟩
theorem ok_e11 {f C : Addr} {fd : FuncData} (F : Fun K "__init__" "Contradiction.__init__" sE11 f fd) (T : OexC K C) (hno : PySem.W.findIn K (.ref C) "combination" = some none) : FnOk P w K mg base CX0 1 f fd ["self", "combination"] (spEx1 C "combination") := by
  refine F.ok scE11 (fun vs H Q E h => by obtain ⟨v, i, rfl, _⟩ := h; rfl) (fun cdv A outer s H vs Q E hr h => ?_)
  obtain ⟨a, y, rfl, ha, k⟩ := h
  exact ⟨_, pss_one (ps_ost (pv 0) (pv 1)), ⟨_, rfl, _, rfl, a, C, rfl, T, hno, .inl ⟨ha, fun dx n ne => k dx n ne⟩⟩⟩
abbrev sE12 : Stmt := inClass (top 16) 0
theorem scE12 : FnScope ["self", "name"] ["self", "name"] (defScope sE12) := ⟨rfl, rfl, rfl, by decide +kernel, rfl, by decide +kernel, by decide +kernel⟩
theorem ok_e12 {f C : Addr} {fd : FuncData} (F : Fun K "__init__" "NameTaken.__init__" sE12 f fd) (T : OexC K C) (hno : PySem.W.findIn K (.ref C) "name" = some none) : FnOk P w K mg base CX0 1 f fd ["self", "name"] (spEx1 C "name") := by
  refine F.ok scE12 (fun vs H Q E h => by obtain ⟨v, i, rfl, _⟩ := h; rfl) (fun cdv A outer s H vs Q E hr h => ?_)
  obtain ⟨a, y, rfl, ha, k⟩ := h
  exact ⟨_, pss_one (ps_ost (pv 0) (pv 1)), ⟨_, rfl, _, rfl, a, C, rfl, T, hno, .inl ⟨ha, fun dx n ne => k dx n ne⟩⟩⟩
abbrev sE13 : Stmt := inClass (top 17) 0
theorem scE13 : FnScope ["self", "name"] ["self", "name"] (defScope sE13) := ⟨rfl, rfl, rfl, by decide +kernel, rfl, by decide +kernel, by decide +kernel⟩
theorem ok_e13 {f C : Addr} {fd : FuncData} (F : Fun K "__init__" "UnknownName.__init__" sE13 f fd) (T : OexC K C) (hno : PySem.W.findIn K (.ref C) "name" = some none) : FnOk P w K mg base CX0 1 f fd ["self", "name"] (spEx1 C "name") := by
  refine F.ok scE13 (fun vs H Q E h => by obtain ⟨v, i, rfl, _⟩ := h; rfl) (fun cdv A outer s H vs Q E hr h => ?_)
  obtain ⟨a, y, rfl, ha, k⟩ := h
  exact ⟨_, pss_one (ps_ost (pv 0) (pv 1)), ⟨_, rfl, _, rfl, a, C, rfl, T, hno, .inl ⟨ha, fun dx n ne => k dx n ne⟩⟩⟩
abbrev sE14 : Stmt := inClass (top 18) 0
theorem scE14 : FnScope ["self", "kind"] ["self", "kind"] (defScope sE14) := ⟨rfl, rfl, rfl, by decide +kernel, rfl, by decide +kernel, by decide +kernel⟩
theorem ok_e14 {f C : Addr} {fd : FuncData} (F : Fun K "__init__" "UnknownKind.__init__" sE14 f fd) (T : OexC K C) (hno : PySem.W.findIn K (.ref C) "kind" = some none) : FnOk P w K mg base CX0 1 f fd ["self", "kind"] (spEx1 C "kind") := by
  refine F.ok scE14 (fun vs H Q E h => by obtain ⟨v, i, rfl, _⟩ := h; rfl) (fun cdv A outer s H vs Q E hr h => ?_)
  obtain ⟨a, y, rfl, ha, k⟩ := h
  exact ⟨_, pss_one (ps_ost (pv 0) (pv 1)), ⟨_, rfl, _, rfl, a, C, rfl, T, hno, .inl ⟨ha, fun dx n ne => k dx n ne⟩⟩⟩
abbrev sE15 : Stmt := inClass (top 19) 0
theorem scE15 : FnScope ["self", "kind"] ["self", "kind"] (defScope sE15) := ⟨rfl, rfl, rfl, by decide +kernel, rfl, by decide +kernel, by decide +kernel⟩
theorem ok_e15 {f C : Addr} {fd : FuncData} (F : Fun K "__init__" "InvalidOptions.__init__" sE15 f fd) (T : OexC K C) (hno : PySem.W.findIn K (.ref C) "kind" = some none) : FnOk P w K mg base CX0 1 f fd ["self", "kind"] (spEx1 C "kind") := by
  refine F.ok scE15 (fun vs H Q E h => by obtain ⟨v, i, rfl, _⟩ := h; rfl) (fun cdv A outer s H vs Q E hr h => ?_)
  obtain ⟨a, y, rfl, ha, k⟩ := h
  exact ⟨_, pss_one (ps_ost (pv 0) (pv 1)), ⟨_, rfl, _, rfl, a, C, rfl, T, hno, .inl ⟨ha, fun dx n ne => k dx n ne⟩⟩⟩
end
/-! ### the law's tries -/
theorem look1 {f : Str} {v : V} {l : List (Str × V)} : ((f, v) :: l).lookup f = some v := by simp [List.lookup]
theorem look2 {f g : Str} {v w : V} {l : List (Str × V)} (h : (f == g) = false) : ((g, w) :: (f, v) :: l).lookup f = some v := by simp [List.lookup, h]
theorem small_app {z : Str} (h : z.length ≤ 1000) : z.length + ("a" : Str).length ≤ sizeLine := by
  have h1 : ("a" : Str).length = 1 := by decide +kernel
  have h2 : (sizeLine : Nat) = 16777216 := sizeLine_eq
  omega
/-- called with a way from lo to hi: True -/
def spW (lo hi : Int) : Sp := fun vs H Q _ => ∃ (way n : Int) (z : Str), vs = [.int way, .int n, .str z] ∧ lo ≤ way ∧ way < hi ∧ z.length ≤ 1000 ∧ ∀ H', Same H H' → Q (.bl true) H'
def spW2 (lo hi : Int) : Sp := fun vs H Q _ => ∃ (way : Int) (z : Str), vs = [.int way, .str z] ∧ lo ≤ way ∧ way < hi ∧ z.length ≤ 1000 ∧ ∀ H', Same H H' → Q (.bl true) H'
def tAppA : TE := tOp (fun x y H Q => ∃ i j, x = .str i ∧ y = .str j ∧ i.length + j.length ≤ sizeLine ∧ Q (.str (i ++ j)) H) (tVar 2) (tC (.str "a"))
theorem mono_app (σ : L2.St) (H : Hp) (P R : V → Hp → Prop) (h : ∀ v H, P v H → R v H) : tAppA σ H P → tAppA σ H R := fun ⟨v, e, i, j, e1, e2, hz, q⟩ => ⟨v, e, i, j, e1, e2, hz, h _ _ q⟩
section
variable {P : Program} {w : World} {K : PySem.W.Frag} {mg : Str → Option Value} {base : Heap}
abbrev sGly : Stmt := top 67
theorem scsGly : FnScope ["_law_way", "_law_number", "_law_word", "_law_e"] ["_law_way", "_law_number", "_law_word"] (defScope sGly) := ⟨rfl, rfl, rfl, by decide +kernel, rfl, by decide +kernel, by decide +kernel⟩
theorem ok_sGly {f C0 f0 C1 f1 C2 f2 C3 f3 C4 f4 C5 f5 : Addr} {fd fd0 fd1 fd2 fd3 fd4 fd5 : FuncData} (F : Fun K "_law_glyphs" "_law_glyphs" sGly f fd)
    (e0 : ErrC K mg "InvalidGlyph" C0 f0) (x0 : XfC K C0) (n0glyph : PySem.W.findIn K (.ref C0) "glyph" = some none) (G0 : FnOk P w K mg base CX0 1 f0 fd0 ["self", "glyph"] (spEx1 C0 "glyph")) (b0 : Binds K fd0 ["self", "glyph"] [])
    (e1 : ErrC K mg "InvalidNumber" C1 f1) (x1 : XfC K C1) (n1value : PySem.W.findIn K (.ref C1) "value" = some none) (G1 : FnOk P w K mg base CX0 1 f1 fd1 ["self", "value"] (spEx1 C1 "value")) (b1 : Binds K fd1 ["self", "value"] [])
    (e2 : ErrC K mg "UnknownGlyph" C2 f2) (x2 : XfC K C2) (n2glyph : PySem.W.findIn K (.ref C2) "glyph" = some none) (G2 : FnOk P w K mg base CX0 1 f2 fd2 ["self", "glyph"] (spEx1 C2 "glyph")) (b2 : Binds K fd2 ["self", "glyph"] [])
    (e3 : ErrC K mg "TooMany" C3 f3) (x3 : XfC K C3) (n3limit : PySem.W.findIn K (.ref C3) "limit" = some none) (G3 : FnOk P w K mg base CX0 1 f3 fd3 ["self", "limit"] (spEx1 C3 "limit")) (b3 : Binds K fd3 ["self", "limit"] [])
    (e4 : ErrC K mg "Overlap" C4 f4) (x4 : XfC K C4) (n4left : PySem.W.findIn K (.ref C4) "left" = some none) (n4right : PySem.W.findIn K (.ref C4) "right" = some none) (G4 : FnOk P w K mg base CX0 1 f4 fd4 ["self", "left", "right"] (spEx2 C4 "left" "right")) (b4 : Binds K fd4 ["self", "left", "right"] [])
    (e5 : ErrC K mg "InUse" C5 f5) (x5 : XfC K C5) (n5user : PySem.W.findIn K (.ref C5) "user" = some none) (G5 : FnOk P w K mg base CX0 1 f5 fd5 ["self", "user"] (spEx1 C5 "user")) (b5 : Binds K fd5 ["self", "user"] [])
    (s0_0 : PySem.W.exmOne K (.ref C0) (.ref C0) = some true)
    (s1_0 : PySem.W.exmOne K (.ref C1) (.ref C0) = some false) (s1_1 : PySem.W.exmOne K (.ref C1) (.ref C1) = some true)
    (s2_0 : PySem.W.exmOne K (.ref C2) (.ref C0) = some false) (s2_1 : PySem.W.exmOne K (.ref C2) (.ref C1) = some false) (s2_2 : PySem.W.exmOne K (.ref C2) (.ref C2) = some true)
    (s3_0 : PySem.W.exmOne K (.ref C3) (.ref C0) = some false) (s3_1 : PySem.W.exmOne K (.ref C3) (.ref C1) = some false) (s3_2 : PySem.W.exmOne K (.ref C3) (.ref C2) = some false) (s3_3 : PySem.W.exmOne K (.ref C3) (.ref C3) = some true)
    (s4_0 : PySem.W.exmOne K (.ref C4) (.ref C0) = some false) (s4_1 : PySem.W.exmOne K (.ref C4) (.ref C1) = some false) (s4_2 : PySem.W.exmOne K (.ref C4) (.ref C2) = some false) (s4_3 : PySem.W.exmOne K (.ref C4) (.ref C3) = some false) (s4_4 : PySem.W.exmOne K (.ref C4) (.ref C4) = some true)
    (s5_0 : PySem.W.exmOne K (.ref C5) (.ref C0) = some false) (s5_1 : PySem.W.exmOne K (.ref C5) (.ref C1) = some false) (s5_2 : PySem.W.exmOne K (.ref C5) (.ref C2) = some false) (s5_3 : PySem.W.exmOne K (.ref C5) (.ref C3) = some false) (s5_4 : PySem.W.exmOne K (.ref C5) (.ref C4) = some false) (s5_5 : PySem.W.exmOne K (.ref C5) (.ref C5) = some true)
    : FnOk P w K mg base CX0 3 f fd ["_law_way", "_law_number", "_law_word"] (spW 0 6) := by
  refine F.ok scsGly (fun vs H Q E h => by obtain ⟨way, n, z, rfl, _⟩ := h; rfl) (fun cdv A outer s H vs Q E hr h => ?_)
  obtain ⟨way, n, z, rfl, w0, w1, hz, k⟩ := h
  have nd := scsGly.nd
  have hr2 : Room 2 _ := hr.mono (by decide)
  refine ⟨_, pss_cons (ps_try_manyA rfl rfl nd (fun W pn xe tk _ => pss_cons (ps_if (pt_cmpR op_eq (pv 0) pe_int (nomark _)) (pss_one (by exact ps_raise1 e0 G0 hr2 b0 pass0 rfl tk (pv 2) (fun σ H P R h => mono_tVar σ H P R h))) pss_nil) (pss_cons (ps_if (pt_cmpR op_eq (pv 0) pe_int (nomark _)) (pss_one (by exact ps_raise1 e1 G1 hr2 b1 pass0 rfl tk (pv 1) (fun σ H P R h => mono_tVar σ H P R h))) pss_nil) (pss_cons (ps_if (pt_cmpR op_eq (pv 0) pe_int (nomark _)) (pss_one (by exact ps_raise1 e2 G2 hr2 b2 pass0 rfl tk (pv 2) (fun σ H P R h => mono_tVar σ H P R h))) pss_nil) (pss_cons (ps_if (pt_cmpR op_eq (pv 0) pe_int (nomark _)) (pss_one (by exact ps_raise1 e3 G3 hr2 b3 pass0 rfl tk (pv 1) (fun σ H P R h => mono_tVar σ H P R h))) pss_nil) (pss_cons (ps_if (pt_cmpR op_eq (pv 0) pe_int (nomark _)) (pss_one (by exact ps_raise2 e4 G4 hr2 b4 pass0 rfl tk (pv 2) (pe_op op_add_str (pv 2) pe_str) (fun σ H P R h => mono_tVar σ H P R h) mono_app)) pss_nil) (pss_one (ps_if (pt_cmpR op_eq (pv 0) pe_int (nomark _)) (pss_one (by exact ps_raise1 e5 G5 hr2 b5 pass0 rfl tk (pv 2) (fun σ H P R h => mono_tVar σ H P R h))) pss_nil))))))) (.cons (i := 3) ⟨rfl, by decide, Or.inl e0.g⟩ rfl rfl (fun a oe cls d pn hz hf => pss_one (by exact (ps_ret (pe_and (pe_cmpR op_eq (pv 0) pe_int (nomark _)) (pe_one (pe_cmpR op_eq (pe_xf x0 n0glyph hz hf (pv 3)) (pv 2) (nomark _))))))) (.cons (i := 3) ⟨rfl, by decide, Or.inl e1.g⟩ rfl rfl (fun a oe cls d pn hz hf => pss_one (by exact (ps_ret (pe_and (pe_cmpR op_eq (pv 0) pe_int (nomark _)) (pe_one (pe_cmpR op_eq (pe_xf x1 n1value hz hf (pv 3)) (pv 1) (nomark _))))))) (.cons (i := 3) ⟨rfl, by decide, Or.inl e2.g⟩ rfl rfl (fun a oe cls d pn hz hf => pss_one (by exact (ps_ret (pe_and (pe_cmpR op_eq (pv 0) pe_int (nomark _)) (pe_one (pe_cmpR op_eq (pe_xf x2 n2glyph hz hf (pv 3)) (pv 2) (nomark _))))))) (.cons (i := 3) ⟨rfl, by decide, Or.inl e3.g⟩ rfl rfl (fun a oe cls d pn hz hf => pss_one (by exact (ps_ret (pe_and (pe_cmpR op_eq (pv 0) pe_int (nomark _)) (pe_one (pe_cmpR op_eq (pe_xf x3 n3limit hz hf (pv 3)) (pv 1) (nomark _))))))) (.cons (i := 3) ⟨rfl, by decide, Or.inl e4.g⟩ rfl rfl (fun a oe cls d pn hz hf => pss_one (by exact (ps_ret (pe_and (pe_cmpR op_eq (pv 0) pe_int (nomark _)) (pe_and (pe_cmpR op_eq (pe_xf x4 n4left hz hf (pv 3)) (pv 2) (nomark _)) (pe_one (pe_cmpR op_eq (pe_xf x4 n4right hz hf (pv 3)) (pe_op op_add_str (pv 2) pe_str) (nomark _)))))))) (.cons (i := 3) ⟨rfl, by decide, Or.inl e5.g⟩ rfl rfl (fun a oe cls d pn hz hf => pss_one (by exact (ps_ret (pe_and (pe_cmpR op_eq (pv 0) pe_int (nomark _)) (pe_one (pe_cmpR op_eq (pe_xf x5 n5user hz hf (pv 3)) (pv 2) (nomark _))))))) .nil))))))) (pss_one (ps_ret pe_bl)), ?_⟩
  rcases (show way = 0 ∨ way = 1 ∨ way = 2 ∨ way = 3 ∨ way = 4 ∨ way = 5 by omega) with rfl | rfl | rfl | rfl | rfl | rfl
  · refine ⟨_, rfl, rfl, _, rfl, ?_⟩
    rw [dec_int]
    refine iteT ?_
    refine ⟨_, rfl, fun d hd => ?_⟩
    refine ⟨true, s0_0, fun _ a ha => ?_, fun q => Bool.noConfusion q⟩
    refine ⟨_, rfl, rfl, _, rfl, ?_⟩
    rw [decide_eq_true rfl]
    refine iteT ⟨_, rfl, rfl, rfl, d, _, _, rfl, upd_same, look1, _, rfl, rfl, ?_⟩
    rw [decide_eq_true rfl]
    exact k _ (same_upd hd)
  · refine ⟨_, rfl, rfl, _, rfl, ?_⟩
    rw [dec_int]
    refine iteF ?_
    refine ⟨_, rfl, rfl, _, rfl, ?_⟩
    rw [dec_int]
    refine iteT ?_
    refine ⟨_, rfl, fun d hd => ?_⟩
    refine ⟨false, s1_0, fun q => Bool.noConfusion q, fun _ => ?_⟩
    refine ⟨true, s1_1, fun _ a ha => ?_, fun q => Bool.noConfusion q⟩
    refine ⟨_, rfl, rfl, _, rfl, ?_⟩
    rw [decide_eq_true rfl]
    refine iteT ⟨_, rfl, rfl, rfl, d, _, _, rfl, upd_same, look1, _, rfl, rfl, ?_⟩
    rw [decide_eq_true rfl]
    exact k _ (same_upd hd)
  · refine ⟨_, rfl, rfl, _, rfl, ?_⟩
    rw [dec_int]
    refine iteF ?_
    refine ⟨_, rfl, rfl, _, rfl, ?_⟩
    rw [dec_int]
    refine iteF ?_
    refine ⟨_, rfl, rfl, _, rfl, ?_⟩
    rw [dec_int]
    refine iteT ?_
    refine ⟨_, rfl, fun d hd => ?_⟩
    refine ⟨false, s2_0, fun q => Bool.noConfusion q, fun _ => ?_⟩
    refine ⟨false, s2_1, fun q => Bool.noConfusion q, fun _ => ?_⟩
    refine ⟨true, s2_2, fun _ a ha => ?_, fun q => Bool.noConfusion q⟩
    refine ⟨_, rfl, rfl, _, rfl, ?_⟩
    rw [decide_eq_true rfl]
    refine iteT ⟨_, rfl, rfl, rfl, d, _, _, rfl, upd_same, look1, _, rfl, rfl, ?_⟩
    rw [decide_eq_true rfl]
    exact k _ (same_upd hd)
  · refine ⟨_, rfl, rfl, _, rfl, ?_⟩
    rw [dec_int]
    refine iteF ?_
    refine ⟨_, rfl, rfl, _, rfl, ?_⟩
    rw [dec_int]
    refine iteF ?_
    refine ⟨_, rfl, rfl, _, rfl, ?_⟩
    rw [dec_int]
    refine iteF ?_
    refine ⟨_, rfl, rfl, _, rfl, ?_⟩
    rw [dec_int]
    refine iteT ?_
    refine ⟨_, rfl, fun d hd => ?_⟩
    refine ⟨false, s3_0, fun q => Bool.noConfusion q, fun _ => ?_⟩
    refine ⟨false, s3_1, fun q => Bool.noConfusion q, fun _ => ?_⟩
    refine ⟨false, s3_2, fun q => Bool.noConfusion q, fun _ => ?_⟩
    refine ⟨true, s3_3, fun _ a ha => ?_, fun q => Bool.noConfusion q⟩
    refine ⟨_, rfl, rfl, _, rfl, ?_⟩
    rw [decide_eq_true rfl]
    refine iteT ⟨_, rfl, rfl, rfl, d, _, _, rfl, upd_same, look1, _, rfl, rfl, ?_⟩
    rw [decide_eq_true rfl]
    exact k _ (same_upd hd)
  · refine ⟨_, rfl, rfl, _, rfl, ?_⟩
    rw [dec_int]
    refine iteF ?_
    refine ⟨_, rfl, rfl, _, rfl, ?_⟩
    rw [dec_int]
    refine iteF ?_
    refine ⟨_, rfl, rfl, _, rfl, ?_⟩
    rw [dec_int]
    refine iteF ?_
    refine ⟨_, rfl, rfl, _, rfl, ?_⟩
    rw [dec_int]
    refine iteF ?_
    refine ⟨_, rfl, rfl, _, rfl, ?_⟩
    rw [dec_int]
    refine iteT ?_
    refine ⟨_, rfl, _, rfl, z, "a", rfl, rfl, small_app hz, fun d hd => ?_⟩
    refine ⟨false, s4_0, fun q => Bool.noConfusion q, fun _ => ?_⟩
    refine ⟨false, s4_1, fun q => Bool.noConfusion q, fun _ => ?_⟩
    refine ⟨false, s4_2, fun q => Bool.noConfusion q, fun _ => ?_⟩
    refine ⟨false, s4_3, fun q => Bool.noConfusion q, fun _ => ?_⟩
    refine ⟨true, s4_4, fun _ a ha => ?_, fun q => Bool.noConfusion q⟩
    refine ⟨_, rfl, rfl, _, rfl, ?_⟩
    rw [decide_eq_true rfl]
    refine iteT ⟨_, rfl, rfl, rfl, d, _, _, rfl, upd_same, look2 (by decide +kernel), _, rfl, rfl, _, rfl, ?_⟩
    rw [decide_eq_true rfl]
    refine iteT ⟨_, rfl, rfl, rfl, d, _, _, rfl, upd_same, look1, _, rfl, z, "a", rfl, rfl, small_app hz, rfl, ?_⟩
    rw [decide_eq_true rfl]
    exact k _ (same_upd hd)
  · refine ⟨_, rfl, rfl, _, rfl, ?_⟩
    rw [dec_int]
    refine iteF ?_
    refine ⟨_, rfl, rfl, _, rfl, ?_⟩
    rw [dec_int]
    refine iteF ?_
    refine ⟨_, rfl, rfl, _, rfl, ?_⟩
    rw [dec_int]
    refine iteF ?_
    refine ⟨_, rfl, rfl, _, rfl, ?_⟩
    rw [dec_int]
    refine iteF ?_
    refine ⟨_, rfl, rfl, _, rfl, ?_⟩
    rw [dec_int]
    refine iteF ?_
    refine ⟨_, rfl, rfl, _, rfl, ?_⟩
    rw [dec_int]
    refine iteT ?_
    refine ⟨_, rfl, fun d hd => ?_⟩
    refine ⟨false, s5_0, fun q => Bool.noConfusion q, fun _ => ?_⟩
    refine ⟨false, s5_1, fun q => Bool.noConfusion q, fun _ => ?_⟩
    refine ⟨false, s5_2, fun q => Bool.noConfusion q, fun _ => ?_⟩
    refine ⟨false, s5_3, fun q => Bool.noConfusion q, fun _ => ?_⟩
    refine ⟨false, s5_4, fun q => Bool.noConfusion q, fun _ => ?_⟩
    refine ⟨true, s5_5, fun _ a ha => ?_, fun q => Bool.noConfusion q⟩
    refine ⟨_, rfl, rfl, _, rfl, ?_⟩
    rw [decide_eq_true rfl]
    refine iteT ⟨_, rfl, rfl, rfl, d, _, _, rfl, upd_same, look1, _, rfl, rfl, ?_⟩
    rw [decide_eq_true rfl]
    exact k _ (same_upd hd)
abbrev sNam : Stmt := top 69
theorem scsNam : FnScope ["_law_way", "_law_word", "_law_e"] ["_law_way", "_law_word"] (defScope sNam) := ⟨rfl, rfl, rfl, by decide +kernel, rfl, by decide +kernel, by decide +kernel⟩
theorem ok_sNam {f C12 f12 C13 f13 C14 f14 C15 f15 : Addr} {fd fd12 fd13 fd14 fd15 : FuncData} (F : Fun K "_law_names" "_law_names" sNam f fd)
    (e12 : ErrC K mg "NameTaken" C12 f12) (x12 : XfC K C12) (n12name : PySem.W.findIn K (.ref C12) "name" = some none) (G12 : FnOk P w K mg base CX0 1 f12 fd12 ["self", "name"] (spEx1 C12 "name")) (b12 : Binds K fd12 ["self", "name"] [])
    (e13 : ErrC K mg "UnknownName" C13 f13) (x13 : XfC K C13) (n13name : PySem.W.findIn K (.ref C13) "name" = some none) (G13 : FnOk P w K mg base CX0 1 f13 fd13 ["self", "name"] (spEx1 C13 "name")) (b13 : Binds K fd13 ["self", "name"] [])
    (e14 : ErrC K mg "UnknownKind" C14 f14) (x14 : XfC K C14) (n14kind : PySem.W.findIn K (.ref C14) "kind" = some none) (G14 : FnOk P w K mg base CX0 1 f14 fd14 ["self", "kind"] (spEx1 C14 "kind")) (b14 : Binds K fd14 ["self", "kind"] [])
    (e15 : ErrC K mg "InvalidOptions" C15 f15) (x15 : XfC K C15) (n15kind : PySem.W.findIn K (.ref C15) "kind" = some none) (G15 : FnOk P w K mg base CX0 1 f15 fd15 ["self", "kind"] (spEx1 C15 "kind")) (b15 : Binds K fd15 ["self", "kind"] [])
    (s12_12 : PySem.W.exmOne K (.ref C12) (.ref C12) = some true)
    (s13_12 : PySem.W.exmOne K (.ref C13) (.ref C12) = some false) (s13_13 : PySem.W.exmOne K (.ref C13) (.ref C13) = some true)
    (s14_12 : PySem.W.exmOne K (.ref C14) (.ref C12) = some false) (s14_13 : PySem.W.exmOne K (.ref C14) (.ref C13) = some false) (s14_14 : PySem.W.exmOne K (.ref C14) (.ref C14) = some true)
    (s15_12 : PySem.W.exmOne K (.ref C15) (.ref C12) = some false) (s15_13 : PySem.W.exmOne K (.ref C15) (.ref C13) = some false) (s15_14 : PySem.W.exmOne K (.ref C15) (.ref C14) = some false) (s15_15 : PySem.W.exmOne K (.ref C15) (.ref C15) = some true)
    : FnOk P w K mg base CX0 3 f fd ["_law_way", "_law_word"] (spW2 12 16) := by
  refine F.ok scsNam (fun vs H Q E h => by obtain ⟨way, z, rfl, _⟩ := h; rfl) (fun cdv A outer s H vs Q E hr h => ?_)
  obtain ⟨way, z, rfl, w0, w1, hz, k⟩ := h
  have nd := scsNam.nd
  have hr2 : Room 2 _ := hr.mono (by decide)
  refine ⟨_, pss_cons (ps_try_manyA rfl rfl nd (fun W pn xe tk _ => pss_cons (ps_if (pt_cmpR op_eq (pv 0) pe_int (nomark _)) (pss_one (by exact ps_raise1 e12 G12 hr2 b12 pass0 rfl tk (pv 1) (fun σ H P R h => mono_tVar σ H P R h))) pss_nil) (pss_cons (ps_if (pt_cmpR op_eq (pv 0) pe_int (nomark _)) (pss_one (by exact ps_raise1 e13 G13 hr2 b13 pass0 rfl tk (pv 1) (fun σ H P R h => mono_tVar σ H P R h))) pss_nil) (pss_cons (ps_if (pt_cmpR op_eq (pv 0) pe_int (nomark _)) (pss_one (by exact ps_raise1 e14 G14 hr2 b14 pass0 rfl tk (pv 1) (fun σ H P R h => mono_tVar σ H P R h))) pss_nil) (pss_one (ps_if (pt_cmpR op_eq (pv 0) pe_int (nomark _)) (pss_one (by exact ps_raise1 e15 G15 hr2 b15 pass0 rfl tk (pv 1) (fun σ H P R h => mono_tVar σ H P R h))) pss_nil))))) (.cons (i := 2) ⟨rfl, by decide, Or.inl e12.g⟩ rfl rfl (fun a oe cls d pn hz hf => pss_one (by exact (ps_ret (pe_and (pe_cmpR op_eq (pv 0) pe_int (nomark _)) (pe_one (pe_cmpR op_eq (pe_xf x12 n12name hz hf (pv 2)) (pv 1) (nomark _))))))) (.cons (i := 2) ⟨rfl, by decide, Or.inl e13.g⟩ rfl rfl (fun a oe cls d pn hz hf => pss_one (by exact (ps_ret (pe_and (pe_cmpR op_eq (pv 0) pe_int (nomark _)) (pe_one (pe_cmpR op_eq (pe_xf x13 n13name hz hf (pv 2)) (pv 1) (nomark _))))))) (.cons (i := 2) ⟨rfl, by decide, Or.inl e14.g⟩ rfl rfl (fun a oe cls d pn hz hf => pss_one (by exact (ps_ret (pe_and (pe_cmpR op_eq (pv 0) pe_int (nomark _)) (pe_one (pe_cmpR op_eq (pe_xf x14 n14kind hz hf (pv 2)) (pv 1) (nomark _))))))) (.cons (i := 2) ⟨rfl, by decide, Or.inl e15.g⟩ rfl rfl (fun a oe cls d pn hz hf => pss_one (by exact (ps_ret (pe_and (pe_cmpR op_eq (pv 0) pe_int (nomark _)) (pe_one (pe_cmpR op_eq (pe_xf x15 n15kind hz hf (pv 2)) (pv 1) (nomark _))))))) .nil))))) (pss_one (ps_ret pe_bl)), ?_⟩
  rcases (show way = 12 ∨ way = 13 ∨ way = 14 ∨ way = 15 by omega) with rfl | rfl | rfl | rfl
  · refine ⟨_, rfl, rfl, _, rfl, ?_⟩
    rw [dec_int]
    refine iteT ?_
    refine ⟨_, rfl, fun d hd => ?_⟩
    refine ⟨true, s12_12, fun _ a ha => ?_, fun q => Bool.noConfusion q⟩
    refine ⟨_, rfl, rfl, _, rfl, ?_⟩
    rw [decide_eq_true rfl]
    refine iteT ⟨_, rfl, rfl, rfl, d, _, _, rfl, upd_same, look1, _, rfl, rfl, ?_⟩
    rw [decide_eq_true rfl]
    exact k _ (same_upd hd)
  · refine ⟨_, rfl, rfl, _, rfl, ?_⟩
    rw [dec_int]
    refine iteF ?_
    refine ⟨_, rfl, rfl, _, rfl, ?_⟩
    rw [dec_int]
    refine iteT ?_
    refine ⟨_, rfl, fun d hd => ?_⟩
    refine ⟨false, s13_12, fun q => Bool.noConfusion q, fun _ => ?_⟩
    refine ⟨true, s13_13, fun _ a ha => ?_, fun q => Bool.noConfusion q⟩
    refine ⟨_, rfl, rfl, _, rfl, ?_⟩
    rw [decide_eq_true rfl]
    refine iteT ⟨_, rfl, rfl, rfl, d, _, _, rfl, upd_same, look1, _, rfl, rfl, ?_⟩
    rw [decide_eq_true rfl]
    exact k _ (same_upd hd)
  · refine ⟨_, rfl, rfl, _, rfl, ?_⟩
    rw [dec_int]
    refine iteF ?_
    refine ⟨_, rfl, rfl, _, rfl, ?_⟩
    rw [dec_int]
    refine iteF ?_
    refine ⟨_, rfl, rfl, _, rfl, ?_⟩
    rw [dec_int]
    refine iteT ?_
    refine ⟨_, rfl, fun d hd => ?_⟩
    refine ⟨false, s14_12, fun q => Bool.noConfusion q, fun _ => ?_⟩
    refine ⟨false, s14_13, fun q => Bool.noConfusion q, fun _ => ?_⟩
    refine ⟨true, s14_14, fun _ a ha => ?_, fun q => Bool.noConfusion q⟩
    refine ⟨_, rfl, rfl, _, rfl, ?_⟩
    rw [decide_eq_true rfl]
    refine iteT ⟨_, rfl, rfl, rfl, d, _, _, rfl, upd_same, look1, _, rfl, rfl, ?_⟩
    rw [decide_eq_true rfl]
    exact k _ (same_upd hd)
  · refine ⟨_, rfl, rfl, _, rfl, ?_⟩
    rw [dec_int]
    refine iteF ?_
    refine ⟨_, rfl, rfl, _, rfl, ?_⟩
    rw [dec_int]
    refine iteF ?_
    refine ⟨_, rfl, rfl, _, rfl, ?_⟩
    rw [dec_int]
    refine iteF ?_
    refine ⟨_, rfl, rfl, _, rfl, ?_⟩
    rw [dec_int]
    refine iteT ?_
    refine ⟨_, rfl, fun d hd => ?_⟩
    refine ⟨false, s15_12, fun q => Bool.noConfusion q, fun _ => ?_⟩
    refine ⟨false, s15_13, fun q => Bool.noConfusion q, fun _ => ?_⟩
    refine ⟨false, s15_14, fun q => Bool.noConfusion q, fun _ => ?_⟩
    refine ⟨true, s15_15, fun _ a ha => ?_, fun q => Bool.noConfusion q⟩
    refine ⟨_, rfl, rfl, _, rfl, ?_⟩
    rw [decide_eq_true rfl]
    refine iteT ⟨_, rfl, rfl, rfl, d, _, _, rfl, upd_same, look1, _, rfl, rfl, ?_⟩
    rw [decide_eq_true rfl]
    exact k _ (same_upd hd)
end
/-! ### [k for k in l if k], l a list of truth values -/
theorem lc_trues {K : PySem.W.Frag} {q : Addr} {L : List Bool} {x0 x1 x2 : Option V} {H1 : Hp} {D : Addr} {Qd : Hp → Prop} (h6 : H1 q = some (.lst (L.map V.bl))) (hD : H1 D = none) (hL : L.length ≤ 1000)
    (k : ∀ H', Same H1 H' → H' D = some (.lst ((L.filter id).map V.bl)) → Qd H') :
    ∃ W : Nat → Nat → Hp → Prop, (∃ m, W 0 m (upd H1 D (.lst []))) ∧ ∀ i m H, W i m H →
      ((Itl K q).stop i H ∧ Qd H) ∨ ((Itl K q).go i H ∧ ∃ Nx : Hp → Prop, (∀ H', Nx H' → ∃ m', m' < m ∧ W (i + 1) m' H') ∧ ∀ x H', (Itl K q).yld i H x H' → gName 2 x (wipe [x0, x1, x2] [2]) H' fun σ2 H2 => wipe σ2 [2] = wipe [x0, x1, x2] [2] ∧ tB (tVar 2) σ2 H2 fun b H3 =>
        if b = true then tVar 2 σ2 H3 fun y H4 => ∃ acc, H4 D = some (.lst acc) ∧ acc.length < sizeLine ∧ Nx (upd H4 D (.lst (acc ++ [y]))) else Nx H3) := by
  have hDn : D ≠ q := fun z => by rw [z, h6] at hD; cases hD
  have hz : (sizeLine : Nat) = 16777216 := sizeLine_eq
  refine lc_list (K := K) (a := q) (xs := L.map V.bl) (fun i H' => (∀ b u, b ≠ D → H1 b = some u → H' b = some u) ∧ H' D = some (.lst (((L.take i).filter id).map V.bl)))
      ⟨fun b u hb e => (upd_ne hb).trans e, upd_same⟩ (fun i H' _ ⟨s1, _⟩ => SqL.of (s1 _ _ hDn.symm h6)) ?_ ?_
  · rintro i x H' hx ⟨s1, hD'⟩
    rw [List.getElem?_map, Option.map_eq_some_iff] at hx
    obtain ⟨g, hg, rfl⟩ := hx
    refine ⟨rfl, _, rfl, g, rfl, ?_⟩
    have ht : (L.take (i + 1)).filter id = (L.take i).filter id ++ (if g = true then [g] else []) := by
      rw [List.take_add_one, hg, List.filter_append]
      cases g <;> rfl
    cases g with
    | true =>
      refine iteT ⟨_, rfl, _, hD', ?_, fun b u hb' e => (upd_ne hb').trans (s1 b u hb' e), ?_⟩
      · rw [List.length_map]
        have h1 := List.length_filter_le (id : Bool → Bool) (L.take i)
        have h2 : (L.take i).length ≤ L.length := by rw [List.length_take]; exact Nat.min_le_right _ _
        omega
      · rw [upd_same, ht, List.map_append]
        rfl
    | false =>
      refine iteF ⟨s1, ?_⟩
      rw [hD', ht]
      simp
  · rintro H' ⟨s1, hD'⟩
    refine k H' (fun b u e => s1 b u (fun z => by rw [z, hD] at e; cases e) e) ?_
    rw [hD', List.take_of_length_le (by rw [List.length_map]; exact Nat.le_refl _)]
theorem list19 {bs : List Bool} (h : bs.length = 19) : ∃ b0 b1 b2 b3 b4 b5 b6 b7 b8 b9 b10 b11 b12 b13 b14 b15 b16 b17 b18 : Bool, bs = [b0, b1, b2, b3, b4, b5, b6, b7, b8, b9, b10, b11, b12, b13, b14, b15, b16, b17, b18] := by
  match bs, h with
  | [b0, b1, b2, b3, b4, b5, b6, b7, b8, b9, b10, b11, b12, b13, b14, b15, b16, b17, b18], _ => exact ⟨b0, b1, b2, b3, b4, b5, b6, b7, b8, b9, b10, b11, b12, b13, b14, b15, b16, b17, b18, rfl⟩
/-! ### _law_kinds -/
/-- what _law_kinds asks, as a thing of its own that isn't unfolded -/
structure KindsP (K : PySem.W.Frag) (cls : List Value) (vs : List V) (H : Hp) (Q : VK) : Prop where
  it : ∃ (a D d : Addr) (fs : List (Str × V)) (bs : List Bool), vs = [.ref a] ∧ ExcC K D ∧ H a = some (exo a D (some d)) ∧ H d = some (exd d fs) ∧ cls.map (PySem.W.kitOne K (.ref D)) = bs.map some ∧ PySem.W.kitOne K (.ref D) (.type "ValueError") = some true ∧ bs[18]? = some true ∧ (bs.filter id).length = 2 ∧ ∀ H', Same H H' → Q (.bl true) H'
def spKinds (K : PySem.W.Frag) (cls : List Value) : Sp := fun vs H Q _ => KindsP K cls vs H Q
def cls19 (C0 C1 C2 C3 C4 C5 C6 C7 C8 C9 C10 C11 C12 C13 C14 C15 C16 C17 C18 : Addr) : List Value := [.ref C0, .ref C1, .ref C2, .ref C3, .ref C4, .ref C5, .ref C6, .ref C7, .ref C8, .ref C9, .ref C10, .ref C11, .ref C12, .ref C13, .ref C14, .ref C15, .ref C16, .ref C17, .ref C18]
theorem bs19 {cls : List Value} {K : PySem.W.Frag} {D : Addr} {bs : List Bool} (h : cls.map (PySem.W.kitOne K (.ref D)) = bs.map some) {i : Nat} {c : Value} {b : Bool} (h1 : cls[i]? = some c) (h2 : bs[i]? = some b) : PySem.W.kitOne K (.ref D) c = some b := by
  have e := congrArg (fun l => l[i]?) h
  simp only [List.getElem?_map, h1, h2, Option.map_some] at e
  exact Option.some.inj e
section
variable {P : Program} {w : World} {K : PySem.W.Frag} {mg : Str → Option Value} {base : Heap}
abbrev sKinds : Stmt := top 71
theorem scKinds : FnScope ["_law_e", "_law_kinds_here", "_law_kind"] ["_law_e"] (defScope sKinds) := ⟨rfl, rfl, rfl, by decide +kernel, rfl, by decide +kernel, by decide +kernel⟩
theorem ok_kinds {f C0 C1 C2 C3 C4 C5 C6 C7 C8 C9 C10 C11 C12 C13 C14 C15 C16 C17 C18 : Addr} {fd : FuncData} (F : Fun K "_law_kinds" "_law_kinds" sKinds f fd) (mIs : mg "isinstance" = none) (mLen : mg "len" = none) (mVE : mg "ValueError" = none) (g0 : mg "InvalidGlyph" = some (.ref C0)) (g1 : mg "InvalidNumber" = some (.ref C1)) (g2 : mg "UnknownGlyph" = some (.ref C2)) (g3 : mg "TooMany" = some (.ref C3)) (g4 : mg "Overlap" = some (.ref C4)) (g5 : mg "InUse" = some (.ref C5)) (g6 : mg "DeedRefused" = some (.ref C6)) (g7 : mg "InvalidLine" = some (.ref C7)) (g8 : mg "UnknownLetter" = some (.ref C8)) (g9 : mg "InvalidState" = some (.ref C9)) (g10 : mg "InvalidText" = some (.ref C10)) (g11 : mg "Contradiction" = some (.ref C11)) (g12 : mg "NameTaken" = some (.ref C12)) (g13 : mg "UnknownName" = some (.ref C13)) (g14 : mg "UnknownKind" = some (.ref C14)) (g15 : mg "InvalidOptions" = some (.ref C15)) (g16 : mg "NothingToUndo" = some (.ref C16)) (g17 : mg "NoCommonLetters" = some (.ref C17)) (g18 : mg "FontError" = some (.ref C18)) : FnOk P w K mg base CX0 1 f fd ["_law_e"] (spKinds K (cls19 C0 C1 C2 C3 C4 C5 C6 C7 C8 C9 C10 C11 C12 C13 C14 C15 C16 C17 C18)) := by
  refine F.ok scKinds (fun vs H Q E h => by obtain ⟨a, D, d, fs, bs, rfl, _⟩ := h.it; rfl) (fun cdv A outer s H vs Q E hr h => ?_)
  obtain ⟨a, D, d, fs, bs, rfl, X0, ha, hd, hm, hv, h18, hc, k⟩ := h.it
  have nd := scKinds.nd
  refine ⟨_, pss_cons (ps_set (i := 1) nd rfl (Or.inl rfl) (pe_lst (pa_cons (pe_callB call_isV (by rfl) mIs (by decide +kernel) (pa_cons (pv 0) (pa_cons (pe_glob (v := .ref C0) (by rfl) g0 rfl) pa_nil))) (pa_cons (pe_callB call_isV (by rfl) mIs (by decide +kernel) (pa_cons (pv 0) (pa_cons (pe_glob (v := .ref C1) (by rfl) g1 rfl) pa_nil))) (pa_cons (pe_callB call_isV (by rfl) mIs (by decide +kernel) (pa_cons (pv 0) (pa_cons (pe_glob (v := .ref C2) (by rfl) g2 rfl) pa_nil))) pa_nil))))) (pss_cons (ps_set (i := 1) nd rfl (Or.inl rfl) (pe_op op_cat (pv 1) (pe_lst (pa_cons (pe_callB call_isV (by rfl) mIs (by decide +kernel) (pa_cons (pv 0) (pa_cons (pe_glob (v := .ref C3) (by rfl) g3 rfl) pa_nil))) (pa_cons (pe_callB call_isV (by rfl) mIs (by decide +kernel) (pa_cons (pv 0) (pa_cons (pe_glob (v := .ref C4) (by rfl) g4 rfl) pa_nil))) (pa_cons (pe_callB call_isV (by rfl) mIs (by decide +kernel) (pa_cons (pv 0) (pa_cons (pe_glob (v := .ref C5) (by rfl) g5 rfl) pa_nil))) (pa_cons (pe_callB call_isV (by rfl) mIs (by decide +kernel) (pa_cons (pv 0) (pa_cons (pe_glob (v := .ref C6) (by rfl) g6 rfl) pa_nil))) pa_nil))))))) (pss_cons (ps_set (i := 1) nd rfl (Or.inl rfl) (pe_op op_cat (pv 1) (pe_lst (pa_cons (pe_callB call_isV (by rfl) mIs (by decide +kernel) (pa_cons (pv 0) (pa_cons (pe_glob (v := .ref C7) (by rfl) g7 rfl) pa_nil))) (pa_cons (pe_callB call_isV (by rfl) mIs (by decide +kernel) (pa_cons (pv 0) (pa_cons (pe_glob (v := .ref C8) (by rfl) g8 rfl) pa_nil))) (pa_cons (pe_callB call_isV (by rfl) mIs (by decide +kernel) (pa_cons (pv 0) (pa_cons (pe_glob (v := .ref C9) (by rfl) g9 rfl) pa_nil))) pa_nil)))))) (pss_cons (ps_set (i := 1) nd rfl (Or.inl rfl) (pe_op op_cat (pv 1) (pe_lst (pa_cons (pe_callB call_isV (by rfl) mIs (by decide +kernel) (pa_cons (pv 0) (pa_cons (pe_glob (v := .ref C10) (by rfl) g10 rfl) pa_nil))) (pa_cons (pe_callB call_isV (by rfl) mIs (by decide +kernel) (pa_cons (pv 0) (pa_cons (pe_glob (v := .ref C11) (by rfl) g11 rfl) pa_nil))) (pa_cons (pe_callB call_isV (by rfl) mIs (by decide +kernel) (pa_cons (pv 0) (pa_cons (pe_glob (v := .ref C12) (by rfl) g12 rfl) pa_nil))) pa_nil)))))) (pss_cons (ps_set (i := 1) nd rfl (Or.inl rfl) (pe_op op_cat (pv 1) (pe_lst (pa_cons (pe_callB call_isV (by rfl) mIs (by decide +kernel) (pa_cons (pv 0) (pa_cons (pe_glob (v := .ref C13) (by rfl) g13 rfl) pa_nil))) (pa_cons (pe_callB call_isV (by rfl) mIs (by decide +kernel) (pa_cons (pv 0) (pa_cons (pe_glob (v := .ref C14) (by rfl) g14 rfl) pa_nil))) (pa_cons (pe_callB call_isV (by rfl) mIs (by decide +kernel) (pa_cons (pv 0) (pa_cons (pe_glob (v := .ref C15) (by rfl) g15 rfl) pa_nil))) pa_nil)))))) (pss_cons (ps_set (i := 1) nd rfl (Or.inl rfl) (pe_op op_cat (pv 1) (pe_lst (pa_cons (pe_callB call_isV (by rfl) mIs (by decide +kernel) (pa_cons (pv 0) (pa_cons (pe_glob (v := .ref C16) (by rfl) g16 rfl) pa_nil))) (pa_cons (pe_callB call_isV (by rfl) mIs (by decide +kernel) (pa_cons (pv 0) (pa_cons (pe_glob (v := .ref C17) (by rfl) g17 rfl) pa_nil))) (pa_cons (pe_callB call_isV (by rfl) mIs (by decide +kernel) (pa_cons (pv 0) (pa_cons (pe_glob (v := .ref C18) (by rfl) g18 rfl) pa_nil))) pa_nil)))))) (pss_one (ps_ret (pe_and (pe_cmpR op_eq (pe_callB call_len_seq (by rfl) mLen PySem.boot_len (pa_cons (pe_lc (own := [("_law_kind", 2)]) (g := gName 2) (tt := tB (tVar 2)) (te := tVar 2) rfl nd (pi_list (pv 1)) (blkOk_by (N := ["_law_e", "_law_kinds_here", "_law_kind"]) (sc := defScope sKinds) (by decide +kernel)) (fun _ _ _ _ _ => pg_name (i := 2) nd rfl (Or.inl rfl)) (fun _ _ _ _ _ => pts_one (pt_val (pv 2))) (fun _ _ _ _ _ => pv 2)) pa_nil)) pe_int (nomark _)) (pe_and (pe_callB call_isV (by rfl) mIs (by decide +kernel) (pa_cons (pv 0) (pa_cons (pe_glob (v := .ref C18) (by rfl) g18 rfl) pa_nil))) (pe_one (pe_callB call_isV (by rfl) mIs (by decide +kernel) (pa_cons (pv 0) (pa_cons (pe_bltn (v := .ty "ValueError") (by rfl) mVE (by decide +kernel) rfl) pa_nil))))))))))))), ?_⟩
  obtain ⟨b0, b1, b2, b3, b4, b5, b6, b7, b8, b9, b10, b11, b12, b13, b14, b15, b16, b17, b18, rfl⟩ := list19 (bs := bs) (by
    have e := congrArg List.length hm
    rw [List.length_map, List.length_map] at e
    exact e.symm)
  have T0 : Same H H := fun _ _ z => z
  refine ⟨_, rfl, a, D, d, fs, _, _, b0, rfl, X0, T0 _ _ ha, T0 _ _ hd, .own C0, bs19 hm (i := 0) rfl rfl, ⟨_, rfl, a, D, d, fs, _, _, b1, rfl, X0, T0 _ _ ha, T0 _ _ hd, .own C1, bs19 hm (i := 1) rfl rfl, ⟨_, rfl, a, D, d, fs, _, _, b2, rfl, X0, T0 _ _ ha, T0 _ _ hd, .own C2, bs19 hm (i := 2) rfl rfl, ⟨(by show 3 ≤ sizeLine; rw [sizeLine_eq]; decide), fun p0 hp0 => ?_⟩⟩⟩⟩
  have T1 := same_upd (o := HO.lst [.bl b0, .bl b1, .bl b2]) hp0
  refine ⟨_, rfl, ?_⟩
  refine ⟨_, rfl, a, D, d, fs, _, _, b3, rfl, X0, T1 _ _ ha, T1 _ _ hd, .own C3, bs19 hm (i := 3) rfl rfl, ⟨_, rfl, a, D, d, fs, _, _, b4, rfl, X0, T1 _ _ ha, T1 _ _ hd, .own C4, bs19 hm (i := 4) rfl rfl, ⟨_, rfl, a, D, d, fs, _, _, b5, rfl, X0, T1 _ _ ha, T1 _ _ hd, .own C5, bs19 hm (i := 5) rfl rfl, ⟨_, rfl, a, D, d, fs, _, _, b6, rfl, X0, T1 _ _ ha, T1 _ _ hd, .own C6, bs19 hm (i := 6) rfl rfl, ⟨(by show 4 ≤ sizeLine; rw [sizeLine_eq]; decide), fun p1 hp1 => ?_⟩⟩⟩⟩⟩
  have U1 := T1.trans (same_upd (o := HO.lst [.bl b3, .bl b4, .bl b5, .bl b6]) hp1)
  refine ⟨p0, p1, _, _, rfl, rfl, same_upd hp1 _ _ upd_same, upd_same, (by show 3 + 4 ≤ sizeLine; rw [sizeLine_eq]; decide), fun q1 hq1 => ?_⟩
  have T2 := U1.trans (same_upd (o := HO.lst [.bl b0, .bl b1, .bl b2, .bl b3, .bl b4, .bl b5, .bl b6]) hq1)
  refine ⟨_, rfl, ?_⟩
  refine ⟨_, rfl, a, D, d, fs, _, _, b7, rfl, X0, T2 _ _ ha, T2 _ _ hd, .own C7, bs19 hm (i := 7) rfl rfl, ⟨_, rfl, a, D, d, fs, _, _, b8, rfl, X0, T2 _ _ ha, T2 _ _ hd, .own C8, bs19 hm (i := 8) rfl rfl, ⟨_, rfl, a, D, d, fs, _, _, b9, rfl, X0, T2 _ _ ha, T2 _ _ hd, .own C9, bs19 hm (i := 9) rfl rfl, ⟨(by show 3 ≤ sizeLine; rw [sizeLine_eq]; decide), fun p2 hp2 => ?_⟩⟩⟩⟩
  have U2 := T2.trans (same_upd (o := HO.lst [.bl b7, .bl b8, .bl b9]) hp2)
  refine ⟨q1, p2, _, _, rfl, rfl, same_upd hp2 _ _ upd_same, upd_same, (by show 7 + 3 ≤ sizeLine; rw [sizeLine_eq]; decide), fun q2 hq2 => ?_⟩
  have T3 := U2.trans (same_upd (o := HO.lst [.bl b0, .bl b1, .bl b2, .bl b3, .bl b4, .bl b5, .bl b6, .bl b7, .bl b8, .bl b9]) hq2)
  refine ⟨_, rfl, ?_⟩
  refine ⟨_, rfl, a, D, d, fs, _, _, b10, rfl, X0, T3 _ _ ha, T3 _ _ hd, .own C10, bs19 hm (i := 10) rfl rfl, ⟨_, rfl, a, D, d, fs, _, _, b11, rfl, X0, T3 _ _ ha, T3 _ _ hd, .own C11, bs19 hm (i := 11) rfl rfl, ⟨_, rfl, a, D, d, fs, _, _, b12, rfl, X0, T3 _ _ ha, T3 _ _ hd, .own C12, bs19 hm (i := 12) rfl rfl, ⟨(by show 3 ≤ sizeLine; rw [sizeLine_eq]; decide), fun p3 hp3 => ?_⟩⟩⟩⟩
  have U3 := T3.trans (same_upd (o := HO.lst [.bl b10, .bl b11, .bl b12]) hp3)
  refine ⟨q2, p3, _, _, rfl, rfl, same_upd hp3 _ _ upd_same, upd_same, (by show 10 + 3 ≤ sizeLine; rw [sizeLine_eq]; decide), fun q3 hq3 => ?_⟩
  have T4 := U3.trans (same_upd (o := HO.lst [.bl b0, .bl b1, .bl b2, .bl b3, .bl b4, .bl b5, .bl b6, .bl b7, .bl b8, .bl b9, .bl b10, .bl b11, .bl b12]) hq3)
  refine ⟨_, rfl, ?_⟩
  refine ⟨_, rfl, a, D, d, fs, _, _, b13, rfl, X0, T4 _ _ ha, T4 _ _ hd, .own C13, bs19 hm (i := 13) rfl rfl, ⟨_, rfl, a, D, d, fs, _, _, b14, rfl, X0, T4 _ _ ha, T4 _ _ hd, .own C14, bs19 hm (i := 14) rfl rfl, ⟨_, rfl, a, D, d, fs, _, _, b15, rfl, X0, T4 _ _ ha, T4 _ _ hd, .own C15, bs19 hm (i := 15) rfl rfl, ⟨(by show 3 ≤ sizeLine; rw [sizeLine_eq]; decide), fun p4 hp4 => ?_⟩⟩⟩⟩
  have U4 := T4.trans (same_upd (o := HO.lst [.bl b13, .bl b14, .bl b15]) hp4)
  refine ⟨q3, p4, _, _, rfl, rfl, same_upd hp4 _ _ upd_same, upd_same, (by show 13 + 3 ≤ sizeLine; rw [sizeLine_eq]; decide), fun q4 hq4 => ?_⟩
  have T5 := U4.trans (same_upd (o := HO.lst [.bl b0, .bl b1, .bl b2, .bl b3, .bl b4, .bl b5, .bl b6, .bl b7, .bl b8, .bl b9, .bl b10, .bl b11, .bl b12, .bl b13, .bl b14, .bl b15]) hq4)
  refine ⟨_, rfl, ?_⟩
  refine ⟨_, rfl, a, D, d, fs, _, _, b16, rfl, X0, T5 _ _ ha, T5 _ _ hd, .own C16, bs19 hm (i := 16) rfl rfl, ⟨_, rfl, a, D, d, fs, _, _, b17, rfl, X0, T5 _ _ ha, T5 _ _ hd, .own C17, bs19 hm (i := 17) rfl rfl, ⟨_, rfl, a, D, d, fs, _, _, b18, rfl, X0, T5 _ _ ha, T5 _ _ hd, .own C18, bs19 hm (i := 18) rfl rfl, ⟨(by show 3 ≤ sizeLine; rw [sizeLine_eq]; decide), fun p5 hp5 => ?_⟩⟩⟩⟩
  have U5 := T5.trans (same_upd (o := HO.lst [.bl b16, .bl b17, .bl b18]) hp5)
  refine ⟨q4, p5, _, _, rfl, rfl, same_upd hp5 _ _ upd_same, upd_same, (by show 16 + 3 ≤ sizeLine; rw [sizeLine_eq]; decide), fun q5 hq5 => ?_⟩
  have T6 := U5.trans (same_upd (o := HO.lst [.bl b0, .bl b1, .bl b2, .bl b3, .bl b4, .bl b5, .bl b6, .bl b7, .bl b8, .bl b9, .bl b10, .bl b11, .bl b12, .bl b13, .bl b14, .bl b15, .bl b16, .bl b17, .bl b18]) hq5)
  refine ⟨_, rfl, q5, rfl, ⟨_, SqL.of upd_same⟩, fun D1 hD => ?_⟩
  refine lc_trues (L := [b0, b1, b2, b3, b4, b5, b6, b7, b8, b9, b10, b11, b12, b13, b14, b15, b16, b17, b18]) upd_same hD (by show 19 ≤ 1000; decide) fun H' s1 hD' => ?_
  refine ⟨D1, _, rfl, .inl (SqL.of hD'), rfl, _, rfl, ?_⟩
  rw [List.length_map, hc]
  refine iteT ?_
  have sF := T6.trans s1
  refine ⟨_, rfl, a, D, d, fs, _, _, true, rfl, X0, sF _ _ ha, sF _ _ hd, .own C18, bs19 hm (i := 18) rfl h18, true, rfl, ?_⟩
  refine iteT ?_
  exact ⟨_, rfl, a, D, d, fs, _, _, true, rfl, X0, sF _ _ ha, sF _ _ hd, .ty "ValueError", hv, k _ sF⟩
end
/-! ### _law_text -/
def chW (c : Nat) : V := .str (SX.S [c])
theorem joinW0 : ∀ ps : List (List Nat), TL.joinL [] ps = ps.flatten
  | [] => rfl
  | [p] => by simp [TL.joinL]
  | p :: q :: r => by
    show p ++ ([] ++ TL.joinL [] (q :: r)) = _
    rw [joinW0 (q :: r)]
    simp
theorem flat1 : ∀ r : List Nat, (r.map fun c => [c]).flatten = r
  | [] => rfl
  | c :: r => by rw [List.map_cons, List.flatten_cons, flat1 r]; rfl
theorem sum1 : ∀ r : List Nat, ((r.map fun c => SX.S [c]).map fun z => z.length).sum = r.length
  | [] => rfl
  | c :: r => by rw [List.map_cons, List.map_cons, List.sum_cons, sum1 r, SX.S_len]; exact Nat.add_comm 1 r.length
def spText : Sp := fun vs H Q _ => ∃ (b g l : Addr) (n : Nat) (cs : List Nat), vs = [.ref b, .ref l, .int n] ∧ n ≤ 100 ∧ BagAt H b g ∧ l ≠ b ∧ H l = some (.lst (cs.map chW)) ∧ cs ≠ [] ∧ cs.length ≤ 100 ∧
  ∀ (r : List Nat) H', r.length ≤ n → BagAt H' b g → Keep b H H' → Q (.str (SX.S r)) H'
def tTextE (K : PySem.W.Frag) : TE := tOp (rIxL K) (tVar 1) (tCall spTake [] E0 (tCons (tVar 0) (tCons (tCB (fun xs H Q => ∃ p ys, xs = [.ref p] ∧ (SqL K H p ys ∨ SqT K H p ys) ∧ Q (.int ys.length) H) (tCons (tVar 1) tNil)) tNil)))
section
variable {P : Program} {w : World} {K : PySem.W.Frag} {mg : Str → Option Value} {base : Heap}
abbrev sText : Stmt := top 66
theorem scText : FnScope ["_law_bag_here", "_law_letters", "_law_long", "_law_k"] ["_law_bag_here", "_law_letters", "_law_long"] (defScope sText) := ⟨rfl, rfl, rfl, by decide +kernel, rfl, by decide +kernel, by decide +kernel⟩
theorem ok_text {f fT : Addr} {fd fdT : FuncData} (F : Fun K "_law_text" "_law_text" sText f fd) (aT : At K mg "_law_take" fT) (mR : mg "range" = none) (mL : mg "len" = none)
    (GT : FnOk P w K mg base CX0 1 fT fdT ["_law_bag_here", "_law_size"] spTake) (bT : Binds K fdT ["_law_bag_here", "_law_size"] []) : FnOk P w K mg base CX0 2 f fd ["_law_bag_here", "_law_letters", "_law_long"] spText := by
  refine F.ok scText (fun vs H Q E h => by obtain ⟨b, g, l, n, cs, rfl, _⟩ := h; rfl) (fun cdv A outer s H vs Q E hr h => ?_)
  obtain ⟨b, g, l, n, cs, rfl, hn, B, lb, hl, hne, hcl, k⟩ := h
  have nd := scText.nd
  refine ⟨_, pss_one (ps_ret (pe_join pe_str (pe_lc (own := [("_law_k", 3)]) (g := gName 3) (tt := tYes) (te := tTextE K) rfl nd (pi_range1 (by rfl) mR (pa_cons (pe_call GT hr (by rfl) aT.g aT.k bT .nil pass0 (pa_cons (pv 0) (pa_cons (pe_op op_add (pv 2) pe_int) pa_nil))) pa_nil))
      (blkOk_by (N := ["_law_bag_here", "_law_letters", "_law_long", "_law_k"]) (sc := defScope sText) (by decide +kernel))
      (fun _ _ _ _ _ => pg_name (i := 3) nd rfl (Or.inl rfl)) (fun _ _ _ _ _ => pts_nil)
      (fun _ _ _ _ _ => by exact pe_ix ix_list (pv 1) (pe_call GT hr (by rfl) aT.g aT.k bT .nil pass0 (pa_cons (pv 0) (pa_cons (pe_callB call_len_seq (by rfl) mL PySem.boot_len (pa_cons (pv 1) pa_nil)) pa_nil))) (fun _ _ => rfl))))), ?_⟩
  have hpos : 0 < cs.length := List.length_pos_iff.mpr hne
  have hlen : (cs.map chW).length = cs.length := List.length_map _
  have hz : (sizeLine : Nat) = 16777216 := sizeLine_eq
  refine ⟨⟨_, rfl⟩, _, rfl, _, rfl, _, _, rfl, rfl, b, g, _, rfl, by omega, by omega, B, fun d1 H1 d1a d1b B1 k1 => ?_⟩
  refine ⟨d1, rfl, by omega, by omega, fun D hD => ?_⟩
  have Db : D ≠ b := B1.ne hD
  have Dg : D ≠ g := B1.nl hD
  refine lc_range (lo := 0) (n := d1.toNat) (fun i H' => ∃ r : List Nat, r.length = i ∧ H' D = some (.lst (r.map chW)) ∧ BagAt H' b g ∧ Keep b H1 H') ⟨[], rfl, upd_same, B1.up Db Dg, fun a o e _ => (upd_ne (ne_of_none e hD)).trans e⟩ ?_ ?_
  · rintro i H' hi ⟨r, hr', hD', B', k'⟩
    refine ⟨rfl, _, rfl, _, rfl, _, rfl, l, _, rfl, .inl (SqL.of (k' _ _ (k1 _ _ hl lb) lb)), b, g, _, rfl, by rw [hlen]; omega, by rw [hlen]; omega, B', fun d3 H3 d3a d3b B3 k3 => ?_⟩
    obtain ⟨v, hv, vin⟩ := atI_in d3a d3b
    obtain ⟨c, hc, rfl⟩ := List.mem_map.mp vin
    refine ⟨l, _, d3, _, rfl, rfl, SqL.of (k3 _ _ (k' _ _ (k1 _ _ hl lb) lb) lb), hv, ?_⟩
    have hD3 := k3 _ _ hD' Db
    refine ⟨_, hD3, by rw [List.length_map]; omega, r ++ [c], by rw [List.length_append, hr']; rfl, ?_, B3.up Db Dg, ?_⟩
    · rw [upd_same, List.map_append]
      rfl
    · intro a o e hb
      have aD : a ≠ D := fun z => by rw [z, hD] at e; cases e
      exact (upd_ne aD).trans (k3 _ _ (k' _ _ e hb) hb)
  · rintro H' ⟨r, hr', hD', B', k'⟩
    refine ⟨"", D, r.map (fun c => SX.S [c]), rfl, rfl, .inl (SqL.of ?_), ?_, ?_⟩
    · rw [List.map_map]
      exact hD'
    · rw [sum1, List.length_map]
      show _ + _ * 0 ≤ _
      omega
    · have ej : Txt.join (Str.ofString "") (r.map fun c => SX.S [c]) = SX.S r := by
        have := SX.join_S [] (r.map fun c => [c])
        rw [List.map_map, joinW0, flat1] at this
        exact this
      have q := k r H' (by omega) B' (k1.trans k')
      rw [ej]
      exact q
end
namespace RT
section
variable {P : Program} {w : World} {K : PySem.W.Frag} {mg : Str → Option Value} {base : Heap}
/-! ### Ratio.__init__ -/
/-- the common divisor, with the bottom's sign -/
def cmn (m n : Int) : Int := if n < 0 then -((Nat.gcd m.natAbs n.natAbs : Nat) : Int) else ((Nat.gcd m.natAbs n.natAbs : Nat) : Int)
theorem cmn_ne {m n : Int} (h : n ≠ 0) : cmn m n ≠ 0 := by
  have z : 0 < Nat.gcd m.natAbs n.natAbs := Nat.gcd_pos_of_pos_right _ (by omega)
  unfold cmn
  split <;> omega
theorem cmn_lt {m n : Int} {b : Nat} (h : n ≠ 0) (hb : n.natAbs < 2 ^ b) : (cmn m n).natAbs < 2 ^ b := by
  have z : Nat.gcd m.natAbs n.natAbs ≤ n.natAbs := Nat.gcd_le_right _ (by omega)
  unfold cmn
  split <;> omega
theorem ne_tb : ¬ (("top" : Str) = "bottom") := by decide +kernel
/-- a ratio's fields -/
def rfl2 (a b : Int) : List (Str × V) := putF "bottom" (.int b) (putF "top" (.int a) [])
theorem rfl2_top (a b : Int) : (rfl2 a b).lookup ("top" : Str) = some (.int a) := by
  unfold rfl2
  rw [lookup_putF, if_neg ne_tb, lookup_putF, if_pos rfl]
theorem rfl2_bottom (a b : Int) : (rfl2 a b).lookup ("bottom" : Str) = some (.int b) := by
  unfold rfl2
  rw [lookup_putF, if_pos rfl]
theorem rfl2_no (a b : Int) {m : Str} (h1 : ¬ m = "bottom") (h2 : ¬ m = "top") : (rfl2 a b).lookup m = none := by
  unfold rfl2
  rw [lookup_putF, if_neg h1, lookup_putF, if_neg h2]
  all_goals rfl
def spInit (K : PySem.W.Frag) (C CI : Addr) : Sp := fun vs H Q E => ∃ (p dx : Addr) (t u : V) (i b j c : Bool), vs = [.ref p, t, u] ∧ H p = some (.ins C dx []) ∧ Kd K H t i b ∧ Kd K H u j c ∧
  ((i && !b) = false → ∀ d, H d = none → E (.ref CI) (some d) (upd H d (.xd [("value", t)]))) ∧
  ((i && !b) = true → (j && !c) = false → ∀ d, H d = none → E (.ref CI) (some d) (upd H d (.xd [("value", u)]))) ∧
  ((i && !b) = true → (j && !c) = true → ∃ m n : Int, t = .int m ∧ u = .int n ∧ n.natAbs < 2 ^ 900 ∧ (n = 0 → ∀ d, H d = none → E (.ref CI) (some d) (upd H d (.xd [("value", u)]))) ∧
    (n ≠ 0 → Q .non (upd H p (.ins C dx (rfl2 (m.fdiv (cmn m n)) (n.fdiv (cmn m n)))))))
/-- what is asked of the text around Ratio -/
structure TxR (K : PySem.W.Frag) (mg : Str → Option Value) (C CI fE fW : Addr) : Prop where
  cl : Cls K C
  nT : NoAttr K C "top"
  nB : NoAttr K C "bottom"
  mgC : mg "Ratio" = some (.ref C)
  err : ErrC K mg "InvalidNumber" CI fE
  mgW : mg "is_whole" = some (.ref fW)
  kW : PySem.W.keepIn K (.ref fW) = true
  mgG : mg "gcd" = some (.builtin "math.gcd")
abbrev sInit : Stmt := inClass (top 53) 1
theorem scInit : FnScope ["self", "top", "bottom", "common"] ["self", "top", "bottom"] (defScope sInit) := ⟨rfl, rfl, rfl, by decide +kernel, rfl, by decide +kernel, by decide +kernel⟩
theorem ok_init {f C CI fE fW : Addr} {fd fdE fdW : FuncData} (F : FunD K "__init__" "Ratio.__init__" (defArgs sInit) (defBody sInit) (defScope sInit) [.int 1] [] f fd) (T : TxR K mg C CI fE fW)
    (GE : FnOk P w K mg base CX0 1 fE fdE ["self", "value"] (spEx1 CI "value")) (bE : Binds K fdE ["self", "value"] []) (GW : FnOk P w K mg base CX0 1 fW fdW ["value"] (spWhole K)) (bW : Binds K fdW ["value"] []) : FnOk P w K mg base (L2.CX P w) 3 f fd ["self", "top", "bottom"] (spInit K C CI) := by
  refine F.ok scInit (fun vs H Q E h => ?_) (fun cdv A outer s H vs Q E hr h => ?_)
  · obtain ⟨p, dx, t, u, i, b, j, c, rfl, _⟩ := h
    rfl
  · obtain ⟨p, dx, t, u, i, b, j, c, rfl, hp, kt, ku, e1, e2, e3⟩ := h
    have hr1 : Room 1 _ := hr.mono (by decide)
    refine ⟨_, pss_cons (ps_if (pt_not (pt_val (pe_call GW hr1 (by rfl) T.mgW T.kW bW .nil pass0 (pa_cons (pv 1) pa_nil)))) (pss_one (ps_raise1 T.err GE hr bE pass0 rfl (takes_of rfl rfl rfl rfl) (pv 1) (fun σ H P R h => mono_tVar σ H P R h))) pss_nil)
      (pss_cons (ps_if (PW.pt (pw_or (pt_not (pt_val (pe_call GW hr1 (by rfl) T.mgW T.kW bW .nil pass0 (pa_cons (pv 2) pa_nil)))) (pw_or1 (pt_cmpR op_eq (pv 2) pe_int (nomark _))))) (pss_one (ps_raise1 T.err GE hr bE pass0 rfl (takes_of rfl rfl rfl rfl) (pv 2) (fun σ H P R h => mono_tVar σ H P R h))) pss_nil)
      (pss_cons (ps_set (i := 3) scInit.nd rfl (Or.inl rfl) (pe_callBfun cr_gcd (by rfl) T.mgG (pa_cons (pv 1) (pa_cons (pv 2) pa_nil))))
      (C8.pss_cut (ps_if (pt_cmpR op_lt (pv 2) pe_int (nomark _)) (pss_one (ps_set (i := 3) scInit.nd rfl (Or.inl rfl) (pe_un un_neg (pv 3)))) pss_nil)
      (pss_cons (ps_fld (pv 0) (pe_op op_fdivX (pv 1) (pv 3)) rfl)
      (pss_one (ps_fld (pv 0) (pe_op op_fdivX (pv 2) (pv 3)) rfl)))))), ?_⟩
    refine ⟨_, rfl, t, i, b, rfl, kt, _, rfl, ?_⟩
    cases hi : (i && !b) with
    | false => exact iteT ⟨_, rfl, fun d hd => e1 hi d hd⟩
    | true =>
      refine iteF ⟨_, rfl, u, j, c, rfl, ku, _, rfl, ?_⟩
      cases hj : (j && !c) with
      | false => exact iteT (iteT ⟨_, rfl, fun d hd => e2 hi hj d hd⟩)
      | true =>
        obtain ⟨m, n, rfl, rfl, hn, k0, k1⟩ := e3 hi hj
        refine iteF ⟨_, rfl, rfl, _, rfl, ?_⟩
        rw [dec_int]
        by_cases n0 : n = 0
        · rw [show (n == 0) = true from beq_iff_eq.mpr n0]
          exact iteT ⟨_, rfl, fun d hd => k0 n0 d hd⟩
        · rw [show (n == 0) = false from beq_eq_false_iff_ne.mpr n0]
          refine iteF ⟨_, rfl, _, rfl, m, n, rfl, ?_⟩
          refine ⟨fun σ' H' => H' = H ∧ σ' = [some (.ref p), some (.int m), some (.int n), some (.int (cmn m n))], ?_, ?_⟩
          · refine ⟨_, rfl, _, _, rfl, rfl, _, rfl, ?_⟩
            refine ite2 (fun h0 => ?_) (fun h0 => ?_)
            · refine ⟨_, rfl, _, rfl, rfl, ?_⟩
              unfold cmn
              rw [if_pos (of_decide_eq_true h0)]
              rfl
            · refine ⟨rfl, ?_⟩
              unfold cmn
              rw [if_neg (fun z => h0 (decide_eq_true z))]
              rfl
          · rintro σ' H' ⟨rfl, rfl⟩
            have cn := cmn_ne (m := m) n0
            have cw := cmn_lt (m := m) n0 hn
            refine ⟨_, rfl, _, rfl, _, _, rfl, rfl, divx cn cw (by decide) (by decide), _, rfl, p, C, dx, _, rfl, hp, T.cl, T.nT, (by show 0 < 1000; decide), ?_⟩
            refine ⟨_, rfl, _, rfl, _, _, rfl, rfl, divx cn cw (by decide) (by decide), _, rfl, p, C, dx, _, rfl, upd_same, T.cl, T.nB, (by show 1 < 1000; decide), ?_⟩
            have q := k1 n0
            show Q .non _
            rw [upd_upd]
            exact q
end
structure TxM (K : PySem.W.Frag) (mg : Str → Option Value) (C : Addr) : Prop where
  cl : Cls K C
  nT : NoAttr K C "top"
  nB : NoAttr K C "bottom"
  mgC : mg "Ratio" = some (.ref C)
  ic : C8.InsC K C
  nI : PySem.W.kitOne K (.type "int") (.ref C) = some false
  isi : mg "isinstance" = none
theorem TxM.ty {K : PySem.W.Frag} {mg : Str → Option Value} {C : Addr} (T : TxM K mg C) {H : Hp} {p dx : Addr} {fs : List (Str × V)} (h : H p = some (.ins C dx fs)) : TyX K H (.ref p) (.ref C) := .base (.ins h T.cl T.ic.ha T.ic.hn T.ic.htk T.ic.hm)
/-- two ratios of the same numbers -/
def REq (C : Addr) (a b : Addr) (H : Hp) : Prop := ∃ (dx dy : Addr) (m n : Int), H a = some (.ins C dx (rfl2 m n)) ∧ H b = some (.ins C dy (rfl2 m n))
theorem REq.ext {C a b : Addr} {H H' : Hp} (e : Ext H H') : REq C a b H → REq C a b H' := fun ⟨dx, dy, m, n, h1, h2⟩ => ⟨dx, dy, m, n, e _ _ h1, e _ _ h2⟩
def spEqR (C : Addr) : Sp := fun vs H Q _ => ∃ (p dx : Addr) (v : V) (a b : Int), vs = [.ref p, v] ∧ H p = some (.ins C dx (rfl2 a b)) ∧
  ((∃ i, v = .int i ∧ Q (.bl false) H) ∨ ∃ (q dy : Addr) (c d : Int), v = .ref q ∧ H q = some (.ins C dy (rfl2 c d)) ∧ Q (.bl (decide (a = c) && decide (b = d))) H)
section
variable {P : Program} {w : World} {K : PySem.W.Frag} {mg : Str → Option Value} {base : Heap}
abbrev sEqR : Stmt := inClass (top 53) 10
theorem scEqR : FnScope ["self", "other"] ["self", "other"] (defScope sEqR) := ⟨rfl, rfl, rfl, by decide +kernel, rfl, by decide +kernel, by decide +kernel⟩
theorem ok_eqR {f C : Addr} {fd : FuncData} (F : Fun K "__eq__" "Ratio.__eq__" sEqR f fd) (T : TxM K mg C) : FnOk P w K mg base CX0 1 f fd ["self", "other"] (spEqR C) := by
  refine F.ok scEqR (fun vs H Q E h => ?_) (fun cdv A outer s H vs Q E hr h => ?_)
  · obtain ⟨p, dx, v, a, b, rfl, _⟩ := h
    rfl
  · obtain ⟨p, dx, v, a, b, rfl, hp, t⟩ := h
    refine ⟨_, pss_one (ps_ret (pe_and (pe_callB call_isi (by rfl) T.isi (by decide +kernel) (pa_cons (pv 1) (pa_cons (pe_glob (v := .ref C) (by rfl) T.mgC rfl) pa_nil)))
      (pe_and (pe_cmpR op_eq (pe_fld (pv 0) rfl) (pe_fld (pv 1) rfl) (nomark _)) (pe_one (pe_cmpR op_eq (pe_fld (pv 0) rfl) (pe_fld (pv 1) rfl) (nomark _)))))), ?_⟩
    rcases t with ⟨i, rfl, k⟩ | ⟨q, dy, c, d, rfl, hq, k⟩
    · exact ⟨_, rfl, _, _, _, _, false, rfl, .own C, .base (.int i), T.nI, false, rfl, iteF k⟩
    · refine ⟨_, rfl, _, _, _, _, true, rfl, .own C, T.ty hq, T.ic.me, true, rfl, iteT ?_⟩
      refine ⟨_, rfl, p, C, dx, _, _, rfl, hp, T.cl, T.nT, rfl2_top _ _, _, rfl, q, C, dy, _, _, rfl, hq, T.cl, T.nT, rfl2_top _ _, rfl, _, rfl, ?_⟩
      rw [dec_int]
      by_cases e : a = c
      · rw [show (a == c) = true from beq_iff_eq.mpr e]
        rw [decide_eq_true e] at k
        refine iteT ⟨_, rfl, p, C, dx, _, _, rfl, hp, T.cl, T.nB, rfl2_bottom _ _, _, rfl, q, C, dy, _, _, rfl, hq, T.cl, T.nB, rfl2_bottom _ _, rfl, ?_⟩
        rw [dec_int]
        exact k
      · rw [show (a == c) = false from beq_eq_false_iff_ne.mpr e]
        rw [decide_eq_false e] at k
        exact iteF k
theorem ok_eq {f C : Addr} {fd : FuncData} (F : Fun K "__eq__" "Ratio.__eq__" sEqR f fd) (T : TxM K mg C) : FnOk P w K mg base CX0 1 f fd ["self", "other"] (spEq (REq C)) :=
  (ok_eqR F T).imp fun vs H Q E h => by
    obtain ⟨a, b, rfl, ⟨dx, dy, m, n, h1, h2⟩, k⟩ := h
    refine ⟨a, dx, .ref b, m, n, rfl, h1, .inr ⟨b, dy, m, n, rfl, h2, ?_⟩⟩
    rw [decide_eq_true rfl, decide_eq_true rfl]
    exact k _ (fun _ _ z => z)
end
theorem spInit_mono {K : PySem.W.Frag} {C CI : Addr} {vs : List V} {H : Hp} {Q R : VK} {E : XK} (h : ∀ v H, Q v H → R v H) : spInit K C CI vs H Q E → spInit K C CI vs H R E :=
  fun ⟨p, dx, t, u, i, b, j, c, e0, hp, kt, ku, e1, e2, e3⟩ => ⟨p, dx, t, u, i, b, j, c, e0, hp, kt, ku, e1, e2, fun x y => by
    obtain ⟨m, n, e4, e5, e6, e7, e8⟩ := e3 x y
    exact ⟨m, n, e4, e5, e6, e7, fun z => h _ _ (e8 z)⟩⟩
theorem made_same {H : Hp} {x dx C : Addr} {f1 f2 : List (Str × V)} (hx : H x = none) (hdx : H dx = none) : Same H (upd (upd (upd H dx (.own x)) x (.ins C dx f1)) x (.ins C dx f2)) := fun a o e => by
  rw [upd_ne (ne_of_none e hx), upd_ne (ne_of_none e hx), upd_ne (ne_of_none e hdx)]
  exact e
/-- a ratio of an integer -/
theorem mk_int {K : PySem.W.Frag} {C CI x dx : Addr} {H : Hp} {n : Int} {Q : VK} (k : Q .non (upd (upd (upd H dx (.own x)) x (.ins C dx [])) x (.ins C dx (rfl2 (n.fdiv (cmn n 1)) ((1 : Int).fdiv (cmn n 1)))))) : spInit K C CI [.ref x, .int n, .int 1] (upd (upd H dx (.own x)) x (.ins C dx [])) Q E0 :=
  ⟨x, dx, .int n, .int 1, true, false, true, false, rfl, upd_same, Kd.int, Kd.int, fun h => (by cases h), fun _ h => (by cases h), fun _ _ => ⟨n, 1, rfl, rfl, by decide, fun z => (by cases z), fun _ => k⟩⟩
def tRatL (K : PySem.W.Frag) (C CI : Addr) (i : Nat) : TE := tLst (tCons (tMake C (spInit K C CI) [.int 1] E0 (tCons (tVar i) tNil)) tNil)
theorem mono_ratL {K : PySem.W.Frag} {C CI : Addr} {i : Nat} (σ : L2.St) (H : Hp) (P R : V → Hp → Prop) (h : ∀ v H, P v H → R v H) : tRatL K C CI i σ H P → tRatL K C CI i σ H R := fun ⟨v, e, k⟩ =>
  ⟨v, e, fun x dx hx hdx ne => spInit_mono (fun v' H' q => ⟨q.1, q.2.1, fun p hp => h _ _ (q.2.2 p hp)⟩) (k x dx hx hdx ne)⟩
end RT
theorem RT.pss_no {X : Cx} {body : List Stmt} : PSs X body (fun _ _ _ => False) := ⟨fun _ _ _ _ _ _ h => h.elim⟩
/-! ### a ratio made and compared in an except suite -/
namespace RT
section
variable {P : Program} {w : World} {K : PySem.W.Frag} {mg : Str → Option Value} {base : Heap}
theorem ok_wholeH {f : Addr} {fd : FuncData} (F : Fun K "is_whole" "is_whole" sWhole f fd) (mIs : mg "isinstance" = none) (mI : mg "int" = none) (mB : mg "bool" = none) : L2H.FnH P w K mg base CX0 1 f fd ["value"] (spWhole K) := by
  refine HQ.okH F scWhole (fun vs H Q E h => ?_) (fun cdv A outer s H vs Q E pn hot hr h => ?_)
  · obtain ⟨v, i, b, rfl, _⟩ := h
    rfl
  · obtain ⟨v, i, b, rfl, ⟨T, ty, k1, k2⟩, k⟩ := h
    refine ⟨_, pss_one (ps_ret (pe_and (pe_callB call_isi (by rfl) mIs (by decide +kernel) (pa_cons (pv 0) (pa_cons (pe_bltn (v := .ty "int") (by rfl) mI (by decide +kernel) rfl) pa_nil)))
      (pe_one (pe_not (pe_callB call_isi (by rfl) mIs (by decide +kernel) (pa_cons (pv 0) (pa_cons (pe_bltn (v := .ty "bool") (by rfl) mB (by decide +kernel) rfl) pa_nil))))))), ?_⟩
    refine ⟨_, rfl, _, _, _, _, i, rfl, .ty "int", ty, kit_ty k1, i, rfl, ?_⟩
    cases i with
    | false => exact iteF k
    | true =>
      refine iteT ?_
      exact ⟨_, rfl, _, _, _, _, b, rfl, .ty "bool", ty, kit_ty k2, b, rfl, k⟩
theorem ok_eqRH {f C : Addr} {fd : FuncData} (F : Fun K "__eq__" "Ratio.__eq__" sEqR f fd) (T : TxM K mg C) : L2H.FnH P w K mg base CX0 1 f fd ["self", "other"] (spEqR C) := by
  refine HQ.okH F scEqR (fun vs H Q E h => ?_) (fun cdv A outer s H vs Q E pn hot hr h => ?_)
  · obtain ⟨p, dx, v, a, b, rfl, _⟩ := h
    rfl
  · obtain ⟨p, dx, v, a, b, rfl, hp, t⟩ := h
    refine ⟨_, pss_one (ps_ret (pe_and (pe_callB call_isi (by rfl) T.isi (by decide +kernel) (pa_cons (pv 1) (pa_cons (pe_glob (v := .ref C) (by rfl) T.mgC rfl) pa_nil)))
      (pe_and (pe_cmpR op_eq (pe_fld (pv 0) rfl) (pe_fld (pv 1) rfl) (nomark _)) (pe_one (pe_cmpR op_eq (pe_fld (pv 0) rfl) (pe_fld (pv 1) rfl) (nomark _)))))), ?_⟩
    rcases t with ⟨i, rfl, k⟩ | ⟨q, dy, c, d, rfl, hq, k⟩
    · exact ⟨_, rfl, _, _, _, _, false, rfl, .own C, .base (.int i), T.nI, false, rfl, iteF k⟩
    · refine ⟨_, rfl, _, _, _, _, true, rfl, .own C, T.ty hq, T.ic.me, true, rfl, iteT ?_⟩
      refine ⟨_, rfl, p, C, dx, _, _, rfl, hp, T.cl, T.nT, rfl2_top _ _, _, rfl, q, C, dy, _, _, rfl, hq, T.cl, T.nT, rfl2_top _ _, rfl, _, rfl, ?_⟩
      rw [dec_int]
      by_cases e : a = c
      · rw [show (a == c) = true from beq_iff_eq.mpr e]
        rw [decide_eq_true e] at k
        refine iteT ⟨_, rfl, p, C, dx, _, _, rfl, hp, T.cl, T.nB, rfl2_bottom _ _, _, rfl, q, C, dy, _, _, rfl, hq, T.cl, T.nB, rfl2_bottom _ _, rfl, ?_⟩
        rw [dec_int]
        exact k
      · rw [show (a == c) = false from beq_eq_false_iff_ne.mpr e]
        rw [decide_eq_false e] at k
        exact iteF k
theorem ok_eqH {f C : Addr} {fd : FuncData} (F : Fun K "__eq__" "Ratio.__eq__" sEqR f fd) (T : TxM K mg C) : L2H.FnH P w K mg base CX0 1 f fd ["self", "other"] (spEq (REq C)) := by
  have G := ok_eqRH (P := P) (w := w) (base := base) F T
  have imp : ∀ vs H Q E, spEq (REq C) vs H Q E → spEqR C vs H Q E := fun vs H Q E h => by
    obtain ⟨a, b, rfl, ⟨dx, dy, m, n, h1, h2⟩, k⟩ := h
    refine ⟨a, dx, .ref b, m, n, rfl, h1, .inr ⟨b, dy, m, n, rfl, h2, ?_⟩⟩
    rw [decide_eq_true rfl, decide_eq_true rfl]
    exact k _ (fun _ _ z => z)
  exact ⟨fun vs H Q E q => G.len vs H Q E (imp _ _ _ _ q), fun A outer s H args us vs Q E p hr hot hp he hb hv hs => G.run A outer s H args us vs Q E p hr hot hp he hb hv (imp _ _ _ _ hs)⟩
def spInitI (C : Addr) : Sp := fun vs H Q _ => ∃ (p dx : Addr) (m : Int), vs = [.ref p, .int m, .int 1] ∧ H p = some (.ins C dx []) ∧ Q .non (upd H p (.ins C dx (rfl2 (m.fdiv (cmn m 1)) ((1 : Int).fdiv (cmn m 1)))))
theorem ok_initH {f C CI fE fW : Addr} {fd fdW : FuncData} (F : FunD K "__init__" "Ratio.__init__" (defArgs sInit) (defBody sInit) (defScope sInit) [.int 1] [] f fd) (T : TxR K mg C CI fE fW)
    (GW : L2H.FnH P w K mg base CX0 1 fW fdW ["value"] (spWhole K)) (bW : Binds K fdW ["value"] []) : L2H.FnH P w K mg base CX0 3 f fd ["self", "top", "bottom"] (spInitI C) := by
  refine HQ.okDH F scInit (fun vs H Q E h => by obtain ⟨p, dx, m, rfl, _⟩ := h; rfl) (fun cdv A outer s H vs Q E pn hot hr h => ?_)
  obtain ⟨p, dx, m, rfl, hp, k1⟩ := h
  have hr1 := hr.mono (j := 1) (by decide)
  have hc : L2H.HotC (L2H.cxH CX0 P w K mg base ["self", "top", "bottom", "common"] "Ratio.__init__" (defScope sInit) f cdv A outer s H E pn) := ⟨pn, ⟨hot.1, hot.2⟩, List.mem_cons_self⟩
  refine ⟨_, pss_cons (ps_if (pt_not (pt_val (L2H.pe_callH (E := fun _ => E0) GW hr1 hc (by rfl) T.mgW T.kW bW (fun _ _ _ _ _ _ _ z => z.elim) (pa_cons (pv 1) pa_nil)))) pss_no pss_nil)
      (pss_cons (ps_if (PW.pt (pw_or (pt_not (pt_val (L2H.pe_callH (E := fun _ => E0) GW hr1 hc (by rfl) T.mgW T.kW bW (fun _ _ _ _ _ _ _ z => z.elim) (pa_cons (pv 2) pa_nil)))) (pw_or1 (pt_cmpR op_eq (pv 2) pe_int (nomark _))))) pss_no pss_nil)
      (pss_cons (ps_set (i := 3) scInit.nd rfl (Or.inl rfl) (pe_callBfun cr_gcd (by rfl) T.mgG (pa_cons (pv 1) (pa_cons (pv 2) pa_nil))))
      (C8.pss_cut (ps_if (pt_cmpR op_lt (pv 2) pe_int (nomark _)) (pss_one (ps_set (i := 3) scInit.nd rfl (Or.inl rfl) (pe_un un_neg (pv 3)))) pss_nil)
      (pss_cons (ps_fld (pv 0) (pe_op op_fdivX (pv 1) (pv 3)) rfl)
      (pss_one (ps_fld (pv 0) (pe_op op_fdivX (pv 2) (pv 3)) rfl)))))), ?_⟩
  refine ⟨_, rfl, .int m, true, false, rfl, Kd.int, _, rfl, iteF ⟨_, rfl, .int 1, true, false, rfl, Kd.int, _, rfl, iteF ⟨_, rfl, rfl, _, rfl, ?_⟩⟩⟩
  rw [dec_int]
  refine iteF ⟨_, rfl, _, rfl, m, 1, rfl, ?_⟩
  refine ⟨fun σ' H' => H' = H ∧ σ' = [some (.ref p), some (.int m), some (.int 1), some (.int (cmn m 1))], ?_, ?_⟩
  · refine ⟨_, rfl, _, _, rfl, rfl, _, rfl, ?_⟩
    exact iteF ⟨rfl, rfl⟩
  · rintro σ' H' ⟨rfl, rfl⟩
    have n0 : (1 : Int) ≠ 0 := by decide
    have cn := cmn_ne (m := m) n0
    have cw := cmn_lt (m := m) n0 (b := 900) (by decide)
    refine ⟨_, rfl, _, rfl, _, _, rfl, rfl, divx cn cw (by decide) (by decide), _, rfl, p, C, dx, _, rfl, hp, T.cl, T.nT, (by show 0 < 1000; decide), ?_⟩
    refine ⟨_, rfl, _, rfl, _, _, rfl, rfl, divx cn cw (by decide) (by decide), _, rfl, p, C, dx, _, rfl, upd_same, T.cl, T.nB, (by show 1 < 1000; decide), ?_⟩
    show Q .non _
    rw [upd_upd]
    exact k1
end
end RT
/-! ### the law's tries, with a list of ratios -/
section
variable {P : Program} {w : World} {K : PySem.W.Frag} {mg : Str → Option Value} {base : Heap}
abbrev sPla : Stmt := top 68
theorem scsPla : FnScope ["_law_way", "_law_number", "_law_word", "_law_e"] ["_law_way", "_law_number", "_law_word"] (defScope sPla) := ⟨rfl, rfl, rfl, by decide +kernel, rfl, by decide +kernel, by decide +kernel⟩
theorem ok_sPla {f C6 f6 C7 f7 C8 f8 C9 f9 C10 f10 C11 f11 CR fQ CI fEq : Addr} {fd fd6 fd7 fd8 fd9 fd10 fd11 fdQ fdEq   : FuncData} {dsQ : List Value} (F : Fun K "_law_places" "_law_places" sPla f fd)
    (e6 : ErrC K mg "DeedRefused" C6 f6) (x6 : XfC K C6) (n6index : PySem.W.findIn K (.ref C6) "index" = some none) (G6 : FnOk P w K mg base CX0 1 f6 fd6 ["self", "index"] (spEx1 C6 "index")) (b6 : Binds K fd6 ["self", "index"] [])
    (e7 : ErrC K mg "InvalidLine" C7 f7) (x7 : XfC K C7) (n7line : PySem.W.findIn K (.ref C7) "line" = some none) (G7 : FnOk P w K mg base CX0 1 f7 fd7 ["self", "line"] (spEx1 C7 "line")) (b7 : Binds K fd7 ["self", "line"] [])
    (e8 : ErrC K mg "UnknownLetter" C8 f8) (x8 : XfC K C8) (n8letter : PySem.W.findIn K (.ref C8) "letter" = some none) (n8index : PySem.W.findIn K (.ref C8) "index" = some none) (G8 : FnOk P w K mg base CX0 1 f8 fd8 ["self", "letter", "index"] (spEx2 C8 "letter" "index")) (b8 : Binds K fd8 ["self", "letter", "index"] [])
    (e9 : ErrC K mg "InvalidState" C9 f9) (x9 : XfC K C9) (n9number : PySem.W.findIn K (.ref C9) "number" = some none) (G9 : FnOk P w K mg base CX0 1 f9 fd9 ["self", "number"] (spEx1 C9 "number")) (b9 : Binds K fd9 ["self", "number"] [])
    (e10 : ErrC K mg "InvalidText" C10 f10) (x10 : XfC K C10) (n10index : PySem.W.findIn K (.ref C10) "index" = some none) (G10 : FnOk P w K mg base CX0 1 f10 fd10 ["self", "index"] (spEx1 C10 "index")) (b10 : Binds K fd10 ["self", "index"] [])
    (e11 : ErrC K mg "Contradiction" C11 f11) (x11 : XfC K C11) (n11combination : PySem.W.findIn K (.ref C11) "combination" = some none) (G11 : FnOk P w K mg base CX0 1 f11 fd11 ["self", "combination"] (spEx1 C11 "combination")) (b11 : Binds K fd11 ["self", "combination"] [])
    (s6_6 : PySem.W.exmOne K (.ref C6) (.ref C6) = some true)
    (s7_6 : PySem.W.exmOne K (.ref C7) (.ref C6) = some false) (s7_7 : PySem.W.exmOne K (.ref C7) (.ref C7) = some true)
    (s8_6 : PySem.W.exmOne K (.ref C8) (.ref C6) = some false) (s8_7 : PySem.W.exmOne K (.ref C8) (.ref C7) = some false) (s8_8 : PySem.W.exmOne K (.ref C8) (.ref C8) = some true)
    (s9_6 : PySem.W.exmOne K (.ref C9) (.ref C6) = some false) (s9_7 : PySem.W.exmOne K (.ref C9) (.ref C7) = some false) (s9_8 : PySem.W.exmOne K (.ref C9) (.ref C8) = some false) (s9_9 : PySem.W.exmOne K (.ref C9) (.ref C9) = some true)
    (s10_6 : PySem.W.exmOne K (.ref C10) (.ref C6) = some false) (s10_7 : PySem.W.exmOne K (.ref C10) (.ref C7) = some false) (s10_8 : PySem.W.exmOne K (.ref C10) (.ref C8) = some false) (s10_9 : PySem.W.exmOne K (.ref C10) (.ref C9) = some false) (s10_10 : PySem.W.exmOne K (.ref C10) (.ref C10) = some true)
    (s11_6 : PySem.W.exmOne K (.ref C11) (.ref C6) = some false) (s11_7 : PySem.W.exmOne K (.ref C11) (.ref C7) = some false) (s11_8 : PySem.W.exmOne K (.ref C11) (.ref C8) = some false) (s11_9 : PySem.W.exmOne K (.ref C11) (.ref C9) = some false) (s11_10 : PySem.W.exmOne K (.ref C11) (.ref C10) = some false) (s11_11 : PySem.W.exmOne K (.ref C11) (.ref C11) = some true)
    (MR : Mk K CR fQ) (mgR : mg "Ratio" = some (.ref CR)) (GQ : FnOk P w K mg base (L2.CX P w) 3 fQ fdQ ["self", "top", "bottom"] (RT.spInit K CR CI)) (bQ : Binds K fdQ ["self", "top", "bottom"] dsQ) (vQ : Vals [V.int 1] dsQ) (GQH : L2H.FnH P w K mg base CX0 3 fQ fdQ ["self", "top", "bottom"] (RT.spInitI CR)) (GEH : L2H.FnH P w K mg base CX0 1 fEq fdEq ["self", "other"] (spEq (RT.REq CR))) (hEq : PySem.W.findIn K (.ref CR) "__eq__" = some (some (.ref fEq))) (kEq : PySem.W.isFn K (.ref fEq) = true) (bEq : Binds K fdEq ["self", "other"] [])
    : FnOk P w K mg base CX0 5 f fd ["_law_way", "_law_number", "_law_word"] (spW 6 12) := by
  refine F.ok scsPla (fun vs H Q E h => by obtain ⟨way, n, z, rfl, _⟩ := h; rfl) (fun cdv A outer s H vs Q E hr h => ?_)
  obtain ⟨way, n, z, rfl, w0, w1, hz, k⟩ := h
  have nd := scsPla.nd
  have hr2 : Room 2 _ := hr.mono (by decide)
  refine ⟨_, pss_cons (ps_try_manyN rfl rfl nd (fun W pn xe tk _ => pss_cons (ps_if (pt_cmpR op_eq (pv 0) pe_int (nomark _)) (pss_one (by exact ps_raise1N e6 G6 hr2 b6 pass0 rfl tk (pv 1) (fun σ H P R h => mono_tVar σ H P R h))) pss_nil) (pss_cons (ps_if (pt_cmpR op_eq (pv 0) pe_int (nomark _)) (pss_one (by exact ps_raise1N e7 G7 hr2 b7 pass0 rfl tk (pv 1) (fun σ H P R h => mono_tVar σ H P R h))) pss_nil) (pss_cons (ps_if (pt_cmpR op_eq (pv 0) pe_int (nomark _)) (pss_one (by exact ps_raise2N e8 G8 hr2 b8 pass0 rfl tk (pv 2) (pv 1) (fun σ H P R h => mono_tVar σ H P R h) (fun σ H P R h => mono_tVar σ H P R h))) pss_nil) (pss_cons (ps_if (pt_cmpR op_eq (pv 0) pe_int (nomark _)) (pss_one (by exact ps_raise1N e9 G9 hr2 b9 pass0 rfl tk (pv 1) (fun σ H P R h => mono_tVar σ H P R h))) pss_nil) (pss_cons (ps_if (pt_cmpR op_eq (pv 0) pe_int (nomark _)) (pss_one (by exact ps_raise1N e10 G10 hr2 b10 pass0 rfl tk (pv 1) (fun σ H P R h => mono_tVar σ H P R h))) pss_nil) (pss_one (ps_if (pt_cmpR op_eq (pv 0) pe_int (nomark _)) (pss_one (by exact ps_raise1N e11 G11 hr2 b11 pass0 rfl tk (pe_lst (pa_cons (pe_make MR GQ ⟨hr.hd, hr.dp, hr.un⟩ (by rfl) mgR bQ vQ passL (pa_cons (pv 1) pa_nil)) pa_nil)) RT.mono_ratL)) pss_nil))))))) (HdsN.cons (i := 3) ⟨rfl, by decide, Or.inl e6.g⟩ rfl rfl (fun a oe cls d pn hz hf hc => pss_one (by exact (ps_ret (pe_and (pe_cmpR op_eq (pv 0) pe_int (nomark _)) (pe_one (pe_cmpR op_eq (pe_xf x6 n6index hz hf (pv 3)) (pv 1) (nomark _))))))) (HdsN.cons (i := 3) ⟨rfl, by decide, Or.inl e7.g⟩ rfl rfl (fun a oe cls d pn hz hf hc => pss_one (by exact (ps_ret (pe_and (pe_cmpR op_eq (pv 0) pe_int (nomark _)) (pe_one (pe_cmpR op_eq (pe_xf x7 n7line hz hf (pv 3)) (pv 1) (nomark _))))))) (HdsN.cons (i := 3) ⟨rfl, by decide, Or.inl e8.g⟩ rfl rfl (fun a oe cls d pn hz hf hc => pss_one (by exact (ps_ret (pe_and (pe_cmpR op_eq (pv 0) pe_int (nomark _)) (pe_and (pe_cmpR op_eq (pe_xf x8 n8letter hz hf (pv 3)) (pv 2) (nomark _)) (pe_one (pe_cmpR op_eq (pe_xf x8 n8index hz hf (pv 3)) (pv 1) (nomark _)))))))) (HdsN.cons (i := 3) ⟨rfl, by decide, Or.inl e9.g⟩ rfl rfl (fun a oe cls d pn hz hf hc => pss_one (by exact (ps_ret (pe_and (pe_cmpR op_eq (pv 0) pe_int (nomark _)) (pe_one (pe_cmpR op_eq (pe_xf x9 n9number hz hf (pv 3)) (pv 1) (nomark _))))))) (HdsN.cons (i := 3) ⟨rfl, by decide, Or.inl e10.g⟩ rfl rfl (fun a oe cls d pn hz hf hc => pss_one (by exact (ps_ret (pe_and (pe_cmpR op_eq (pv 0) pe_int (nomark _)) (pe_one (pe_cmpR op_eq (pe_xf x10 n10index hz hf (pv 3)) (pv 1) (nomark _))))))) (HdsN.cons (i := 3) ⟨rfl, by decide, Or.inl e11.g⟩ rfl rfl (fun a oe cls d pn hz hf hc => pss_one (by exact (ps_ret (pe_and (pe_cmpR op_eq (pv 0) pe_int (nomark _)) (pe_one (pe_cmpR (HQ.op_eq1 GEH hc hEq kEq bEq ((L2H.roomH_mark hr _).mono (by decide))) (pe_xf x11 n11combination hz hf (pv 3)) (pe_lst (pa_cons (HQ.pe_makeH MR GQH (L2H.roomH_mark hr _) hc (by rfl) mgR bQ vQ (pa_cons (pv 1) pa_nil)) pa_nil)) (nomark _))))))) .nil))))))) (pss_one (ps_ret pe_bl)), ?_⟩
  rcases (show way = 6 ∨ way = 7 ∨ way = 8 ∨ way = 9 ∨ way = 10 ∨ way = 11 by omega) with rfl | rfl | rfl | rfl | rfl | rfl
  · refine ⟨_, rfl, rfl, _, rfl, ?_⟩
    rw [dec_int]
    refine iteT ?_
    refine ⟨_, rfl, fun d hd => ?_⟩
    refine ⟨true, s6_6, fun _ a ha => ?_, fun q => Bool.noConfusion q⟩
    refine ⟨_, rfl, rfl, _, rfl, ?_⟩
    rw [decide_eq_true rfl]
    refine iteT ⟨_, rfl, rfl, rfl, d, _, _, rfl, upd_same, look1, _, rfl, rfl, ?_⟩
    rw [decide_eq_true rfl]
    exact k _ (same_upd hd)
  · refine ⟨_, rfl, rfl, _, rfl, ?_⟩
    rw [dec_int]
    refine iteF ?_
    refine ⟨_, rfl, rfl, _, rfl, ?_⟩
    rw [dec_int]
    refine iteT ?_
    refine ⟨_, rfl, fun d hd => ?_⟩
    refine ⟨false, s7_6, fun q => Bool.noConfusion q, fun _ => ?_⟩
    refine ⟨true, s7_7, fun _ a ha => ?_, fun q => Bool.noConfusion q⟩
    refine ⟨_, rfl, rfl, _, rfl, ?_⟩
    rw [decide_eq_true rfl]
    refine iteT ⟨_, rfl, rfl, rfl, d, _, _, rfl, upd_same, look1, _, rfl, rfl, ?_⟩
    rw [decide_eq_true rfl]
    exact k _ (same_upd hd)
  · refine ⟨_, rfl, rfl, _, rfl, ?_⟩
    rw [dec_int]
    refine iteF ?_
    refine ⟨_, rfl, rfl, _, rfl, ?_⟩
    rw [dec_int]
    refine iteF ?_
    refine ⟨_, rfl, rfl, _, rfl, ?_⟩
    rw [dec_int]
    refine iteT ?_
    refine ⟨_, rfl, _, rfl, fun d hd => ?_⟩
    refine ⟨false, s8_6, fun q => Bool.noConfusion q, fun _ => ?_⟩
    refine ⟨false, s8_7, fun q => Bool.noConfusion q, fun _ => ?_⟩
    refine ⟨true, s8_8, fun _ a ha => ?_, fun q => Bool.noConfusion q⟩
    refine ⟨_, rfl, rfl, _, rfl, ?_⟩
    rw [decide_eq_true rfl]
    refine iteT ⟨_, rfl, rfl, rfl, d, _, _, rfl, upd_same, look2 (by decide +kernel), _, rfl, rfl, _, rfl, ?_⟩
    rw [decide_eq_true rfl]
    refine iteT ⟨_, rfl, rfl, rfl, d, _, _, rfl, upd_same, look1, _, rfl, rfl, ?_⟩
    rw [decide_eq_true rfl]
    exact k _ (same_upd hd)
  · refine ⟨_, rfl, rfl, _, rfl, ?_⟩
    rw [dec_int]
    refine iteF ?_
    refine ⟨_, rfl, rfl, _, rfl, ?_⟩
    rw [dec_int]
    refine iteF ?_
    refine ⟨_, rfl, rfl, _, rfl, ?_⟩
    rw [dec_int]
    refine iteF ?_
    refine ⟨_, rfl, rfl, _, rfl, ?_⟩
    rw [dec_int]
    refine iteT ?_
    refine ⟨_, rfl, fun d hd => ?_⟩
    refine ⟨false, s9_6, fun q => Bool.noConfusion q, fun _ => ?_⟩
    refine ⟨false, s9_7, fun q => Bool.noConfusion q, fun _ => ?_⟩
    refine ⟨false, s9_8, fun q => Bool.noConfusion q, fun _ => ?_⟩
    refine ⟨true, s9_9, fun _ a ha => ?_, fun q => Bool.noConfusion q⟩
    refine ⟨_, rfl, rfl, _, rfl, ?_⟩
    rw [decide_eq_true rfl]
    refine iteT ⟨_, rfl, rfl, rfl, d, _, _, rfl, upd_same, look1, _, rfl, rfl, ?_⟩
    rw [decide_eq_true rfl]
    exact k _ (same_upd hd)
  · refine ⟨_, rfl, rfl, _, rfl, ?_⟩
    rw [dec_int]
    refine iteF ?_
    refine ⟨_, rfl, rfl, _, rfl, ?_⟩
    rw [dec_int]
    refine iteF ?_
    refine ⟨_, rfl, rfl, _, rfl, ?_⟩
    rw [dec_int]
    refine iteF ?_
    refine ⟨_, rfl, rfl, _, rfl, ?_⟩
    rw [dec_int]
    refine iteF ?_
    refine ⟨_, rfl, rfl, _, rfl, ?_⟩
    rw [dec_int]
    refine iteT ?_
    refine ⟨_, rfl, fun d hd => ?_⟩
    refine ⟨false, s10_6, fun q => Bool.noConfusion q, fun _ => ?_⟩
    refine ⟨false, s10_7, fun q => Bool.noConfusion q, fun _ => ?_⟩
    refine ⟨false, s10_8, fun q => Bool.noConfusion q, fun _ => ?_⟩
    refine ⟨false, s10_9, fun q => Bool.noConfusion q, fun _ => ?_⟩
    refine ⟨true, s10_10, fun _ a ha => ?_, fun q => Bool.noConfusion q⟩
    refine ⟨_, rfl, rfl, _, rfl, ?_⟩
    rw [decide_eq_true rfl]
    refine iteT ⟨_, rfl, rfl, rfl, d, _, _, rfl, upd_same, look1, _, rfl, rfl, ?_⟩
    rw [decide_eq_true rfl]
    exact k _ (same_upd hd)
  · refine ⟨_, rfl, rfl, _, rfl, ?_⟩
    rw [dec_int]
    refine iteF ?_
    refine ⟨_, rfl, rfl, _, rfl, ?_⟩
    rw [dec_int]
    refine iteF ?_
    refine ⟨_, rfl, rfl, _, rfl, ?_⟩
    rw [dec_int]
    refine iteF ?_
    refine ⟨_, rfl, rfl, _, rfl, ?_⟩
    rw [dec_int]
    refine iteF ?_
    refine ⟨_, rfl, rfl, _, rfl, ?_⟩
    rw [dec_int]
    refine iteF ?_
    refine ⟨_, rfl, rfl, _, rfl, ?_⟩
    rw [dec_int]
    refine iteT ?_
    refine ⟨_, rfl, fun x dx hx hdx ne => RT.mk_int ⟨rfl, by show 1 ≤ sizeLine; rw [sizeLine_eq]; decide, fun p hp d hd => ?_⟩⟩
    refine ⟨false, s11_6, fun q => Bool.noConfusion q, fun _ => ?_⟩
    refine ⟨false, s11_7, fun q => Bool.noConfusion q, fun _ => ?_⟩
    refine ⟨false, s11_8, fun q => Bool.noConfusion q, fun _ => ?_⟩
    refine ⟨false, s11_9, fun q => Bool.noConfusion q, fun _ => ?_⟩
    refine ⟨false, s11_10, fun q => Bool.noConfusion q, fun _ => ?_⟩
    refine ⟨true, s11_11, fun _ a ha => ?_, fun q => Bool.noConfusion q⟩
    refine ⟨_, rfl, rfl, _, rfl, ?_⟩
    rw [decide_eq_true rfl]
    refine iteT ⟨_, rfl, rfl, rfl, d, _, _, rfl, upd_same, look1, _, rfl, fun x2 dx2 hx2 hdx2 ne2 => ⟨x2, dx2, n, rfl, upd_same, rfl, by show 1 ≤ sizeLine; rw [sizeLine_eq]; decide, fun p2 hp2 => ?_⟩⟩
    have t1 := RT.made_same (C := CR) (f1 := []) (f2 := RT.rfl2 (n.fdiv (RT.cmn n 1)) ((1 : Int).fdiv (RT.cmn n 1))) hx hdx
    have t2 := t1.trans (same_upd (o := HO.lst [.ref x]) hp)
    have t3 := t2.trans (same_upd (o := HO.xd [("combination", .ref p)]) hd)
    have u1 := RT.made_same (C := CR) (f1 := []) (f2 := RT.rfl2 (n.fdiv (RT.cmn n 1)) ((1 : Int).fdiv (RT.cmn n 1))) hx2 hdx2
    have u2 := u1.trans (same_upd (o := HO.lst [.ref x2]) hp2)
    have hX := u2 _ _ (same_upd (o := HO.xd [("combination", .ref p)]) hd _ _ (same_upd (o := HO.lst [.ref x]) hp _ _ upd_same))
    have hP := u2 _ _ (same_upd (o := HO.xd [("combination", .ref p)]) hd _ _ upd_same)
    have hX2 := same_upd (o := HO.lst [.ref x2]) hp2 _ _ upd_same
    exact ⟨p, p2, x, x2, dx, dx2, _, _, rfl, rfl, hP, upd_same, hX, hX2, fun H' e => ⟨dx, dx2, _, _, e _ _ hX, e _ _ hX2⟩, fun H' e => k _ (t3.trans (u2.trans e))⟩
end
/-! ### the law -/
/-- of which kinds an error of the class at C is -/
structure KdE (K : PySem.W.Frag) (cls : List Value) (C : Addr) : Prop where
  ex : ExcC K C
  ve : PySem.W.kitOne K (.ref C) (.type "ValueError") = some true
  ks : ∃ bs : List Bool, cls.map (PySem.W.kitOne K (.ref C)) = bs.map some ∧ bs[18]? = some true ∧ (bs.filter id).length = 2
theorem kd1 {K : PySem.W.Frag} {cls : List Value} {C a dx : Addr} {f : Str} {y : V} {H : Hp} {Q : VK} (h : KdE K cls C) (ha : H a = none) (hd : (upd H a (exo a C none)) dx = none) (ne : dx ≠ a) (k : ∀ H', Q (.bl true) H') :
    KindsP K cls [.ref a] (upd (upd (upd H a (exo a C none)) dx (exd dx [(f, y)])) a (exo a C (some dx))) Q := by
  obtain ⟨bs, h1, h2, h3⟩ := h.ks
  exact ⟨a, C, dx, _, bs, rfl, h.ex, upd_same, (upd_ne ne).trans upd_same, h1, h.ve, h2, h3, fun H' _ => k H'⟩
theorem kd2 {K : PySem.W.Frag} {cls : List Value} {C a dx : Addr} {f g : Str} {x y : V} {H : Hp} {Q : VK} (h : KdE K cls C) (ne : dx ≠ a) (k : ∀ H', Q (.bl true) H') :
    KindsP K cls [.ref a] (upd (upd (upd H dx (exd dx [(f, x)])) a (exo a C (some dx))) dx (exd dx [(g, y), (f, x)])) Q := by
  obtain ⟨bs, h1, h2, h3⟩ := h.ks
  exact ⟨a, C, dx, _, bs, rfl, h.ex, (upd_ne (Ne.symm ne)).trans upd_same, upd_same, h1, h.ve, h2, h3, fun H' _ => k H'⟩
def spPlain : Sp := fun vs H Q _ => ∃ way : Int, vs = [.int way] ∧ 0 ≤ way ∧ way < 2 ∧ ∀ H', Q (.bl true) H'
section
variable {P : Program} {w : World} {K : PySem.W.Frag} {mg : Str → Option Value} {base : Heap}
abbrev sLaw : Stmt := top 72
theorem scLaw : FnScope ["_law_script", "_law_bag_here", "_law_number", "_law_word", "_law_way", "_law_good"] ["_law_script"] (defScope sLaw) := ⟨rfl, rfl, rfl, by decide +kernel, rfl, by decide +kernel, by decide +kernel⟩
theorem ok_law {LV : Nat} {f fB fT fX fG fP fN fK fL C0 C1 C2 C3 C4 C5 C6 C7 C8 C9 C10 C11 C12 C13 C14 C15 C16 C17 C18 f0 f1 f2 f3 f4 f5 f6 f7 f8 f9 f10 f11 f12 f13 f14 f15 : Addr} {fd fdB fdT fdX fdG fdP fdN fdK fdL fd0 fd1 fd2 fd3 fd4 fd5 fd6 fd7 fd8 fd9 fd10 fd11 fd12 fd13 fd14 fd15 : FuncData} (F : Fun K "law" "law" sLaw f fd) (hLV : 6 ≤ LV) (mR : mg "range" = none)
    (aB : At K mg "_law_bag" fB) (GB : FnOk P w K mg base CX0 1 fB fdB ["_law_script"] (spBag K)) (bB : Binds K fdB ["_law_script"] [])
    (aT : At K mg "_law_take" fT) (GT : FnOk P w K mg base CX0 1 fT fdT ["_law_bag_here", "_law_size"] spTake) (bT : Binds K fdT ["_law_bag_here", "_law_size"] [])
    (aX : At K mg "_law_text" fX) (GX : FnOk P w K mg base CX0 2 fX fdX ["_law_bag_here", "_law_letters", "_law_long"] spText) (bX : Binds K fdX ["_law_bag_here", "_law_letters", "_law_long"] [])
    (aG : At K mg "_law_glyphs" fG) (GG : FnOk P w K mg base CX0 3 fG fdG ["_law_way", "_law_number", "_law_word"] (spW 0 6)) (bG : Binds K fdG ["_law_way", "_law_number", "_law_word"] [])
    (aP : At K mg "_law_places" fP) (GP : FnOk P w K mg base CX0 5 fP fdP ["_law_way", "_law_number", "_law_word"] (spW 6 12)) (bP : Binds K fdP ["_law_way", "_law_number", "_law_word"] [])
    (aN : At K mg "_law_names" fN) (GN : FnOk P w K mg base CX0 3 fN fdN ["_law_way", "_law_word"] (spW2 12 16)) (bN : Binds K fdN ["_law_way", "_law_word"] [])
    (aK : At K mg "_law_kinds" fK) (GK : FnOk P w K mg base CX0 1 fK fdK ["_law_e"] (spKinds K (cls19 C0 C1 C2 C3 C4 C5 C6 C7 C8 C9 C10 C11 C12 C13 C14 C15 C16 C17 C18))) (bK : Binds K fdK ["_law_e"] [])
    (aL : At K mg "_law_plain" fL) (GL : FnOk P w K mg base CX0 LV fL fdL ["_law_way"] spPlain) (bL : Binds K fdL ["_law_way"] [])
    (e0 : ErrC K mg "InvalidGlyph" C0 f0) (G0 : FnOk P w K mg base CX0 1 f0 fd0 ["self", "glyph"] (spEx1 C0 "glyph")) (b0 : Binds K fd0 ["self", "glyph"] []) (kd_0 : KdE K (cls19 C0 C1 C2 C3 C4 C5 C6 C7 C8 C9 C10 C11 C12 C13 C14 C15 C16 C17 C18) C0)
    (e1 : ErrC K mg "InvalidNumber" C1 f1) (G1 : FnOk P w K mg base CX0 1 f1 fd1 ["self", "value"] (spEx1 C1 "value")) (b1 : Binds K fd1 ["self", "value"] []) (kd_1 : KdE K (cls19 C0 C1 C2 C3 C4 C5 C6 C7 C8 C9 C10 C11 C12 C13 C14 C15 C16 C17 C18) C1)
    (e2 : ErrC K mg "UnknownGlyph" C2 f2) (G2 : FnOk P w K mg base CX0 1 f2 fd2 ["self", "glyph"] (spEx1 C2 "glyph")) (b2 : Binds K fd2 ["self", "glyph"] []) (kd_2 : KdE K (cls19 C0 C1 C2 C3 C4 C5 C6 C7 C8 C9 C10 C11 C12 C13 C14 C15 C16 C17 C18) C2)
    (e3 : ErrC K mg "TooMany" C3 f3) (G3 : FnOk P w K mg base CX0 1 f3 fd3 ["self", "limit"] (spEx1 C3 "limit")) (b3 : Binds K fd3 ["self", "limit"] []) (kd_3 : KdE K (cls19 C0 C1 C2 C3 C4 C5 C6 C7 C8 C9 C10 C11 C12 C13 C14 C15 C16 C17 C18) C3)
    (e4 : ErrC K mg "Overlap" C4 f4) (G4 : FnOk P w K mg base CX0 1 f4 fd4 ["self", "left", "right"] (spEx2 C4 "left" "right")) (b4 : Binds K fd4 ["self", "left", "right"] []) (kd_4 : KdE K (cls19 C0 C1 C2 C3 C4 C5 C6 C7 C8 C9 C10 C11 C12 C13 C14 C15 C16 C17 C18) C4)
    (e5 : ErrC K mg "InUse" C5 f5) (G5 : FnOk P w K mg base CX0 1 f5 fd5 ["self", "user"] (spEx1 C5 "user")) (b5 : Binds K fd5 ["self", "user"] []) (kd_5 : KdE K (cls19 C0 C1 C2 C3 C4 C5 C6 C7 C8 C9 C10 C11 C12 C13 C14 C15 C16 C17 C18) C5)
    (e6 : ErrC K mg "DeedRefused" C6 f6) (G6 : FnOk P w K mg base CX0 1 f6 fd6 ["self", "index"] (spEx1 C6 "index")) (b6 : Binds K fd6 ["self", "index"] []) (kd_6 : KdE K (cls19 C0 C1 C2 C3 C4 C5 C6 C7 C8 C9 C10 C11 C12 C13 C14 C15 C16 C17 C18) C6)
    (e7 : ErrC K mg "InvalidLine" C7 f7) (G7 : FnOk P w K mg base CX0 1 f7 fd7 ["self", "line"] (spEx1 C7 "line")) (b7 : Binds K fd7 ["self", "line"] []) (kd_7 : KdE K (cls19 C0 C1 C2 C3 C4 C5 C6 C7 C8 C9 C10 C11 C12 C13 C14 C15 C16 C17 C18) C7)
    (e8 : ErrC K mg "UnknownLetter" C8 f8) (G8 : FnOk P w K mg base CX0 1 f8 fd8 ["self", "letter", "index"] (spEx2 C8 "letter" "index")) (b8 : Binds K fd8 ["self", "letter", "index"] []) (kd_8 : KdE K (cls19 C0 C1 C2 C3 C4 C5 C6 C7 C8 C9 C10 C11 C12 C13 C14 C15 C16 C17 C18) C8)
    (e9 : ErrC K mg "InvalidState" C9 f9) (G9 : FnOk P w K mg base CX0 1 f9 fd9 ["self", "number"] (spEx1 C9 "number")) (b9 : Binds K fd9 ["self", "number"] []) (kd_9 : KdE K (cls19 C0 C1 C2 C3 C4 C5 C6 C7 C8 C9 C10 C11 C12 C13 C14 C15 C16 C17 C18) C9)
    (e10 : ErrC K mg "InvalidText" C10 f10) (G10 : FnOk P w K mg base CX0 1 f10 fd10 ["self", "index"] (spEx1 C10 "index")) (b10 : Binds K fd10 ["self", "index"] []) (kd_10 : KdE K (cls19 C0 C1 C2 C3 C4 C5 C6 C7 C8 C9 C10 C11 C12 C13 C14 C15 C16 C17 C18) C10)
    (e11 : ErrC K mg "Contradiction" C11 f11) (G11 : FnOk P w K mg base CX0 1 f11 fd11 ["self", "combination"] (spEx1 C11 "combination")) (b11 : Binds K fd11 ["self", "combination"] []) (kd_11 : KdE K (cls19 C0 C1 C2 C3 C4 C5 C6 C7 C8 C9 C10 C11 C12 C13 C14 C15 C16 C17 C18) C11)
    (e12 : ErrC K mg "NameTaken" C12 f12) (G12 : FnOk P w K mg base CX0 1 f12 fd12 ["self", "name"] (spEx1 C12 "name")) (b12 : Binds K fd12 ["self", "name"] []) (kd_12 : KdE K (cls19 C0 C1 C2 C3 C4 C5 C6 C7 C8 C9 C10 C11 C12 C13 C14 C15 C16 C17 C18) C12)
    (e13 : ErrC K mg "UnknownName" C13 f13) (G13 : FnOk P w K mg base CX0 1 f13 fd13 ["self", "name"] (spEx1 C13 "name")) (b13 : Binds K fd13 ["self", "name"] []) (kd_13 : KdE K (cls19 C0 C1 C2 C3 C4 C5 C6 C7 C8 C9 C10 C11 C12 C13 C14 C15 C16 C17 C18) C13)
    (e14 : ErrC K mg "UnknownKind" C14 f14) (G14 : FnOk P w K mg base CX0 1 f14 fd14 ["self", "kind"] (spEx1 C14 "kind")) (b14 : Binds K fd14 ["self", "kind"] []) (kd_14 : KdE K (cls19 C0 C1 C2 C3 C4 C5 C6 C7 C8 C9 C10 C11 C12 C13 C14 C15 C16 C17 C18) C14)
    (e15 : ErrC K mg "InvalidOptions" C15 f15) (G15 : FnOk P w K mg base CX0 1 f15 fd15 ["self", "kind"] (spEx1 C15 "kind")) (b15 : Binds K fd15 ["self", "kind"] []) (kd_15 : KdE K (cls19 C0 C1 C2 C3 C4 C5 C6 C7 C8 C9 C10 C11 C12 C13 C14 C15 C16 C17 C18) C15)
    : FnOk P w K mg base CX0 (LV + 1) f fd ["_law_script"] (spLaw K) := by
  refine F.ok scLaw (fun vs H Q E h => by obtain ⟨t, ns, rfl, _⟩ := h; rfl) (fun cdv A outer s H vs Q E hr h => ?_)
  obtain ⟨sa, ns, rfl, hS, _, k⟩ := h
  have hr1 : Room 1 _ := hr.mono (j := 1) (by omega)
  have hr2 : Room 2 _ := hr.mono (j := 2) (by omega)
  have hr3 : Room 3 _ := hr.mono (j := 3) (by omega)
  have hr5 : Room 5 _ := hr.mono (j := 5) (by omega)
  have nd := scLaw.nd
  refine ⟨_, (pss_cons (ps_set (i := 1) nd rfl (Or.inl rfl) (pe_call GB hr1 (by rfl) aB.g aB.k bB .nil pass0 (pa_cons (pv 0) pa_nil))) (pss_cons (ps_set (i := 2) nd rfl (Or.inl rfl) (pe_op op_sub (pe_call GT hr1 (by rfl) aT.g aT.k bT .nil pass0 (pa_cons (pv 1) (pa_cons pe_int pa_nil))) pe_int)) (pss_cons (ps_set (i := 3) nd rfl (Or.inl rfl) (pe_call GX hr2 (by rfl) aX.g aX.k bX .nil pass0 (pa_cons (pv 1) (pa_cons (pe_lst (pa_cons pe_str (pa_cons pe_str (pa_cons pe_str pa_nil)))) (pa_cons pe_int pa_nil))))) (pss_cons (ps_for PassesOwn.never rfl (pi_range1 (by rfl) mR (pa_cons pe_int pa_nil)) (pg_name (i := 4) nd rfl (Or.inl rfl))
        (pss_cons (ps_if (PW.pt (pw_or (pt_not (pt_val (pe_call GG hr3 (by rfl) aG.g aG.k bG .nil pass0 (pa_cons (pv 4) (pa_cons (pv 2) (pa_cons (pv 3) pa_nil)))))) (pw_or1 (pt_not (pt_val (pe_call GP hr5 (by rfl) aP.g aP.k bP .nil pass0 (pa_cons (pe_op op_add pe_int (pv 4)) (pa_cons (pv 2) (pa_cons (pv 3) pa_nil))))))))) (pss_one (ps_ret pe_bl)) pss_nil)
        (pss_one (ps_if (PW.pt (pw_and (pt_cmpR op_lt (pv 4) pe_int (nomark _)) (pw_and1 (pt_not (pt_val (pe_call GN hr3 (by rfl) aN.g aN.k bN .nil pass0 (pa_cons (pe_op op_add pe_int (pv 4)) (pa_cons (pv 3) pa_nil)))))))) (pss_one (ps_ret pe_bl)) pss_nil)))) (pss_cons (ps_set (i := 5) nd rfl (Or.inl rfl) (pe_and (pe_call GK hr1 (by rfl) aK.g aK.k bK .nil pass0 (pa_cons (pe_exv e0 G0 hr2 b0 .nil (by rfl) (pa_cons (pv 3) pa_nil)) pa_nil)) (pe_and (pe_call GK hr1 (by rfl) aK.g aK.k bK .nil pass0 (pa_cons (pe_exv e1 G1 hr2 b1 .nil (by rfl) (pa_cons (pv 2) pa_nil)) pa_nil)) (pe_one (pe_call GK hr1 (by rfl) aK.g aK.k bK .nil pass0 (pa_cons (pe_exv e2 G2 hr2 b2 .nil (by rfl) (pa_cons (pv 3) pa_nil)) pa_nil)))))) (pss_cons (ps_set (i := 5) nd rfl (Or.inl rfl) (pe_and (pv 5) (pe_and (pe_call GK hr1 (by rfl) aK.g aK.k bK .nil pass0 (pa_cons (pe_exv e3 G3 hr2 b3 .nil (by rfl) (pa_cons (pv 2) pa_nil)) pa_nil)) (pe_and (pe_call GK hr1 (by rfl) aK.g aK.k bK .nil pass0 (pa_cons (pe_exv e4 G4 hr2 b4 .nil (by rfl) (pa_cons (pv 3) (pa_cons (pv 3) pa_nil))) pa_nil)) (pe_one (pe_call GK hr1 (by rfl) aK.g aK.k bK .nil pass0 (pa_cons (pe_exv e5 G5 hr2 b5 .nil (by rfl) (pa_cons (pv 3) pa_nil)) pa_nil))))))) (pss_cons (ps_set (i := 5) nd rfl (Or.inl rfl) (pe_and (pv 5) (pe_and (pe_call GK hr1 (by rfl) aK.g aK.k bK .nil pass0 (pa_cons (pe_exv e6 G6 hr2 b6 .nil (by rfl) (pa_cons (pv 2) pa_nil)) pa_nil)) (pe_one (pe_call GK hr1 (by rfl) aK.g aK.k bK .nil pass0 (pa_cons (pe_exv e7 G7 hr2 b7 .nil (by rfl) (pa_cons (pv 2) pa_nil)) pa_nil)))))) (pss_cons (ps_set (i := 5) nd rfl (Or.inl rfl) (pe_and (pv 5) (pe_and (pe_call GK hr1 (by rfl) aK.g aK.k bK .nil pass0 (pa_cons (pe_exv e8 G8 hr2 b8 .nil (by rfl) (pa_cons (pv 3) (pa_cons pe_int pa_nil))) pa_nil)) (pe_one (pe_call GK hr1 (by rfl) aK.g aK.k bK .nil pass0 (pa_cons (pe_exv e9 G9 hr2 b9 .nil (by rfl) (pa_cons (pv 2) pa_nil)) pa_nil)))))) (pss_cons (ps_set (i := 5) nd rfl (Or.inl rfl) (pe_and (pv 5) (pe_and (pe_call GK hr1 (by rfl) aK.g aK.k bK .nil pass0 (pa_cons (pe_exv e10 G10 hr2 b10 .nil (by rfl) (pa_cons (pv 2) pa_nil)) pa_nil)) (pe_one (pe_call GK hr1 (by rfl) aK.g aK.k bK .nil pass0 (pa_cons (pe_exv e11 G11 hr2 b11 .nil (by rfl) (pa_cons (pe_lst pa_nil) pa_nil)) pa_nil)))))) (pss_cons (ps_set (i := 5) nd rfl (Or.inl rfl) (pe_and (pv 5) (pe_and (pe_call GK hr1 (by rfl) aK.g aK.k bK .nil pass0 (pa_cons (pe_exv e12 G12 hr2 b12 .nil (by rfl) (pa_cons (pv 3) pa_nil)) pa_nil)) (pe_and (pe_call GK hr1 (by rfl) aK.g aK.k bK .nil pass0 (pa_cons (pe_exv e13 G13 hr2 b13 .nil (by rfl) (pa_cons (pv 3) pa_nil)) pa_nil)) (pe_one (pe_call GK hr1 (by rfl) aK.g aK.k bK .nil pass0 (pa_cons (pe_exv e14 G14 hr2 b14 .nil (by rfl) (pa_cons (pv 3) pa_nil)) pa_nil))))))) (pss_one (ps_ret (pe_and (pv 5) (pe_and (pe_call GK hr1 (by rfl) aK.g aK.k bK .nil pass0 (pa_cons (pe_exv e15 G15 hr2 b15 .nil (by rfl) (pa_cons (pv 3) pa_nil)) pa_nil)) (pe_and (pe_call GL hr (by rfl) aL.g aL.k bL .nil pass0 (pa_cons pe_int pa_nil)) (pe_one (pe_call GL hr (by rfl) aL.g aL.k bL .nil pass0 (pa_cons pe_int pa_nil)))))))))))))))))), ?_⟩
  refine ⟨_, rfl, sa, ns, rfl, hS, fun b g H0 B0 _ _ => ?_⟩
  refine ⟨_, rfl, b, g, 2001, rfl, by decide, by decide, B0, fun d1 H1 d1a d1b B1 k1 => ⟨d1, 1000, rfl, rfl, ?_⟩⟩
  refine ⟨_, rfl, by show 3 ≤ sizeLine; rw [sizeLine_eq]; decide, fun l hl => ?_⟩
  refine ⟨b, g, l, 8, [97, 98, 122], rfl, by decide, B1.up (B1.ne hl) (B1.nl hl), B1.ne hl, upd_same, by simp, by decide, fun r H2 hr' B2 k2 => ?_⟩
  have hz : (SX.S r).length ≤ 1000 := by rw [SX.S_len]; omega
  refine ⟨6, rfl, by decide, by decide, for_range (lo := 0) (n := 6) (fun i σ H' => ∃ u : Option V, σ = [some (.ref sa), some (.ref b), some (.int (d1 - 1000)), some (.str (SX.S r)), u, none]) ⟨none, rfl⟩ ?_ ?_⟩
  · rintro i σ H' hi ⟨u, rfl⟩
    refine ⟨_, rfl, _, rfl, _, rfl, 0 + (i : Int), _, _, rfl, by omega, by omega, hz, fun H3 _ => ⟨true, rfl, iteF ?_⟩⟩
    refine ⟨_, rfl, 6, 0 + (i : Int), rfl, rfl, _, rfl, _, rfl, 6 + (0 + (i : Int)), _, _, rfl, by omega, by omega, hz, fun H4 _ => ⟨true, rfl, iteF ?_⟩⟩
    refine ⟨_, rfl, _, _, rfl, rfl, _, rfl, ?_⟩
    refine ite2 (fun h4 => ?_) (fun h4 => iteF ⟨_, rfl⟩)
    have h4' := of_decide_eq_true h4
    exact ⟨_, rfl, 12, 0 + (i : Int), rfl, rfl, _, rfl, 12 + (0 + (i : Int)), _, rfl, by omega, by omega, hz, fun H5 _ => ⟨true, rfl, iteF ⟨_, rfl⟩⟩⟩
  · rintro σ H' ⟨u, rfl⟩
    refine ⟨_, rfl, by show 1 ≤ 1000; decide, fun a ha => ⟨a, _, rfl, upd_same, fun dx hd ne => ⟨rfl, kd1 kd_0 ha hd ne fun H6 => ⟨true, rfl, iteT ?_⟩⟩⟩⟩
    refine ⟨_, rfl, by show 1 ≤ 1000; decide, fun a ha => ⟨a, _, rfl, upd_same, fun dx hd ne => ⟨rfl, kd1 kd_1 ha hd ne fun H6 => ⟨true, rfl, iteT ?_⟩⟩⟩⟩
    refine ⟨_, rfl, by show 1 ≤ 1000; decide, fun a ha => ⟨a, _, rfl, upd_same, fun dx hd ne => ⟨rfl, kd1 kd_2 ha hd ne fun H6 => ?_⟩⟩⟩
    refine ⟨_, rfl, true, rfl, iteT ?_⟩
    refine ⟨_, rfl, by show 1 ≤ 1000; decide, fun a ha => ⟨a, _, rfl, upd_same, fun dx hd ne => ⟨rfl, kd1 kd_3 ha hd ne fun H6 => ⟨true, rfl, iteT ?_⟩⟩⟩⟩
    refine ⟨_, rfl, _, rfl, by show 2 ≤ 1000; decide, fun a ha => ⟨a, _, _, rfl, upd_same, fun dx hd ne => ⟨rfl, kd2 kd_4 ne fun H6 => ⟨true, rfl, iteT ?_⟩⟩⟩⟩
    refine ⟨_, rfl, by show 1 ≤ 1000; decide, fun a ha => ⟨a, _, rfl, upd_same, fun dx hd ne => ⟨rfl, kd1 kd_5 ha hd ne fun H6 => ?_⟩⟩⟩
    refine ⟨_, rfl, true, rfl, iteT ?_⟩
    refine ⟨_, rfl, by show 1 ≤ 1000; decide, fun a ha => ⟨a, _, rfl, upd_same, fun dx hd ne => ⟨rfl, kd1 kd_6 ha hd ne fun H6 => ⟨true, rfl, iteT ?_⟩⟩⟩⟩
    refine ⟨_, rfl, by show 1 ≤ 1000; decide, fun a ha => ⟨a, _, rfl, upd_same, fun dx hd ne => ⟨rfl, kd1 kd_7 ha hd ne fun H6 => ?_⟩⟩⟩
    refine ⟨_, rfl, true, rfl, iteT ?_⟩
    refine ⟨_, rfl, by show 2 ≤ 1000; decide, fun a ha => ⟨a, _, _, rfl, upd_same, fun dx hd ne => ⟨rfl, kd2 kd_8 ne fun H6 => ⟨true, rfl, iteT ?_⟩⟩⟩⟩
    refine ⟨_, rfl, by show 1 ≤ 1000; decide, fun a ha => ⟨a, _, rfl, upd_same, fun dx hd ne => ⟨rfl, kd1 kd_9 ha hd ne fun H6 => ?_⟩⟩⟩
    refine ⟨_, rfl, true, rfl, iteT ?_⟩
    refine ⟨_, rfl, by show 1 ≤ 1000; decide, fun a ha => ⟨a, _, rfl, upd_same, fun dx hd ne => ⟨rfl, kd1 kd_10 ha hd ne fun H6 => ⟨true, rfl, iteT ?_⟩⟩⟩⟩
    refine ⟨by show 0 ≤ sizeLine; rw [sizeLine_eq]; decide, fun c hc => ⟨by show 1 ≤ 1000; decide, fun a ha => ⟨a, _, rfl, upd_same, fun dx hd ne => ⟨rfl, kd1 kd_11 ha hd ne fun H6 => ?_⟩⟩⟩⟩
    refine ⟨_, rfl, true, rfl, iteT ?_⟩
    refine ⟨_, rfl, by show 1 ≤ 1000; decide, fun a ha => ⟨a, _, rfl, upd_same, fun dx hd ne => ⟨rfl, kd1 kd_12 ha hd ne fun H6 => ⟨true, rfl, iteT ?_⟩⟩⟩⟩
    refine ⟨_, rfl, by show 1 ≤ 1000; decide, fun a ha => ⟨a, _, rfl, upd_same, fun dx hd ne => ⟨rfl, kd1 kd_13 ha hd ne fun H6 => ⟨true, rfl, iteT ?_⟩⟩⟩⟩
    refine ⟨_, rfl, by show 1 ≤ 1000; decide, fun a ha => ⟨a, _, rfl, upd_same, fun dx hd ne => ⟨rfl, kd1 kd_14 ha hd ne fun H6 => ?_⟩⟩⟩
    refine ⟨_, rfl, true, rfl, iteT ?_⟩
    refine ⟨_, rfl, by show 1 ≤ 1000; decide, fun a ha => ⟨a, _, rfl, upd_same, fun dx hd ne => ⟨rfl, kd1 kd_15 ha hd ne fun H6 => ⟨true, rfl, iteT ?_⟩⟩⟩⟩
    exact ⟨0, rfl, by decide, by decide, fun H7 => ⟨true, rfl, iteT ⟨1, rfl, by decide, by decide, fun H8 => k H8⟩⟩⟩
end
/-! ### a key function: it keeps the heap -/
open PySem.W PyProof.Rows in
/-- what stays while it runs -/
structure Kx (K : PySem.W.Frag) (mg : Str → Option Value) (base : Heap) (s0 : Shared) (L : Addr) (m : Str → Option Value) (s : Shared) : Prop where
  mod : Mod K mg base
  bs : ∀ b o, base.get? b = some o → s0.heap.get? b = some o
  c : InCall s0 L m s
section
open PySem.W PyProof.Rows
variable {prog : Program} {w : World} {A : Around} {K : PySem.W.Frag} {mg : Str → Option Value} {base : Heap} {s0 : Shared} {L f : Addr} {m : Str → Option Value} {qual : Str} {scope : Scope} {cdv : Value}
theorem Kx.tok {s : Shared} (I : Kx K mg base s0 L m s) (t : Nat) : Kx K mg base s0 L m { s with toks := t } := ⟨I.mod, I.bs, I.c.tok t⟩
theorem Kx.kp {s : Shared} (I : Kx K mg base s0 L m s) : ∀ b o, base.get? b = some o → s.heap.get? b = some o := fun b o e => I.c.keep b o (I.bs b o e)
/-- e is worth a value that P holds of -/
def Ev (prog : Program) (w : World) (A : Around) (env : Env) (I : Shared → Prop) (e : Expr) (P : Value → Prop) : Prop := ∀ (s : Shared) (Q : Value → Shared → Prop) (E : Value → Shared → Prop), I s → (∀ u s', I s' → P u → Q u s') → wpAny (model prog w) A (eval e env) Q E s
theorem ev_var {x : Str} {pos : Pos} {v : Value} (hk : scope.kind = .function) (hl : (envOfC qual scope L f cdv).kindOf x = some .local) (hv : m x = some v) {P : Value → Prop} (hp : P v) (hd : (x == ("__debug__" : Str)) = false := by decide) : Ev prog w A (envOfC qual scope L f cdv) (Kx K mg base s0 L m) (.Name x pos) P := fun s Q E I h =>
  wpAny_Name (wpAny_loadName_local (env := envOfC qual scope L f cdv) hk hl I.c.ns hv (h v s I hp)) hd
theorem ld_b {x : Str} {pos : Pos} {u : Value} {s : Shared} {Q : Value → Shared → Prop} {E : Value → Shared → Prop} (I : Kx K mg base s0 L m s) (hk : scope.kind = .function) (hg : (envOfC qual scope L f cdv).kindOf x = some .globalImplicit) (hm : mg x = none) (hv : bootBuiltins x = some u) (h : Q u s) (hn : x ≠ "__name__" := by decide) (hd : (x == ("__debug__" : Str)) = false := by decide) :
    wpAny (model prog w) A (eval (.Name x pos) (envOfC qual scope L f cdv)) Q E s := by
  obtain ⟨mb, h1, h2⟩ := I.mod.blt
  exact Calls.Name_function_global (env := envOfC qual scope L f cdv) hk hg (Calls.loadGlobal_builtin (env := envOfC qual scope L f cdv) (I.mod.glob.keeps I.kp) hm (h1.keeps I.kp) ((h2 x hn).trans hv) h) hd
theorem ev_len {e : Expr} {p pos : Pos} {z : Str} (hk : scope.kind = .function) (hg : (envOfC qual scope L f cdv).kindOf "len" = some .globalImplicit) (hm : mg "len" = none) (hz : z.length ≤ 1000) (he : Ev prog w A (envOfC qual scope L f cdv) (Kx K mg base s0 L m) e (fun u => ∃ t, u = .str z t))
    (hs : starEach [e] (envOfC qual scope L f cdv) = (false, eval e (envOfC qual scope L f cdv)) :: starEach [] (envOfC qual scope L f cdv) := by rfl) (hpl : (backTo pos (starEach [] (envOfC qual scope L f cdv))).any (·.1) = false := by rfl) :
    Ev prog w A (envOfC qual scope L f cdv) (Kx K mg base s0 L m) (.Call (.Name "len" p) [e] [] pos) (fun u => ∃ t, u = .int z.length t) := fun s Q E I h => by
  refine wpAny_Call_Name_kw (ld_b I hk hg hm PySem.boot_len ?_)
  refine PyProof.Rows.callWith_builtin1 ?_ hs hpl
  rw [hs]
  show wpAny _ _ (spliced ((false, eval e (envOfC qual scope L f cdv)) :: backTo pos (starEach [] (envOfC qual scope L f cdv)))) _ _ s
  refine Calls.spliced_cons (he s _ E I fun u s' I' hu => Calls.spliced_nil ?_)
  obtain ⟨t, rfl⟩ := hu
  have hn := line63
  exact len_str (by omega) (h _ _ (I'.tok _) ⟨_, rfl⟩)
theorem ev_strs {e : Expr} {p pos : Pos} {z : Str} (hk : scope.kind = .function) (hg : (envOfC qual scope L f cdv).kindOf "str" = some .globalImplicit) (hm : mg "str" = none) (he : Ev prog w A (envOfC qual scope L f cdv) (Kx K mg base s0 L m) e (fun u => ∃ t, u = .str z t))
    (hs : starEach [e] (envOfC qual scope L f cdv) = (false, eval e (envOfC qual scope L f cdv)) :: starEach [] (envOfC qual scope L f cdv) := by rfl) (hpl : (backTo pos (starEach [] (envOfC qual scope L f cdv))).any (·.1) = false := by rfl) :
    Ev prog w A (envOfC qual scope L f cdv) (Kx K mg base s0 L m) (.Call (.Name "str" p) [e] [] pos) (fun u => ∃ t, u = .str z t) := fun s Q E I h => by
  refine wpAny_Call_Name_kw (ld_b I hk hg hm (u := .type "str") (by decide +kernel) ?_)
  refine PyProof.Rows.callWith_type1 ?_ hs hpl
  rw [hs]
  show wpAny _ _ (spliced ((false, eval e (envOfC qual scope L f cdv)) :: backTo pos (starEach [] (envOfC qual scope L f cdv)))) _ _ s
  refine Calls.spliced_cons (he s _ E I fun u s' I' hu => Calls.spliced_nil ?_)
  obtain ⟨t, rfl⟩ := hu
  exact PySem.P.str_of_str (h _ _ I' ⟨_, rfl⟩)
theorem ev_isi {e : Expr} {p p2 pos : Pos} {z : Str} (hk : scope.kind = .function) (hg : (envOfC qual scope L f cdv).kindOf "isinstance" = some .globalImplicit) (hm : mg "isinstance" = none) (hg2 : (envOfC qual scope L f cdv).kindOf "str" = some .globalImplicit) (hm2 : mg "str" = none) (he : Ev prog w A (envOfC qual scope L f cdv) (Kx K mg base s0 L m) e (fun u => ∃ t, u = .str z t))
    (hs : starEach [e, .Name "str" p2] (envOfC qual scope L f cdv) = (false, eval e (envOfC qual scope L f cdv)) :: starEach [.Name "str" p2] (envOfC qual scope L f cdv) := by rfl) (hpl : (backTo pos (starEach [.Name "str" p2] (envOfC qual scope L f cdv))).any (·.1) = false := by rfl)
    (hs2 : starEach [.Name "str" p2] (envOfC qual scope L f cdv) = (false, eval (.Name "str" p2) (envOfC qual scope L f cdv)) :: starEach [] (envOfC qual scope L f cdv) := by rfl) :
    Ev prog w A (envOfC qual scope L f cdv) (Kx K mg base s0 L m) (.Call (.Name "isinstance" p) [e, .Name "str" p2] [] pos) (fun u => u = .bool true) := fun s Q E I h => by
  refine wpAny_Call_Name_kw (ld_b I hk hg hm (u := .builtin "isinstance") (by decide +kernel) ?_)
  refine PyProof.Rows.callWith_builtin1 ?_ hs hpl
  rw [hs, hs2]
  show wpAny _ _ (spliced ((false, eval e (envOfC qual scope L f cdv)) :: (false, eval (.Name "str" p2) (envOfC qual scope L f cdv)) :: backTo pos (starEach [] (envOfC qual scope L f cdv)))) _ _ s
  refine Calls.spliced_cons (he s _ E I fun u s' I' hu => Calls.spliced_cons (ld_b I' hk hg2 hm2 (u := .type "str") (by decide +kernel) (Calls.spliced_nil ?_)))
  obtain ⟨t, rfl⟩ := hu
  exact PySem.W.kia_one (K := K) PySem.W.kitx_str (I'.mod.kin.keeps I'.kp) True.intro (kit_ty (a := "str") (b := "str") (by decide +kernel)) (fun z => nomatch z) fun tk => h _ _ (I'.tok _) rfl
theorem ev_ifT {c a b : Expr} {pos : Pos} {P : Value → Prop} (hc : Ev prog w A (envOfC qual scope L f cdv) (Kx K mg base s0 L m) c (fun u => u = .bool true)) (ha : Ev prog w A (envOfC qual scope L f cdv) (Kx K mg base s0 L m) a P)
    (he : ∀ whole, isTrue c (envOfC qual scope L f cdv) whole = (do let v ← whole; standAt c.pos; holding [v] (truthy v)) := by intro _; rfl) : Ev prog w A (envOfC qual scope L f cdv) (Kx K mg base s0 L m) (.IfExp c a b pos) P := fun s Q E I h => by
  refine wpAny_IfExp ?_
  rw [he]
  refine wpAny_bind (hc s _ E I fun u s' I' hu => ?_)
  subst hu
  refine wpAny_bind (wpAny_standAt (wpAny_holding (wpAny_truthy_bool ?_)))
  exact ha s' Q E I' h
/-- items of a display -/
inductive EvL (prog : Program) (w : World) (A : Around) (env : Env) (I : Shared → Prop) : List Expr → List (Value → Prop) → Prop where
  | nil : EvL prog w A env I [] []
  | cons {e : Expr} {es : List Expr} {P : Value → Prop} {Ps : List (Value → Prop)} : Ev prog w A env I e P → EvL prog w A env I es Ps → starEach (e :: es) env = (false, eval e env) :: starEach es env → EvL prog w A env I (e :: es) (P :: Ps)
theorem EvL.run {env : Env} {I : Shared → Prop} {pos : Pos} : ∀ {es : List Expr} {Ps : List (Value → Prop)}, EvL prog w A env I es Ps → ∀ (s : Shared) (Q : List Value → Shared → Prop) (E : Value → Shared → Prop), I s → (∀ us s', I s' → Paired (fun u (P : Value → Prop) => P u) us Ps → Q us s') → wpAny (model prog w) A (spliced (backTo pos (starEach es env))) Q E s
  | _, _, .nil, s, Q, E, hI, h => Calls.spliced_nil (h [] s hI .nil)
  | _, _, .cons (e := e) (es := es) he hr hs, s, Q, E, hI, h => by
    rw [hs]
    show wpAny _ _ (spliced ((false, eval e env) :: backTo pos (starEach es env))) _ _ s
    exact Calls.spliced_cons (he s _ E hI fun u s' I' hu => hr.run s' _ E I' fun us s2 I2 hus => h (u :: us) s2 I2 (.cons hu hus))
theorem ret_tup {es : List Expr} {Ps : List (Value → Prop)} {ds : List PyData} {x1 : Nat} {pos pos2 : Pos} {s : Shared} {Q : Flow → Shared → Prop} {E : Value → Shared → Prop} (h : EvL prog w A (envOfC qual scope L f cdv) (Kx K mg base s0 L m) es Ps) (I : Kx K mg base s0 L m s)
    (hr : ∀ us, Paired (fun u (P : Value → Prop) => P u) us Ps → us.length ≤ sizeLine ∧ ∀ g, ReadsAll g us ds []) (hq : ∀ u s', KeyPure (.tuple ds) s0 u s' → Q (.ret u) s') : wpAny (model prog w) A (exec (.Return (some (.Tuple es x1 pos)) pos2) (envOfC qual scope L f cdv)) Q E s := by
  refine wpAny_Return_some (wpAny_Tuple_spliced (h.run s _ E I fun us s' I' hus => ?_))
  obtain ⟨h1, h2⟩ := hr us hus
  refine ⟨h1, hq _ _ ?_⟩
  obtain ⟨g, tk, rfl⟩ := I'.c.same
  refine ⟨_, tk, rfl, fun b o e => Heap.get?_push_of_some _ (I'.c.keep b o e), ?_⟩
  exact .tuple (Heap.get?_push_size _ rfl) rfl rfl (h2 _)
end
section
open PySem.W PyProof.Rows
variable {prog : Program} {w : World} {A : Around} {K : PySem.W.Frag} {mg : Str → Option Value} {base : Heap}
/-- a def of one text is a key function: k of the text -/
def KeyStr (prog : Program) (w : World) (K : PySem.W.Frag) (mg : Str → Option Value) (base : Heap) (f : Addr) (k : Str → PyData) : Prop :=
  ∀ (A : Around) (s : Shared) (g : Str) (t : Tok), A.depth < recursionLimit → Mod K mg base → (∀ b o, base.get? b = some o → s.heap.get? b = some o) → g.length ≤ 1000 → wpAny (model prog w) A (call (.ref f) [.str g t]) (KeyPure (k g) s) (fun _ _ => False) s
theorem key_enter {x qual : Str} {st : Stmt} {f : Addr} {fd : FuncData} {v : Value} {s : Shared} {k : PyData} (F : Fun K x qual st f fd) (mod : Mod K mg base) (hbs : ∀ b o, base.get? b = some o → s.heap.get? b = some o) (hroom : A.depth < recursionLimit) {p : Str}
    (hb : Binds K fd [p] []) (hk : (defScope st).kind = .function) (hco : (defScope st).isCoroutine = false) (hgen : (defScope st).isGenerator = false) (hl : (defScope st).names.lookup p = some .local)
    (h : ∀ cdv (m : Str → Option Value) s1, m p = some v → Kx K mg base s s.heap.objs.size m s1 → wpAny (model prog w) (A.deeper (envOfC qual (defScope st) s.heap.objs.size f cdv)) (execs (defBody st) (envOfC qual (defScope st) s.heap.objs.size f cdv)) (fun fl s' => ∃ u, fl = .ret u ∧ KeyPure k s u s') (fun _ _ => False) s1) :
    wpAny (model prog w) A (call (.ref f) [v]) (KeyPure k s) (fun _ _ => False) s := by
  obtain ⟨oc, od, kV, doc, pm, an, cdv, ct, osl, rfl, lk, hcd⟩ := F.ex
  have KX : K.In s.heap := mod.kin.keeps hbs
  have bt : BindsTo s (PySem.W.fnOf x qual (defArgs st) (defBody st) (defScope st) .none kV doc pm an cdv ct) ⟨[v], []⟩ [(p, v)] := hb s [v] KX rfl
  refine wpAny_call (Att.call_fn (binds := [(p, v)]) KX (mod.nolimit.keeps hbs) lk hcd hroom bt (by simp [hl]) (fun s1 IC => ?_) hco hgen hk)
  have hm : (bindL (envOfC qual (defScope st) s.heap.objs.size f cdv).kindOf [(p, v)] fun _ => none) p = some v := by
    have hl' : (envOfC qual (defScope st) s.heap.objs.size f cdv).kindOf p = some .local := hl
    simp [bindL, hl']
  refine wpAny_mono (h cdv _ s1 hm ⟨mod, hbs, IC.toInCall⟩) (fun fl s' q => ?_) (fun _ _ q => q.elim)
  obtain ⟨u, rfl, q⟩ := q
  exact q
/-! ### sorted(xs, key=f) -/
theorem vals_of_each {T : Type} {val : T → V} {R : Value → T → Prop} (h : ∀ u x, R u x → RelV (val x) u) : ∀ {us : List Value} {xs : List T}, EachIs R us xs → Vals (xs.map val) us
  | _, _, .nil => .nil
  | _, _, .cons r e => .cons (h _ _ r) (vals_of_each h e)
/-- the items xs as values, what of them is read, their keys -/
structure KeyFn (X : Cx) (H : Hp) (f : Addr) {T : Type} (val : T → V) (ok : Heap → Value → T → Prop) (k : T → PyData) (xs : List T) : Prop where
  al : AllAlike (xs.map k)
  so : Sortable (xs.map k)
  dp : ∀ x ∈ xs, (k x).depth ≤ 8
  each : ∀ (pins : List (Addr × Obj)) (σ : L2.St) (s : Shared) (us : List Value), Inv X pins σ H s → Vals (xs.map val) us → EachIs (fun u x => RelV (val x) u ∧ ok s.heap u x) us xs
  turn : ∀ (A : Around) (s : Shared) (h0 : Heap) (u : Value) (x : T), A.depth < recursionLimit → A.handled = none → Mod X.K X.mg X.base → (∀ b o, X.base.get? b = some o → s.heap.get? b = some o) → (∀ b o, h0.get? b = some o → s.heap.get? b = some o) → RelV (val x) u → ok h0 u x →
    wpAny (model X.prog X.w) A (call (.ref f) [u]) (KeyPure (k x) s) (fun _ _ => False) s
theorem cr_sortedK {X : Cx} {T : Type} {f : Addr} {val : T → V} {ok : Heap → Value → T → Prop} {k : T → PyData} (hc : X.calm = true) (hr : Room 1 X.A) : CallRK X (.builtin "sorted") [Str.ofString "key"] (fun vs zs H Q => ∃ (a : Addr) (xs : List T), vs = [.ref a] ∧ zs = [.ref f] ∧ SqL X.K H a (xs.map val) ∧ KeyFn X H f val ok k xs ∧
    ∀ p, H p = none → Q (.ref p) (upd H p (.lst ((xs.mergeSort (dataLe false k)).map val)))) := by
  intro pins s σ H vs zs us ws Q I rv rz hq
  obtain ⟨a, xs, rfl, rfl, hS, KF, q⟩ := hq
  obtain ⟨u1, rfl, r1⟩ := vals1 rv
  obtain ⟨u2, rfl, r2⟩ := vals1 rz
  cases r1
  cases r2
  obtain ⟨its, rits, pl, hz⟩ := I.list hS
  have e := KF.each pins σ s its I rits
  have hl : xs.length ≤ sizeLine := by rw [List.length_map] at hz; exact hz
  show wpAny (model X.prog X.w) X.A (call (.builtin "sorted") [.ref a] [(Str.ofString "key", .ref f)]) _ _ s
  have hun := hr.un
  have hdp := hr.dp
  refine sorted_key_data (b := false) k pl.isList e KF.al KF.so hl (fun x hx => ?_) (ksk_s1 _ _) (fun _ => ksk_l1 _ _) (fun _ => ksk_t1 _ _) (fun u x hR hx h tk kp => ?_) fun out c h' tk kp hn hD ho eo => ?_
  · have := KF.dp x hx
    omega
  · exact KF.turn X.A.in1.in1 { s with heap := h, toks := tk } s.heap u x (by show X.A.depth < _; omega) (I.ok.hd hc) I.mod (fun b o eb => kp b o (I.bk b o eb)) kp hR.1 hR.2
  · have hf : H (s.heap.objs.size + 1) = none := I.hok.fresh (Nat.le_succ _)
    refine ⟨.ref (s.heap.objs.size + 1), upd H (s.heap.objs.size + 1) (.lst ((xs.mergeSort (dataLe false k)).map val)), I.laid (t' := tk) kp (Nat.le_succ _) ?_, rfl, q _ hf⟩
    refine ⟨?_, out, c, vals_of_each (fun u x h => h.1) eo, hD⟩
    rw [List.length_map, List.length_mergeSort]
    exact hl
end
/-! ### the key functions of the text -/
def kRank (g : Str) : PyData := .tuple [.int g.length, .str g]
section
open PySem.W PyProof.Rows
variable {prog : Program} {w : World} {K : PySem.W.Frag} {mg : Str → Option Value} {base : Heap}
theorem pair_flat {us : List Value} {a : Int} {z : Str} (h : Paired (fun u (P : Value → Prop) => P u) us [fun u => ∃ t, u = .int a t, fun u => ∃ t, u = .str z t]) : us.length ≤ sizeLine ∧ ∀ g, ReadsAll g us [.int a, .str z] [] := by
  cases h with
  | cons h1 r =>
    cases r with
    | cons h2 r =>
      cases r
      obtain ⟨t1, rfl⟩ := h1
      obtain ⟨t2, rfl⟩ := h2
      exact ⟨by show 2 ≤ sizeLine; decide, fun g => .cons (.int _ _) (.cons (.str _ _) .nil)⟩
abbrev sPlace : Stmt := top 30
theorem key_place {f : Addr} {fd : FuncData} (F : Fun K "font_place" "font_place" sPlace f fd) (b : Binds K fd ["glyph"] []) (mL : mg "len" = none) (mI : mg "isinstance" = none) (mS : mg "str" = none) : KeyStr prog w K mg base f kRank := by
  intro A s g t hroom mod hbs hg
  refine key_enter F mod hbs hroom b rfl rfl rfl rfl fun cdv m s1 hm I => ?_
  have v0 : ∀ {pos : Pos} {m' : Str → Option Value}, m' "glyph" = some (.str g t) → Ev prog w (A.deeper (envOfC "font_place" (defScope sPlace) s.heap.objs.size f cdv)) (envOfC "font_place" (defScope sPlace) s.heap.objs.size f cdv) (Kx K mg base s s.heap.objs.size m') (.Name "glyph" pos) (fun u => ∃ t, u = .str g t) := fun {pos m'} h => ev_var rfl rfl h ⟨t, rfl⟩
  refine wpAny_execs_cons ?_
  refine wpAny_Assign_Name (ev_ifT (ev_isi rfl rfl mI rfl mS (v0 hm)) (ev_len rfl rfl mL hg (v0 hm)) (fun _ => rfl) s1 _ _ I fun u s2 I2 hu => ?_) rfl
  obtain ⟨t2, rfl⟩ := hu
  refine wpAny_storeName_local (env := envOfC "font_place" (defScope sPlace) s.heap.objs.size f cdv) rfl I2.c.ns (fun h' hn' hs' => ?_) rfl
  obtain ⟨m3, e3⟩ : ∃ m3 : Str → Option Value, m3 = (fun y : Str => if y = "length" then some (Value.int g.length t2) else m y) := ⟨_, rfl⟩
  have I3 : Kx K mg base s s.heap.objs.size m3 { s2 with heap := h', toks := s2.toks + 1 } := by
    refine ⟨I2.mod, I2.bs, ⟨?_, e3 ▸ hn', fun b o e => ?_, I2.c.fresh⟩⟩
    · obtain ⟨h₁, tk, rfl⟩ := I2.c.same
      exact ⟨h', _, rfl⟩
    · exact hs'.extBut b o (Nat.ne_of_lt (Nat.lt_of_lt_of_le (Heap.lt_size e) I2.c.fresh)) (I2.c.keep b o e)
  refine wpAny_execs_cons ?_
  have hmL : m3 "length" = some (.int g.length t2) := by
    rw [e3]
    exact if_pos rfl
  have hm3 : m3 "glyph" = some (.str g t) := by
    rw [e3]
    show (if ("glyph" : Str) = "length" then _ else _) = _
    rw [if_neg (by decide +kernel)]
    exact hm
  exact ret_tup (.cons (ev_var rfl rfl hmL ⟨t2, rfl⟩) (.cons (ev_strs rfl rfl mS (v0 hm3)) .nil rfl) rfl) I3 (fun us h => pair_flat h) fun u s' q => ⟨u, rfl, q⟩
/-- the texts xs under such a key -/
theorem keyFn_str {X : Cx} {H : Hp} {f : Addr} {xs : List Str} (h : KeyStr X.prog X.w X.K X.mg X.base f kRank) (hx : ∀ x ∈ xs, x.length ≤ 1000) : KeyFn X H f (T := Str) V.str (fun _ _ x => x.length ≤ 1000) kRank xs where
  al := AllAlike.of fun _ _ => by simp [alike, alikeAll, kRank]
  so := Sortable.tuples fun _ => ⟨_, _, rfl⟩
  dp := fun x _ => by simp [kRank, PyData.depth, PyData.depthAll]
  each := fun pins σ s us I r => by
    have go : ∀ {us : List Value} {xs : List Str}, (∀ x ∈ xs, x.length ≤ 1000) → Vals (xs.map V.str) us → EachIs (fun u x => RelV (.str x) u ∧ x.length ≤ 1000) us xs := by
      intro us xs
      induction xs generalizing us with
      | nil => intro _ r; cases r; exact .nil
      | cons x xs ih =>
        intro hx r
        cases r with
        | cons r1 r2 => exact .cons ⟨r1, hx x List.mem_cons_self⟩ (ih (fun y hy => hx y (List.mem_cons_of_mem _ hy)) r2)
    exact go hx r
  turn := fun A s h0 u x hroom _ mod hbs _ r hl => by
    obtain ⟨t, rfl⟩ := r
    exact h A s x t hroom mod hbs hl
end
/-! ### the key function of pairs -/
def kPlace (g : Str × Str) : PyData := .tuple [.bool true, .str g.1, .bool true, .str g.2]
section
open PySem.W PyProof.Rows
variable {prog : Program} {w : World} {A : Around} {K : PySem.W.Frag} {mg : Str → Option Value} {base : Heap} {s0 : Shared} {L f : Addr} {m : Str → Option Value} {qual : Str} {scope : Scope} {cdv : Value}
theorem Kx.ext {s : Shared} {h' : Heap} (I : Kx K mg base s0 L m s) (hx : Heap.ExtBut s.heap.objs.size s.heap h') : Kx K mg base s0 L m { s with heap := h' } := by
  have k : ∀ b o, s.heap.get? b = some o → h'.get? b = some o := fun b o e => hx b o (Nat.ne_of_lt (Heap.lt_size e)) e
  refine ⟨I.mod, I.bs, ⟨?_, I.c.ns.keeps k, fun b o e => k b o (I.c.keep b o e), I.c.fresh⟩⟩
  obtain ⟨h₁, tk, rfl⟩ := I.c.same
  exact ⟨h', _, rfl⟩
theorem four_flat {us : List Value} {x z : Str} (h : Paired (fun u (P : Value → Prop) => P u) us [fun u => u = .bool true, fun u => ∃ t, u = .str x t, fun u => u = .bool true, fun u => ∃ t, u = .str z t]) : us.length ≤ sizeLine ∧ ∀ g, ReadsAll g us [.bool true, .str x, .bool true, .str z] [] := by
  cases h with
  | cons h1 r =>
    cases r with
    | cons h2 r =>
      cases r with
      | cons h3 r =>
        cases r with
        | cons h4 r =>
          cases r
          subst h1 h3
          obtain ⟨t2, rfl⟩ := h2
          obtain ⟨t4, rfl⟩ := h4
          exact ⟨by show 4 ≤ sizeLine; decide, fun g => .cons (.bool _) (.cons (.str _ _) (.cons (.bool _) (.cons (.str _ _) .nil)))⟩
abbrev sPair : Stmt := top 31
/-- a def of one pair of texts is a key function: k of the pair -/
def KeyPair (prog : Program) (w : World) (K : PySem.W.Frag) (mg : Str → Option Value) (base : Heap) (f : Addr) (k : Str × Str → PyData) : Prop :=
  ∀ (A : Around) (s : Shared) (a : Addr) (l r : Str) (t1 t2 : Tok), A.depth < recursionLimit → A.handled = none → Mod K mg base → (∀ b o, base.get? b = some o → s.heap.get? b = some o) → IsTup s.heap a #[.str l t1, .str r t2] → wpAny (model prog w) A (call (.ref f) [.ref a]) (KeyPure (k (l, r)) s) (fun _ _ => False) s
theorem key_pair {f : Addr} {fd : FuncData} (F : Fun K "pair_place" "pair_place" sPair f fd) (b : Binds K fd ["pair"] []) (mI : mg "isinstance" = none) (mS : mg "str" = none) : KeyPair prog w K mg base f kPlace := by
  intro A s a l r t1 t2 hroom hh mod hbs ht
  refine key_enter F mod hbs hroom b rfl rfl rfl rfl fun cdv m s1 hm I => ?_
  have v0 : ∀ {pos : Pos} {x z : Str} {t : Tok} {m' : Str → Option Value}, (envOfC "pair_place" (defScope sPair) s.heap.objs.size f cdv).kindOf x = some .local → m' x = some (.str z t) → (x == ("__debug__" : Str)) = false →
      Ev prog w (A.deeper (envOfC "pair_place" (defScope sPair) s.heap.objs.size f cdv)) (envOfC "pair_place" (defScope sPair) s.heap.objs.size f cdv) (Kx K mg base s s.heap.objs.size m') (.Name x pos) (fun u => ∃ t, u = .str z t) := fun {pos x z t m'} hk h hd => ev_var rfl hk h ⟨t, rfl⟩ hd
  refine wpAny_execs_cons ?_
  have hv : ∀ (Q : Value → Shared → Prop) (E : Value → Shared → Prop), (∀ s', Kx K mg base s s.heap.objs.size m s' → Q (.ref a) s') → wpAny (model prog w) (A.deeper (envOfC "pair_place" (defScope sPair) s.heap.objs.size f cdv)) (eval (.Name "pair" ⟨0, 0, 0, 0⟩) (envOfC "pair_place" (defScope sPair) s.heap.objs.size f cdv)) Q E s1 := fun Q E h =>
    ev_var (P := fun u => u = .ref a) rfl rfl hm rfl (by decide) s1 Q E I fun u s' I' hu => by subst hu; exact h s' I'
  refine wpAny_Assign_stores (ev_var (P := fun u => u = .ref a) rfl rfl hm rfl (by decide) s1 _ _ I fun u s2 I2 hu => ?_) rfl rfl
  subst hu
  show wpAny _ _ (assign _ _ (.ref a)) _ _ s2
  have ht2 : IsTup s2.heap a #[.str l t1, .str r t2] := by
    obtain ⟨o, ho, hc, n, hd⟩ := ht
    exact ⟨o, I2.c.keep _ _ ho, hc, n, hd⟩
  refine assign_Tuple_tuple hh ht2 rfl rfl fun h3 hx => ?_
  have I3 := I2.ext hx
  refine assignInOrder_cons (wpAny_assign_Name (wpAny_storeName_local (env := envOfC "pair_place" (defScope sPair) s.heap.objs.size f cdv) rfl I3.c.ns (fun h' hn' hs' => ?_) rfl))
  obtain ⟨m4, e4⟩ : ∃ m4 : Str → Option Value, m4 = (fun y : Str => if y = "left" then some (Value.str l t1) else m y) := ⟨_, rfl⟩
  have I4 : Kx K mg base s s.heap.objs.size m4 { s2 with heap := h', toks := s2.toks + 1 } := by
    refine ⟨I3.mod, I3.bs, ⟨?_, e4 ▸ hn', fun b o e => ?_, I3.c.fresh⟩⟩
    · obtain ⟨h₁, tk, rfl⟩ := I2.c.same
      exact ⟨h', _, rfl⟩
    · exact hs'.extBut b o (Nat.ne_of_lt (Nat.lt_of_lt_of_le (Heap.lt_size e) I3.c.fresh)) (I3.c.keep b o e)
  refine assignInOrder_cons (wpAny_assign_Name (wpAny_storeName_local (env := envOfC "pair_place" (defScope sPair) s.heap.objs.size f cdv) rfl I4.c.ns (fun h'' hn'' hs'' => ?_) rfl))
  obtain ⟨m5, e5⟩ : ∃ m5 : Str → Option Value, m5 = (fun y : Str => if y = "right" then some (Value.str r t2) else m4 y) := ⟨_, rfl⟩
  have I5 : Kx K mg base s s.heap.objs.size m5 { s2 with heap := h'', toks := s2.toks + 1 + 1 } := by
    refine ⟨I4.mod, I4.bs, ⟨?_, e5 ▸ hn'', fun b o e => ?_, I4.c.fresh⟩⟩
    · obtain ⟨h₁, tk, rfl⟩ := I2.c.same
      exact ⟨h'', _, rfl⟩
    · exact hs''.extBut b o (Nat.ne_of_lt (Nat.lt_of_lt_of_le (Heap.lt_size e) I4.c.fresh)) (I4.c.keep b o e)
  refine assignInOrder_nil ?_
  refine wpAny_execs_cons ?_
  have hr5 : m5 "right" = some (.str r t2) := by
    rw [e5]
    exact if_pos rfl
  have hl5 : m5 "left" = some (.str l t1) := by
    rw [e5, e4]
    show (if ("left" : Str) = "right" then _ else (if ("left" : Str) = "left" then _ else _)) = _
    rw [if_neg (by decide +kernel), if_pos rfl]
  exact ret_tup (.cons (ev_isi rfl rfl mI rfl mS (v0 rfl hl5 (by decide))) (.cons (ev_strs rfl rfl mS (v0 rfl hl5 (by decide))) (.cons (ev_isi rfl rfl mI rfl mS (v0 rfl hr5 (by decide))) (.cons (ev_strs rfl rfl mS (v0 rfl hr5 (by decide))) .nil rfl) rfl) rfl) rfl) I5 (fun us h => four_flat h) fun u s' q => ⟨u, rfl, q⟩
/-- pairs under such a key -/
theorem keyFn_pair {X : Cx} {H : Hp} {f : Addr} {xs : List (Addr × (Str × Str))} (h : KeyPair X.prog X.w X.K X.mg X.base f kPlace) (hx : ∀ x ∈ xs, H x.1 = some (.tup [.str x.2.1, .str x.2.2])) :
    KeyFn X H f (T := Addr × (Str × Str)) (fun x => V.ref x.1) (fun hp _ x => ∃ t1 t2, IsTup hp x.1 #[.str x.2.1 t1, .str x.2.2 t2]) (fun x => kPlace x.2) xs where
  al := AllAlike.of fun _ _ => by simp [alike, alikeAll, kPlace]
  so := Sortable.tuples fun _ => ⟨_, _, rfl⟩
  dp := fun x _ => by simp [kPlace, PyData.depth, PyData.depthAll]
  each := fun pins σ s us I r => by
    have go : ∀ {us : List Value} {xs : List (Addr × (Str × Str))}, (∀ x ∈ xs, H x.1 = some (.tup [.str x.2.1, .str x.2.2])) → Vals (xs.map fun x => V.ref x.1) us → EachIs (fun u x => RelV (V.ref x.1) u ∧ ∃ t1 t2, IsTup s.heap x.1 #[.str x.2.1 t1, .str x.2.2 t2]) us xs := by
      intro us xs
      induction xs generalizing us with
      | nil => intro _ r; cases r; exact .nil
      | cons x xs ih =>
        intro hx r
        cases r with
        | cons r1 r2 =>
          refine .cons ⟨r1, ?_⟩ (ih (fun y hy => hx y (List.mem_cons_of_mem _ hy)) r2)
          obtain ⟨ts, rts, ht, _⟩ := I.tuple (SqT.of (K := X.K) (hx x List.mem_cons_self))
          cases rts with
          | cons a1 rr =>
            cases rr with
            | cons a2 rr =>
              cases rr
              obtain ⟨t1, rfl⟩ := a1
              obtain ⟨t2, rfl⟩ := a2
              exact ⟨t1, t2, ht⟩
    exact go hx r
  turn := fun A s h0 u x hroom hh mod hbs hk r hl => by
    obtain ⟨t1, t2, o, ho, hc, n, hd⟩ := hl
    cases r
    exact h A s x.1 x.2.1 x.2.2 t1 t2 hroom hh mod hbs ⟨o, hk _ _ ho, hc, n, hd⟩
end
/-! ### a font as data -/
abbrev AdvL := List (Str × Int)
abbrev KrnL := List ((Str × Str) × Int)
def lget {κ : Type} [DecidableEq κ] (l : List (κ × Int)) (k : κ) : Option Int := (l.find? fun p => decide (p.1 = k)).map (·.2)
def lput {κ : Type} [DecidableEq κ] (l : List (κ × Int)) (k : κ) (v : Int) : List (κ × Int) := if (l.any fun p => decide (p.1 = k)) = true then l.map (fun p => if p.1 = k then (p.1, v) else p) else l ++ [(k, v)]
def ldrop {κ : Type} [DecidableEq κ] (l : List (κ × Int)) (k : κ) : List (κ × Int) := l.filter fun p => decide (p.1 ≠ k)
/-- the same list under other keys, as a tracked dict holds it -/
def enc {κ κ' : Type} (c : κ → κ') (l : List (κ × Int)) : List (κ' × V) := l.map fun p => (c p.1, .int p.2)
section
variable {κ κ' : Type} [DecidableEq κ] [DecidableEq κ'] {c : κ → κ'} (hc : ∀ a b, c a = c b → a = b)
include hc
theorem dec_c (a b : κ) : decide (c a = c b) = decide (a = b) := by
  by_cases h : a = b
  · rw [decide_eq_true h, decide_eq_true (congrArg c h)]
  · rw [decide_eq_false h, decide_eq_false fun z => h (hc _ _ z)]
theorem enc_get (l : List (κ × Int)) (k : κ) : valV (enc c l) (c k) = (lget l k).map V.int := by
  unfold valV lget enc
  rw [List.find?_map]
  have e : ((fun kv : κ' × V => decide (kv.1 = c k)) ∘ fun p : κ × Int => (c p.1, V.int p.2)) = fun p => decide (p.1 = k) := by
    funext p
    exact dec_c hc _ _
  rw [e]
  cases l.find? fun p => decide (p.1 = k) <;> rfl
theorem enc_put (l : List (κ × Int)) (k : κ) (v : Int) : putK (enc c l) (c k) (.int v) = enc c (lput l k v) := by
  unfold putK lput enc
  rw [List.any_map]
  have e : ((fun kv : κ' × V => decide (kv.1 = c k)) ∘ fun p : κ × Int => (c p.1, V.int p.2)) = fun p => decide (p.1 = k) := by
    funext p
    exact dec_c hc _ _
  rw [e]
  split
  · rw [List.map_map, List.map_map]
    refine List.map_congr_left fun p _ => ?_
    show (if c p.1 = c k then (c p.1, V.int v) else (c p.1, V.int p.2)) = _
    by_cases h : p.1 = k
    · rw [if_pos (congrArg c h)]
      simp [h]
    · rw [if_neg fun z => h (hc _ _ z)]
      simp [h]
  · rw [List.map_append]
    rfl
theorem enc_drop (l : List (κ × Int)) (k : κ) : dropK (enc c l) (c k) = enc c (ldrop l k) := by
  unfold dropK ldrop enc
  rw [List.filter_map]
  congr 1
  refine List.filter_congr fun p _ => ?_
  show decide (c p.1 ≠ c k) = decide (p.1 ≠ k)
  by_cases h : p.1 = k
  · rw [decide_eq_false (by simp [h]), decide_eq_false (by simp [h])]
  · rw [decide_eq_true (p := c p.1 ≠ c k) (fun z => h (hc _ _ z)), decide_eq_true (p := p.1 ≠ k) h]
end
def cA (g : Str) : Key := .inr g
def cK (p : Str × Str) : List Key := [.inr p.1, .inr p.2]
theorem cA_inj (a b : Str) (h : cA a = cA b) : a = b := Sum.inr.inj h
theorem cK_inj (a b : Str × Str) (h : cK a = cK b) : a = b := by
  obtain ⟨a1, a2⟩ := a
  obtain ⟨b1, b2⟩ := b
  have h1 : (Sum.inr a1 : Key) = Sum.inr b1 ∧ [(Sum.inr a2 : Key)] = [Sum.inr b2] := List.cons.inj h
  have h2 := List.cons.inj h1.2
  rw [Sum.inr.inj h1.1, Sum.inr.inj h2.1]
/-- what a change remembers -/
inductive Rec where
  | adv (g : Str) (old : Option Int)
  | krn (l r : Str) (old : Option Int)
  | blank (old : Int)
def ov : Option Int → V
  | none => .non
  | some n => .int n
def RecAt (H : Hp) (t : Addr) : Rec → Prop
  | .adv g old => H t = some (.tup [.str "advance", .str g, ov old])
  | .krn l r old => ∃ q, H t = some (.tup [.str "kern", .ref q, ov old]) ∧ H q = some (.tup [.str l, .str r])
  | .blank old => H t = some (.tup [.str "blank", .str "", .int old])
def RecsAt (H : Hp) (l : Addr) (rs : List Rec) : Prop := ∃ ts : List Addr, H l = some (.lst (ts.map V.ref)) ∧ Paired (RecAt H) ts rs
structure FSt where
  adv : AdvL
  krn : KrnL
  blank : Int
/-- where a font's parts stand -/
structure Own where
  dx : Addr
  dA : Addr
  dN : Addr
  dP : Addr
def fflds (o : Own) (b : Int) : List (Str × V) := [("_advances", .ref o.dA), ("_kerns", .ref o.dN), ("_blank", .int b), ("_past", .ref o.dP)]
structure FontAt (C : Addr) (H : Hp) (p : Addr) (o : Own) (st : FSt) (past : List (List Rec)) : Prop where
  ob : H p = some (.ins C o.dx (fflds o st.blank))
  da : H o.dA = some (.dK (enc cA st.adv))
  dn : H o.dN = some (.dT (enc cK st.krn))
  dp : ∃ ls : List Addr, H o.dP = some (.lst (ls.map V.ref)) ∧ Paired (RecsAt H) ls past ∧ ∀ l ∈ ls, l ≠ o.dP
  small : st.adv.length ≤ 1000 ∧ st.krn.length ≤ 1000 ∧ past.length ≤ 1000
/-- all but the font's own parts stays -/
def KeepF (p : Addr) (o : Own) (H H' : Hp) : Prop := ∀ a u, H a = some u → a ≠ p → a ≠ o.dA → a ≠ o.dN → a ≠ o.dP → H' a = some u
theorem KeepF.refl {p : Addr} {o : Own} {H : Hp} : KeepF p o H H := fun _ _ e _ _ _ _ => e
theorem KeepF.trans {p : Addr} {o : Own} {H H1 H2 : Hp} (a : KeepF p o H H1) (b : KeepF p o H1 H2) : KeepF p o H H2 := fun x u e h1 h2 h3 h4 => b x u (a x u e h1 h2 h3 h4) h1 h2 h3 h4
theorem KeepF.same {p : Addr} {o : Own} {H H' : Hp} (s : Same H H') : KeepF p o H H' := fun x u e _ _ _ _ => s x u e
theorem RecAt.sm {H H' : Hp} (s : ∀ a xs, H a = some (.tup xs) → H' a = some (.tup xs)) : ∀ {t : Addr} {r : Rec}, RecAt H t r → RecAt H' t r
  | _, .adv _ _, h => s _ _ h
  | _, .krn _ _ _, ⟨q, h1, h2⟩ => ⟨q, s _ _ h1, s _ _ h2⟩
  | _, .blank _, h => s _ _ h
theorem paired_mono {α β : Type} {R S : α → β → Prop} (h : ∀ a b, R a b → S a b) : ∀ {as : List α} {bs : List β}, Paired R as bs → Paired S as bs
  | _, _, .nil => .nil
  | _, _, .cons r t => .cons (h _ _ r) (paired_mono h t)
theorem paired_mem {α β : Type} {R S : α → β → Prop} : ∀ {as : List α} {bs : List β}, Paired R as bs → (∀ a ∈ as, ∀ b, R a b → S a b) → Paired S as bs
  | _, _, .nil, _ => .nil
  | _, _, .cons r t, h => .cons (h _ List.mem_cons_self _ r) (paired_mem t fun a ha => h a (List.mem_cons_of_mem _ ha))
theorem RecsAt.sm {H H' : Hp} {l : Addr} {rs : List Rec} (h : RecsAt H l rs) (hl : ∀ xs, H l = some (.lst xs) → H' l = some (.lst xs)) (s : ∀ a xs, H a = some (.tup xs) → H' a = some (.tup xs)) : RecsAt H' l rs := by
  obtain ⟨ts, h1, h2⟩ := h
  exact ⟨ts, hl _ h1, paired_mono (fun _ _ => RecAt.sm s) h2⟩
theorem look_ne {k a : Str} {v : V} {l : List (Str × V)} (h : (k == a) = false) : ((a, v) :: l).lookup k = l.lookup k := by simp [List.lookup, h]
theorem look_eq {k : Str} {v : V} {l : List (Str × V)} : ((k, v) :: l).lookup k = some v := by simp [List.lookup]
theorem fflds_adv (o : Own) (b : Int) : (fflds o b).lookup ("_advances" : Str) = some (.ref o.dA) := look_eq
theorem fflds_krn (o : Own) (b : Int) : (fflds o b).lookup ("_kerns" : Str) = some (.ref o.dN) := (look_ne (by decide +kernel)).trans look_eq
theorem fflds_blank (o : Own) (b : Int) : (fflds o b).lookup ("_blank" : Str) = some (.int b) := (look_ne (by decide +kernel)).trans ((look_ne (by decide +kernel)).trans look_eq)
theorem fflds_past (o : Own) (b : Int) : (fflds o b).lookup ("_past" : Str) = some (.ref o.dP) := (look_ne (by decide +kernel)).trans ((look_ne (by decide +kernel)).trans ((look_ne (by decide +kernel)).trans look_eq))
theorem fflds_no (o : Own) (b : Int) {m : Str} (h1 : (m == ("_advances" : Str)) = false) (h2 : (m == ("_kerns" : Str)) = false) (h3 : (m == ("_blank" : Str)) = false) (h4 : (m == ("_past" : Str)) = false) : (fflds o b).lookup m = none :=
  (look_ne h1).trans ((look_ne h2).trans ((look_ne h3).trans ((look_ne h4).trans rfl)))
theorem putF_ne {k a : Str} {v w : V} {l : List (Str × V)} (h : ¬ a = k) : putF k v ((a, w) :: l) = (a, w) :: putF k v l := by
  show (if a = k then _ else _) = _
  rw [if_neg h]
theorem putF_eq {k : Str} {v w : V} {l : List (Str × V)} : putF k v ((k, w) :: l) = (k, v) :: l := by
  show (if k = k then _ else _) = _
  rw [if_pos rfl]
theorem fflds_put (o : Own) (b n : Int) : putF "_blank" (.int n) (fflds o b) = fflds o n := by
  unfold fflds
  rw [putF_ne (by decide +kernel), putF_ne (by decide +kernel), putF_eq]
theorem fflds_make (o : Own) (b : Int) : putF "_past" (.ref o.dP) (putF "_blank" (.int b) (putF "_kerns" (.ref o.dN) (putF "_advances" (.ref o.dA) []))) = fflds o b := by
  show putF "_past" (.ref o.dP) (putF "_blank" (.int b) (putF "_kerns" (.ref o.dN) [("_advances", .ref o.dA)])) = _
  rw [putF_ne (by decide +kernel)]
  show putF "_past" (.ref o.dP) (putF "_blank" (.int b) [("_advances", .ref o.dA), ("_kerns", .ref o.dN)]) = _
  rw [putF_ne (by decide +kernel), putF_ne (by decide +kernel)]
  show putF "_past" (.ref o.dP) [("_advances", .ref o.dA), ("_kerns", .ref o.dN), ("_blank", .int b)] = _
  rw [putF_ne (by decide +kernel), putF_ne (by decide +kernel), putF_ne (by decide +kernel)]
  rfl
theorem FontAt.kinds {C : Addr} {H : Hp} {p : Addr} {o : Own} {st : FSt} {past : List (List Rec)} (F : FontAt C H p o st past) : p ≠ o.dA ∧ p ≠ o.dN ∧ p ≠ o.dP ∧ o.dA ≠ o.dN ∧ o.dA ≠ o.dP ∧ o.dN ≠ o.dP := by
  obtain ⟨ls, h, _, _⟩ := F.dp
  exact ⟨ne_of F.ob F.da (by intro z; cases z), ne_of F.ob F.dn (by intro z; cases z), ne_of F.ob h (by intro z; cases z), ne_of F.da F.dn (by intro z; cases z), ne_of F.da h (by intro z; cases z), ne_of F.dn h (by intro z; cases z)⟩
/-- what was no part of the font and stood, stands: so the font too, if its own parts do -/
theorem FontAt.sm {C : Addr} {H H' : Hp} {p : Addr} {o : Own} {st : FSt} {past : List (List Rec)} (F : FontAt C H p o st past) (s : Same H H') : FontAt C H' p o st past := by
  obtain ⟨ls, h, h1, h2⟩ := F.dp
  exact ⟨s _ _ F.ob, s _ _ F.da, s _ _ F.dn, ⟨ls, s _ _ h, paired_mono (fun _ _ r => r.sm (fun _ => s _ _) fun _ _ => s _ _) h1, h2⟩, F.small⟩
/-! ### the small methods -/
structure TxF (K : PySem.W.Frag) (mg : Str → Option Value) (C CI fE fW fBt fWr : Addr) : Prop where
  cl : Cls K C
  nA : NoAttr K C "_advances"
  nN : NoAttr K C "_kerns"
  nB : NoAttr K C "_blank"
  nP : NoAttr K C "_past"
  adv : ∃ u, Con K C "MOST_ADVANCE" (.int 1000000) u
  und : ∃ u, Con K C "MOST_UNDO" (.int 50) u
  err : ErrC K mg "InvalidNumber" CI fE
  whole : At K mg "is_whole" fW
  btw : At K mg "check_between" fBt
  wr : At K mg "write" fWr
  len : mg "len" = none
def inR (v : V) (lo hi : Int) : Prop := ∃ n, v = .int n ∧ lo ≤ n ∧ n ≤ hi
def spBetween (K : PySem.W.Frag) (CI : Addr) : Sp := fun vs H Q E => ∃ (v : V) (i b : Bool) (lo hi : Int), vs = [v, .int lo, .int hi] ∧ Kd K H v i b ∧ ((i && !b) = true → ∃ n, v = .int n) ∧ ((i && !b) = false → ∀ n, v ≠ .int n) ∧
  (¬ inR v lo hi → ∀ d, H d = none → E (.ref CI) (some d) (upd H d (.xd [("value", v)]))) ∧ (inR v lo hi → Q .non H)
def spWriteK : Sp := fun vs H Q _ => ∃ (d : Addr) (g : Str) (x : Option Int) (l : AdvL), vs = [.ref d, .str g, ov x] ∧ H d = some (.dK (enc cA l)) ∧ l.length ≤ 1000 ∧
  Q (ov (lget l g)) (upd H d (.dK (enc cA (match x with | none => ldrop l g | some n => lput l g n))))
def spWriteT : Sp := fun vs H Q _ => ∃ (d q : Addr) (k : Str × Str) (x : Option Int) (l : KrnL), vs = [.ref d, .ref q, ov x] ∧ H d = some (.dT (enc cK l)) ∧ H q = some (.tup [.str k.1, .str k.2]) ∧ l.length ≤ 1000 ∧
  Q (ov (lget l k)) (upd H d (.dT (enc cK (match x with | none => ldrop l k | some n => lput l k n))))
theorem upd_id {H : Hp} {d : Addr} {u : HO} (h : H d = some u) : upd H d u = H := by
  funext b
  by_cases e : b = d
  · rw [e, upd_same, h]
  · rw [upd_ne e]
theorem ov_get (x : Option Int) : (x.map V.int).getD .non = ov x := by cases x <;> rfl
theorem ov_isN (x : Option Int) : decide (ov x = .non) = x.isNone := by cases x <;> simp [ov]
theorem ldrop_none {κ : Type} [DecidableEq κ] {l : List (κ × Int)} {k : κ} (h : lget l k = none) : ldrop l k = l := by
  unfold lget at h
  unfold ldrop
  rw [Option.map_eq_none_iff, List.find?_eq_none] at h
  rw [List.filter_eq_self]
  intro p hp
  have := h p hp
  simpa using this
theorem kV_cK (k : Str × Str) : (cK k).map kV = [V.str k.1, V.str k.2] := rfl
section
variable {P : Program} {w : World} {K : PySem.W.Frag} {mg : Str → Option Value} {base : Heap} {C CI fE fW fBt fWr : Addr}
abbrev sIsB : Stmt := top 24
theorem scIsB : FnScope ["value", "low", "high"] ["value", "low", "high"] (defScope sIsB) := ⟨rfl, rfl, rfl, by decide +kernel, rfl, by decide +kernel, by decide +kernel⟩
/-- is_between: the answer of inR -/
def spIsB (K : PySem.W.Frag) : Sp := fun vs H Q _ => ∃ (v : V) (i b : Bool) (lo hi : Int), vs = [v, .int lo, .int hi] ∧ Kd K H v i b ∧ ((i && !b) = true → ∃ n, v = .int n) ∧ ((i && !b) = false → ∀ n, v ≠ .int n) ∧
  (inR v lo hi → Q (.bl true) H) ∧ (¬ inR v lo hi → Q (.bl false) H)
theorem ok_isB {f : Addr} {fd fdW : FuncData} (F : Fun K "is_between" "is_between" sIsB f fd) (T : TxF K mg C CI fE fW fBt fWr) (GW : FnOk P w K mg base CX0 1 fW fdW ["value"] (spWhole K)) (bW : Binds K fdW ["value"] []) :
    FnOk P w K mg base CX0 2 f fd ["value", "low", "high"] (spIsB K) := by
  refine F.ok scIsB (fun vs H Q E h => by obtain ⟨v, i, b, lo, hi, rfl, _⟩ := h; rfl) (fun cdv A outer s H vs Q E hr h => ?_)
  obtain ⟨v, i, b, lo, hi, rfl, kd, h1, h0, kT, kF⟩ := h
  refine ⟨_, pss_one (ps_ret (pe_and (pe_call GW hr (by rfl) T.whole.g T.whole.k bW .nil pass0 (pa_cons (pv 0) pa_nil)) (pe_one (pe_chain op_le op_le (pv 1) (pv 0) (pv 2))))), ?_⟩
  refine ⟨_, rfl, v, i, b, rfl, kd, _, rfl, ?_⟩
  cases hib : (i && !b) with
  | false => exact iteF (kF fun ⟨n, e, _⟩ => h0 hib n e)
  | true =>
    obtain ⟨n, rfl⟩ := h1 hib
    refine iteT ⟨_, rfl, _, rfl, _, _, rfl, rfl, _, rfl, ?_⟩
    refine ite2 (fun hl => ?_) (fun hl => ?_)
    · refine ⟨_, rfl, _, _, rfl, rfl, ?_⟩
      have hl' : lo ≤ n := of_decide_eq_true hl
      by_cases hh : n ≤ hi
      · show Q (.bl (decide (n ≤ hi))) H
        rw [decide_eq_true hh]
        exact kT ⟨n, rfl, hl', hh⟩
      · show Q (.bl (decide (n ≤ hi))) H
        rw [decide_eq_false hh]
        exact kF fun ⟨m, e, _, e2⟩ => by cases e; exact hh e2
    · exact kF fun ⟨m, e, e1, _⟩ => by cases e; exact hl (decide_eq_true e1)
abbrev sBetween : Stmt := top 25
theorem scBetween : FnScope ["value", "low", "high"] ["value", "low", "high"] (defScope sBetween) := ⟨rfl, rfl, rfl, by decide +kernel, rfl, by decide +kernel, by decide +kernel⟩
theorem ok_between {f fI : Addr} {fd fdI fdE : FuncData} (F : Fun K "check_between" "check_between" sBetween f fd) (T : TxF K mg C CI fE fW fBt fWr) (aI : At K mg "is_between" fI) (GI : FnOk P w K mg base CX0 2 fI fdI ["value", "low", "high"] (spIsB K)) (bI : Binds K fdI ["value", "low", "high"] [])
    (GE : FnOk P w K mg base CX0 1 fE fdE ["self", "value"] (spEx1 CI "value")) (bE : Binds K fdE ["self", "value"] []) : FnOk P w K mg base (L2.CX P w) 3 f fd ["value", "low", "high"] (spBetween K CI) := by
  refine F.okX scBetween (fun vs H Q E h => by obtain ⟨v, i, b, lo, hi, rfl, _⟩ := h; rfl) (fun cdv A outer s H vs Q E hr h => ?_)
  obtain ⟨v, i, b, lo, hi, rfl, kd, h1, h0, kE, kQ⟩ := h
  refine ⟨_, pss_one (ps_if (pt_not (pt_val (pe_call GI hr (by rfl) aI.g aI.k bI .nil pass0 (pa_cons (pv 0) (pa_cons (pv 1) (pa_cons (pv 2) pa_nil))))))
    (pss_one (ps_raise1 T.err GE hr bE pass0 rfl (takes_of rfl rfl rfl rfl) (pv 0) (fun σ H P R h => mono_tVar σ H P R h))) pss_nil), ?_⟩
  refine ⟨_, rfl, _, rfl, _, rfl, v, i, b, lo, hi, rfl, kd, h1, h0, fun hin => ?_, fun hout => ?_⟩
  · exact ⟨_, rfl, iteF (kQ hin)⟩
  · exact ⟨_, rfl, iteT ⟨_, rfl, fun d hd => kE hout d hd⟩⟩
abbrev sWrite : Stmt := top 33
theorem scWrite : FnScope ["table", "key", "value", "old"] ["table", "key", "value"] (defScope sWrite) := ⟨rfl, rfl, rfl, by decide +kernel, rfl, by decide +kernel, by decide +kernel⟩
theorem ok_writeK {f : Addr} {fd : FuncData} (F : Fun K "write" "write" sWrite f fd) : FnOk P w K mg base CX0 1 f fd ["table", "key", "value"] spWriteK := by
  refine F.ok scWrite (fun vs H Q E h => ?_) (fun cdv A outer s H vs Q E hr h => ?_)
  · obtain ⟨d, g, x, l, rfl, _⟩ := h
    rfl
  · obtain ⟨d, g, x, l, rfl, hd, hl, k⟩ := h
    have hu := hu_of hr
    have nd := scWrite.nd
    refine ⟨_, pss_cons (ps_set (i := 3) nd rfl (Or.inl rfl) (pe_dget1 hu (pv 0) (pv 1) ⟨rfl, rfl, rfl, rfl⟩))
      (pss_cons (ps_if (pt_cmp (pc_isN (pv 2))) (pss_one (ps_expr (pe_dpop2 (pv 0) (pv 1) pe_non ⟨rfl, rfl, rfl, rfl⟩))) (pss_one (ps_dput hu (pv 0) (pv 1) (pv 2) rfl)))
      (pss_one (ps_ret (pv 3)))), ?_⟩
    refine ⟨_, rfl, d, rfl, .inl ⟨_, .inl hd⟩, _, rfl, _, DGet.k (k := Sum.inr g) hd, ?_⟩
    rw [show valV (enc cA l) (Sum.inr g : Key) = (lget l g).map V.int from enc_get cA_inj l g, ov_get]
    refine ⟨_, rfl, _, rfl, ?_⟩
    rw [ov_isN]
    cases x with
    | none =>
      refine iteT ⟨_, rfl, d, rfl, .inl ⟨_, .inl hd⟩, _, rfl, _, Sum.inr g, hd, rfl, fun v hv => ?_, fun hn => ?_⟩
      · have e : dropK (enc cA l) (Sum.inr g : Key) = enc cA (ldrop l g) := enc_drop cA_inj l g
        rw [e]
        exact ⟨_, rfl, k⟩
      · rw [show valV (enc cA l) (Sum.inr g : Key) = (lget l g).map V.int from enc_get cA_inj l g, Option.map_eq_none_iff] at hn
        rw [ldrop_none hn, upd_id hd] at k
        exact ⟨_, rfl, k⟩
    | some n =>
      refine iteF ⟨_, rfl, _, rfl, _, rfl, d, _, rfl, DPut.k (k := Sum.inr g) hd (small1000 (by unfold enc; rw [List.length_map]; exact hl)), ?_⟩
      have e : putK (enc cA l) (Sum.inr g : Key) (.int n) = enc cA (lput l g n) := enc_put cA_inj l g n
      rw [show ov (some n) = V.int n from rfl, e]
      exact ⟨_, rfl, k⟩
theorem ok_writeT {f : Addr} {fd : FuncData} (F : Fun K "write" "write" sWrite f fd) : FnOk P w K mg base CX0 1 f fd ["table", "key", "value"] spWriteT := by
  refine F.ok scWrite (fun vs H Q E h => ?_) (fun cdv A outer s H vs Q E hr h => ?_)
  · obtain ⟨d, q, g, x, l, rfl, _⟩ := h
    rfl
  · obtain ⟨d, q, g, x, l, rfl, hd, hq, hl, k⟩ := h
    have hu := hu_of hr
    have nd := scWrite.nd
    have hq' : H q = some (.tup ((cK g).map kV)) := hq
    refine ⟨_, pss_cons (ps_set (i := 3) nd rfl (Or.inl rfl) (pe_dget1 hu (pv 0) (pv 1) ⟨rfl, rfl, rfl, rfl⟩))
      (pss_cons (ps_if (pt_cmp (pc_isN (pv 2))) (pss_one (ps_expr (pe_bm PySem.F.plainAttrs_dict PySem.F.slot_dict_pop PySem.F.type_dict_pop (DX.mt_popT hu) (pv 0) (pa_cons (pv 1) (pa_cons pe_non pa_nil))))) (pss_one (ps_dput hu (pv 0) (pv 1) (pv 2) rfl)))
      (pss_one (ps_ret (pv 3)))), ?_⟩
    refine ⟨_, rfl, d, rfl, .inr ⟨_, .inl hd⟩, _, rfl, _, DGet.t (k := cK g) hd hq', ?_⟩
    rw [enc_get cK_inj l g, ov_get]
    refine ⟨_, rfl, _, rfl, ?_⟩
    rw [ov_isN]
    cases x with
    | none =>
      refine iteT ⟨_, rfl, .inr (.inr (.inl ⟨rfl, .inr ⟨_, hd⟩⟩)), _, rfl, d, _, cK g, q, _, rfl, rfl, hd, hq', fun v hv => ?_, fun hn => ?_⟩
      · rw [enc_drop cK_inj l g]
        exact ⟨_, rfl, k⟩
      · rw [enc_get cK_inj l g, Option.map_eq_none_iff] at hn
        rw [ldrop_none hn, upd_id hd] at k
        exact ⟨_, rfl, k⟩
    | some n =>
      refine iteF ⟨_, rfl, _, rfl, _, rfl, d, _, rfl, DPut.t (k := cK g) hd hq' (small1000 (by unfold enc; rw [List.length_map]; exact hl)), ?_⟩
      rw [show ov (some n) = V.int n from rfl, enc_put cK_inj l g n]
      exact ⟨_, rfl, k⟩
end
/-! ### the small methods of a font -/
theorem noneU {H : Hp} {a b : Addr} {u : HO} (e : upd H a u b = none) : H b = none := by
  by_cases h : b = a
  · rw [h, upd_same] at e
    cases e
  · rwa [upd_ne h] at e
section
variable {C : Addr} {H H' : Hp} {p : Addr} {o : Own} {st st' : FSt} {past : List (List Rec)}
theorem FontAt.keepT (F : FontAt C H p o st past) (k : KeepF p o H H') {a : Addr} {xs : List V} (h : H a = some (.tup xs)) : H' a = some (.tup xs) := by
  obtain ⟨ls, hp, _⟩ := F.dp
  exact k a _ h (ne_of h F.ob (by intro z; cases z)) (ne_of h F.da (by intro z; cases z)) (ne_of h F.dn (by intro z; cases z)) (ne_of h hp (by intro z; cases z))
theorem FontAt.keepL (F : FontAt C H p o st past) (k : KeepF p o H H') {a : Addr} {xs : List V} (h : H a = some (.lst xs)) (ha : a ≠ o.dP) : H' a = some (.lst xs) :=
  k a _ h (ne_of h F.ob (by intro z; cases z)) (ne_of h F.da (by intro z; cases z)) (ne_of h F.dn (by intro z; cases z)) ha
theorem FontAt.recd (F : FontAt C H p o st past) (k : KeepF p o H H') {t : Addr} {r : Rec} (h : RecAt H t r) : RecAt H' t r := RecAt.sm (fun _ _ e => F.keepT k e) h
theorem FontAt.recs (F : FontAt C H p o st past) (k : KeepF p o H H') {l : Addr} {rs : List Rec} (h : RecsAt H l rs) (hl : l ≠ o.dP) : RecsAt H' l rs := h.sm (fun _ e => F.keepL k e hl) fun _ _ e => F.keepT k e
theorem FontAt.put (F : FontAt C H p o st past) (k : KeepF p o H H') (ob : H' p = some (.ins C o.dx (fflds o st'.blank))) (da : H' o.dA = some (.dK (enc cA st'.adv))) (dn : H' o.dN = some (.dT (enc cK st'.krn)))
    (dp : ∀ u, H o.dP = some u → H' o.dP = some u) (sm : st'.adv.length ≤ 1000 ∧ st'.krn.length ≤ 1000) : FontAt C H' p o st' past := by
  obtain ⟨ls, h, h1, h2⟩ := F.dp
  exact ⟨ob, da, dn, ⟨ls, dp _ h, paired_mem h1 fun l hl rs r => F.recs k r (h2 l hl), h2⟩, sm.1, sm.2, F.small.2.2⟩
theorem KeepF.upA (u : HO) : KeepF p o H (upd H o.dA u) := fun a v e _ h _ _ => by rw [upd_ne h]; exact e
theorem KeepF.upN (u : HO) : KeepF p o H (upd H o.dN u) := fun a v e _ _ h _ => by rw [upd_ne h]; exact e
theorem KeepF.upP (u : HO) : KeepF p o H (upd H o.dP u) := fun a v e _ _ _ h => by rw [upd_ne h]; exact e
theorem KeepF.upO (u : HO) : KeepF p o H (upd H p u) := fun a v e h _ _ _ => by rw [upd_ne h]; exact e
end
def setA (st : FSt) (g : Str) (x : Option Int) : FSt := { st with adv := match x with | none => ldrop st.adv g | some n => lput st.adv g n }
def setK (st : FSt) (g : Str × Str) (x : Option Int) : FSt := { st with krn := match x with | none => ldrop st.krn g | some n => lput st.krn g n }
def setB (st : FSt) (n : Int) : FSt := { st with blank := n }
def remember (past : List (List Rec)) (rs : List Rec) : List (List Rec) := if past.length + 1 > 50 then (past ++ [rs]).drop 1 else past ++ [rs]
def spWrA (C : Addr) : Sp := fun vs H Q _ => ∃ (p : Addr) (g : Str) (x : Option Int) (o : Own) (st : FSt) (past : List (List Rec)), vs = [.ref p, .str g, ov x] ∧ FontAt C H p o st past ∧ (setA st g x).adv.length ≤ 1000 ∧
  ∀ H' t, H t = none → KeepF p o H H' → FontAt C H' p o (setA st g x) past → RecAt H' t (.adv g (lget st.adv g)) → Q (.ref t) H'
def spWrK (C : Addr) : Sp := fun vs H Q _ => ∃ (p q : Addr) (g : Str × Str) (x : Option Int) (o : Own) (st : FSt) (past : List (List Rec)), vs = [.ref p, .ref q, ov x] ∧ FontAt C H p o st past ∧ H q = some (.tup [.str g.1, .str g.2]) ∧ (setK st g x).krn.length ≤ 1000 ∧
  ∀ H' t, H t = none → KeepF p o H H' → FontAt C H' p o (setK st g x) past → RecAt H' t (.krn g.1 g.2 (lget st.krn g)) → Q (.ref t) H'
def spPutB (K : PySem.W.Frag) (C CI : Addr) : Sp := fun vs H Q E => ∃ (p : Addr) (v : V) (i b : Bool) (o : Own) (st : FSt) (past : List (List Rec)), vs = [.ref p, v] ∧ FontAt C H p o st past ∧ Kd K H v i b ∧ ((i && !b) = true → ∃ n, v = .int n) ∧ ((i && !b) = false → ∀ n, v ≠ .int n) ∧
  (¬ inR v 0 1000000 → ∀ d, H d = none → E (.ref CI) (some d) (upd H d (.xd [("value", v)]))) ∧
  (∀ n, v = .int n → 0 ≤ n → n ≤ 1000000 → ∀ H' l, H l = none → KeepF p o H H' → FontAt C H' p o (setB st n) past → RecsAt H' l [.blank st.blank] → Q (.ref l) H')
def spRemember (C : Addr) : Sp := fun vs H Q _ => ∃ (p l : Addr) (o : Own) (st : FSt) (past : List (List Rec)) (rs : List Rec), vs = [.ref p, .ref l] ∧ FontAt C H p o st past ∧ RecsAt H l rs ∧ l ≠ o.dP ∧
  ∀ H', KeepF p o H H' → FontAt C H' p o st (remember past rs) → Q .non H'
def spSetB (K : PySem.W.Frag) (C CI : Addr) : Sp := fun vs H Q E => ∃ (p : Addr) (v : V) (i b : Bool) (o : Own) (st : FSt) (past : List (List Rec)), vs = [.ref p, v] ∧ FontAt C H p o st past ∧ Kd K H v i b ∧ ((i && !b) = true → ∃ n, v = .int n) ∧ ((i && !b) = false → ∀ n, v ≠ .int n) ∧
  (¬ inR v 0 1000000 → ∀ d, H d = none → E (.ref CI) (some d) (upd H d (.xd [("value", v)]))) ∧
  (∀ n, v = .int n → 0 ≤ n → n ≤ 1000000 → ∀ H', KeepF p o H H' → FontAt C H' p o (setB st n) (remember past [.blank st.blank]) → Q .non H')
section
variable {P : Program} {w : World} {K : PySem.W.Frag} {mg : Str → Option Value} {base : Heap} {C CI fE fW fBt fWr : Addr}
abbrev sWrA : Stmt := inClass (top 29) 40
theorem scWrA : FnScope ["self", "glyph", "advance"] ["self", "glyph", "advance"] (defScope sWrA) := ⟨rfl, rfl, rfl, by decide +kernel, rfl, by decide +kernel, by decide +kernel⟩
theorem ok_wrA {f : Addr} {fd fdWr : FuncData} (F : Fun K "_write_advance" "Font._write_advance" sWrA f fd) (T : TxF K mg C CI fE fW fBt fWr) (GW : FnOk P w K mg base CX0 1 fWr fdWr ["table", "key", "value"] spWriteK) (bW : Binds K fdWr ["table", "key", "value"] []) :
    FnOk P w K mg base CX0 2 f fd ["self", "glyph", "advance"] (spWrA C) := by
  refine F.ok scWrA (fun vs H Q E h => ?_) (fun cdv A outer s H vs Q E hr h => ?_)
  · obtain ⟨p, g, x, o, st, past, rfl, _⟩ := h
    rfl
  · obtain ⟨p, g, x, o, st, past, rfl, FA, hl, k⟩ := h
    refine ⟨_, pss_one (ps_ret (pe_tup (pa_cons pe_str (pa_cons (pv 1) (pa_cons (pe_call GW hr (by rfl) T.wr.g T.wr.k bW .nil pass0 (pa_cons (pe_fld (pv 0) rfl) (pa_cons (pv 1) (pa_cons (pv 2) pa_nil)))) pa_nil))))), ?_⟩
    refine ⟨_, rfl, _, rfl, p, C, _, _, _, rfl, FA.ob, T.cl, T.nA, fflds_adv _ _, _, rfl, _, rfl, o.dA, g, x, st.adv, rfl, FA.da, FA.small.1, ?_⟩
    refine ⟨by show 3 ≤ sizeLine; decide, fun t ht => ?_⟩
    obtain ⟨k1, k2, k3, k4, k5, k6⟩ := FA.kinds
    have F1 : FontAt C (upd H o.dA (.dK (enc cA (setA st g x).adv))) p o (setA st g x) past :=
      FA.put (KeepF.upA _) ((upd_ne k1).trans FA.ob) upd_same ((upd_ne (Ne.symm k4)).trans FA.dn) (fun u e => (upd_ne (Ne.symm k5)).trans e) ⟨hl, FA.small.2.1⟩
    exact k _ t (noneU ht) ((KeepF.upA _).trans (KeepF.same (same_upd ht))) (F1.sm (same_upd ht)) upd_same
abbrev sWrK : Stmt := inClass (top 29) 41
theorem scWrK : FnScope ["self", "pair", "kern"] ["self", "pair", "kern"] (defScope sWrK) := ⟨rfl, rfl, rfl, by decide +kernel, rfl, by decide +kernel, by decide +kernel⟩
theorem ok_wrK {f : Addr} {fd fdWr : FuncData} (F : Fun K "_write_kern" "Font._write_kern" sWrK f fd) (T : TxF K mg C CI fE fW fBt fWr) (GW : FnOk P w K mg base CX0 1 fWr fdWr ["table", "key", "value"] spWriteT) (bW : Binds K fdWr ["table", "key", "value"] []) :
    FnOk P w K mg base CX0 2 f fd ["self", "pair", "kern"] (spWrK C) := by
  refine F.ok scWrK (fun vs H Q E h => ?_) (fun cdv A outer s H vs Q E hr h => ?_)
  · obtain ⟨p, q, g, x, o, st, past, rfl, _⟩ := h
    rfl
  · obtain ⟨p, q, g, x, o, st, past, rfl, FA, hq, hl, k⟩ := h
    refine ⟨_, pss_one (ps_ret (pe_tup (pa_cons pe_str (pa_cons (pv 1) (pa_cons (pe_call GW hr (by rfl) T.wr.g T.wr.k bW .nil pass0 (pa_cons (pe_fld (pv 0) rfl) (pa_cons (pv 1) (pa_cons (pv 2) pa_nil)))) pa_nil))))), ?_⟩
    refine ⟨_, rfl, _, rfl, p, C, _, _, _, rfl, FA.ob, T.cl, T.nN, fflds_krn _ _, _, rfl, _, rfl, o.dN, q, g, x, st.krn, rfl, FA.dn, hq, FA.small.2.1, ?_⟩
    refine ⟨by show 3 ≤ sizeLine; decide, fun t ht => ?_⟩
    obtain ⟨k1, k2, k3, k4, k5, k6⟩ := FA.kinds
    have F1 : FontAt C (upd H o.dN (.dT (enc cK (setK st g x).krn))) p o (setK st g x) past :=
      FA.put (KeepF.upN _) ((upd_ne k2).trans FA.ob) ((upd_ne k4).trans FA.da) upd_same (fun u e => (upd_ne (Ne.symm k6)).trans e) ⟨FA.small.1, hl⟩
    exact k _ t (noneU ht) ((KeepF.upN _).trans (KeepF.same (same_upd ht))) (F1.sm (same_upd ht)) ⟨q, upd_same, (same_upd ht) _ _ (FA.keepT (KeepF.upN _) hq)⟩
abbrev sPutB : Stmt := inClass (top 29) 34
theorem scPutB : FnScope ["self", "advance", "record"] ["self", "advance"] (defScope sPutB) := ⟨rfl, rfl, rfl, by decide +kernel, rfl, by decide +kernel, by decide +kernel⟩
theorem ok_putB {f : Addr} {fd fdB : FuncData} (F : Fun K "_put_blank" "Font._put_blank" sPutB f fd) (T : TxF K mg C CI fE fW fBt fWr) (GB : FnOk P w K mg base (L2.CX P w) 3 fBt fdB ["value", "low", "high"] (spBetween K CI)) (bB : Binds K fdB ["value", "low", "high"] []) :
    FnOk P w K mg base (L2.CX P w) 4 f fd ["self", "advance"] (spPutB K C CI) := by
  obtain ⟨u1, hC⟩ := T.adv
  refine F.okX scPutB (fun vs H Q E h => ?_) (fun cdv A outer s H vs Q E hr h => ?_)
  · obtain ⟨p, v, i, b, o, st, past, rfl, _⟩ := h
    rfl
  · obtain ⟨p, v, i, b, o, st, past, rfl, FA, kd, h1, h0, kE, k⟩ := h
    have nd := scPutB.nd
    refine ⟨_, pss_cons (ps_expr (pe_call GB hr (by rfl) T.btw.g T.btw.k bB .nil (passes_call (takes_of rfl rfl rfl rfl) (fun _ _ _ _ h => h)) (pa_cons (pv 1) (pa_cons pe_int (pa_cons (pe_con (pv 0) rfl) pa_nil)))))
      (pss_cons (ps_set (i := 2) nd rfl (Or.inl rfl) (pe_tup (pa_cons pe_str (pa_cons pe_str (pa_cons (pe_fld (pv 0) rfl) pa_nil)))))
      (pss_cons (ps_fld (pv 0) (pv 1) rfl) (pss_one (ps_ret (pe_lst (pa_cons (pv 2) pa_nil)))))), ?_⟩
    refine ⟨_, rfl, _, rfl, p, C, _, _, _, _, rfl, FA.ob, T.cl, hC, fflds_no _ _ (by decide +kernel) (by decide +kernel) (by decide +kernel) (by decide +kernel), v, i, b, 0, 1000000, rfl, kd, h1, h0, kE, fun ⟨n, e, n0, n1⟩ => ?_⟩
    subst e
    refine ⟨_, rfl, p, C, _, _, _, rfl, FA.ob, T.cl, T.nB, fflds_blank _ _, by show 3 ≤ sizeLine; decide, fun t ht => ?_⟩
    refine ⟨_, rfl, _, rfl, p, C, _, _, rfl, (same_upd ht) _ _ FA.ob, T.cl, T.nB, (by show 4 < 1000; decide), ?_⟩
    rw [fflds_put]
    refine ⟨_, rfl, by show 1 ≤ sizeLine; decide, fun l hl => ?_⟩
    have F1 := FA.sm (same_upd (o := .tup [.str "blank", .str "", .int st.blank]) ht)
    obtain ⟨k1, k2, k3, k4, k5, k6⟩ := FA.kinds
    have F2 : FontAt C (upd (upd H t (.tup [.str "blank", .str "", .int st.blank])) p (.ins C o.dx (fflds o n))) p o (setB st n) past :=
      F1.put (KeepF.upO _) upd_same ((upd_ne (Ne.symm k1)).trans F1.da) ((upd_ne (Ne.symm k2)).trans F1.dn) (fun u e => (upd_ne (Ne.symm k3)).trans e) ⟨FA.small.1, FA.small.2.1⟩
    refine k n rfl n0 n1 _ l (noneU (noneU hl)) (((KeepF.same (same_upd ht)).trans (KeepF.upO _)).trans (KeepF.same (same_upd hl))) (F2.sm (same_upd hl)) ⟨[t], upd_same, .cons ?_ .nil⟩
    exact (same_upd hl) _ _ (F1.keepT (KeepF.upO _) upd_same)
end
/-! ### a class's own containers -/
section
variable {X : Cx} {C f : Addr} {n : Nat} {fd : FuncData} {ps : List Str} {sp : Sp}
theorem run_in1 {pins : List (Addr × Obj)} {σ : L2.St} {H : Hp} {s : Shared} {Q : VK} {us : List Value} {vs : List V} (F : FnOk X.prog X.w X.K X.mg X.base CX0 n f fd ps sp) (hr : Room (n + 1) X.A) (hb : Binds X.K fd ps []) (I : Inv X pins σ H s) (r : Vals vs us) (h : sp vs H Q E0) {E' : Value → Shared → Prop} :
    wpAny (model X.prog X.w) X.A.in1 (call (.ref f) us) (EP X pins σ Q) E' s := by
  have e0 : Env0 X.prog X.w X.K X.mg X.base X.A.in1 X.stack s H := by
    have e := I.env0
    exact ⟨e.frames, e.mod, e.bs, e.bsz, e.funs, e.frf, e.hok, e.bare⟩
  have hl : us.length = ps.length := by rw [← r.length]; exact F.len _ _ _ _ h
  have b := hb s us I.kIn (by rw [List.append_nil]; exact hl)
  rw [List.append_nil] at b
  refine wpAny_call (codeAny_mono (F.run X.A.in1 X.stack s H ⟨us, []⟩ us vs Q E0 hr.in1 e0 b r h) fun r s' hq => ?_)
  cases r with
  | error e => exact hq.elim
  | ok fl =>
    cases fl with
    | ret w => exact I.after hq
    | next => exact False.elim hq
    | brk => exact False.elim hq
    | cont => exact False.elim hq
/-- len(o) -/
theorem call_lenO (hs : PySem.W.findIn X.K (.ref C) "__len__" = some (some (.ref f))) (hf : PySem.W.isFn X.K (.ref f) = true) (F : FnOk X.prog X.w X.K X.mg X.base CX0 n f fd ps sp) (hb : Binds X.K fd ps []) (hr : Room (n + 1) X.A) :
    CallR X (.builtin "len") (fun xs H Q => ∃ (a dx : Addr) (fs : List (Str × V)), xs = [.ref a] ∧ H a = some (.ins C dx fs) ∧ sp [.ref a] H (fun z H' => ∃ k : Int, z = .int k ∧ 0 ≤ k ∧ k < 2 ^ 63 ∧ Q (.int k) H') E0) := by
  intro pins s σ H xs us Q I r hq
  obtain ⟨a, dx, fs, rfl, ha, hsp⟩ := hq
  cases r with
  | cons rx rr =>
    cases rr
    cases rx
    obtain ⟨mA, OA, _⟩ := ins_get I.hok ha
    obtain ⟨od, J, _⟩ := OA.look
    obtain ⟨m, hF⟩ := I.fr
    refine PySem.W.len_K hF I.ok.mod.kin J hs hf (thn (run_in1 F hr hb I (.cons (show RelV (V.ref a) (Value.ref a) from rfl) .nil) hsp) fun r s' hv => ?_)
    obtain ⟨z, H', I', rz, k, rfl, k0, k1, q⟩ := hv
    obtain ⟨t, rfl⟩ := rz
    exact ⟨⟨k0, k1⟩, .int k, H', I'.tok _, ⟨_, rfl⟩, q⟩
/-- x in o, x not in o -/
theorem op_inO (hs : PySem.W.findIn X.K (.ref C) "__contains__" = some (some (.ref f))) (hf : PySem.W.isFn X.K (.ref f) = true) (F : FnOk X.prog X.w X.K X.mg X.base CX0 n f fd ps sp) (hb : Binds X.K fd ps []) (hr : Room n X.A) :
    OpR X (compareOp .In) (fun x y H Q => ∃ (a dx : Addr) (fs : List (Str × V)), y = .ref a ∧ H a = some (.ins C dx fs) ∧ sp [.ref a, x] H (fun z H' => ∃ b, z = .bl b ∧ Q (.bl b) H') E0) := by
  intro pins s σ H x y v u Q I rx ry hq
  obtain ⟨a, dx, fs, rfl, ha, hsp⟩ := hq
  cases ry
  obtain ⟨mA, OA, _⟩ := ins_get I.hok ha
  obtain ⟨od, J, _⟩ := OA.look
  obtain ⟨m, hF⟩ := I.fr
  refine PySem.W.in_K hF I.ok.mod.kin J hs hf (thn (run_fn (us := [Value.ref a, v]) (vs := [V.ref a, x]) F hr hb .nil pass0 I (.cons (show RelV (V.ref a) (Value.ref a) from rfl) (.cons rx .nil)) hsp) fun r s' hv => ?_)
  obtain ⟨z, H', I', rz, b, rfl, q⟩ := hv
  cases rz
  exact wpAny_truthy_bool ⟨.bl b, H', I', rfl, q⟩
theorem op_notinO (hs : PySem.W.findIn X.K (.ref C) "__contains__" = some (some (.ref f))) (hf : PySem.W.isFn X.K (.ref f) = true) (F : FnOk X.prog X.w X.K X.mg X.base CX0 n f fd ps sp) (hb : Binds X.K fd ps []) (hr : Room n X.A) :
    OpR X (compareOp .NotIn) (fun x y H Q => ∃ (a dx : Addr) (fs : List (Str × V)), y = .ref a ∧ H a = some (.ins C dx fs) ∧ sp [.ref a, x] H (fun z H' => ∃ b, z = .bl b ∧ Q (.bl (!b)) H') E0) := by
  intro pins s σ H x y v u Q I rx ry hq
  obtain ⟨a, dx, fs, rfl, ha, hsp⟩ := hq
  cases ry
  obtain ⟨mA, OA, _⟩ := ins_get I.hok ha
  obtain ⟨od, J, _⟩ := OA.look
  obtain ⟨m, hF⟩ := I.fr
  refine PySem.W.notIn_K hF I.ok.mod.kin J hs hf (thn (run_fn (us := [Value.ref a, v]) (vs := [V.ref a, x]) F hr hb .nil pass0 I (.cons (show RelV (V.ref a) (Value.ref a) from rfl) (.cons rx .nil)) hsp) fun r s' hv => ?_)
  obtain ⟨z, H', I', rz, b, rfl, q⟩ := hv
  cases rz
  exact wpAny_truthy_bool ⟨.bl (!b), H', I', rfl, q⟩
end
/-! ### two helps -/
theorem paired_snoc {α β : Type} {R : α → β → Prop} : ∀ {as : List α} {bs : List β} {a : α} {b : β}, Paired R as bs → R a b → Paired R (as ++ [a]) (bs ++ [b])
  | _, _, _, _, .nil, h => .cons h .nil
  | _, _, _, _, .cons r t, h => .cons r (paired_snoc t h)
theorem foldl_take {α β : Type} (f : β → α → β) (b : β) {l : List α} {i : Nat} {a : α} (h : l[i]? = some a) : (l.take (i + 1)).foldl f b = f ((l.take i).foldl f b) a := by
  rw [List.take_add_one, h, List.foldl_append]
  rfl
/-! ### what a font tells -/
/-- v is a text: t -/
def Ks (K : PySem.W.Frag) (H : Hp) (v : V) (t : Bool) : Prop := ∃ T : String, TyX K H v (.type T) ∧ kitB T "str" = some t
theorem Ks.str {K : PySem.W.Frag} {H : Hp} {z : Str} : Ks K H (.str z) true := ⟨"str", .base (.str z), by decide +kernel⟩
theorem Ks.int {K : PySem.W.Frag} {H : Hp} {n : Int} : Ks K H (.int n) false := ⟨"int", .base (.int n), by decide +kernel⟩
theorem Ks.bl {K : PySem.W.Frag} {H : Hp} {n : Bool} : Ks K H (.bl n) false := ⟨"bool", .base (.bl n), by decide +kernel⟩
theorem Ks.non {K : PySem.W.Frag} {H : Hp} : Ks K H .non false := ⟨"NoneType", .base .non, by decide +kernel⟩
theorem Ks.tup {K : PySem.W.Frag} {H : Hp} {a : Addr} {xs : List V} (e : H a = some (.tup xs)) : Ks K H (.ref a) false := ⟨"tuple", .base (.tup e), by decide +kernel⟩
theorem Ks.lst {K : PySem.W.Frag} {H : Hp} {a : Addr} {xs : List V} (e : H a = some (.lst xs)) : Ks K H (.ref a) false := ⟨"list", .base (.lst e), by decide +kernel⟩
theorem Ks.sm {K : PySem.W.Frag} {H H' : Hp} {v : V} {t : Bool} (s : Same H H') : Ks K H v t → Ks K H' v t := fun ⟨T, ty, k⟩ => ⟨T, TyX.sm s ty, k⟩
/-- v is a glyph of the font -/
def knownV (st : FSt) : V → Bool
  | .str g => (lget st.adv g).isSome
  | _ => false
def IsS (v : V) (t : Bool) : Prop := (t = true → ∃ g, v = .str g) ∧ (t = false → ∀ g, v ≠ .str g)
theorem IsS.str {g : Str} : IsS (.str g) true := ⟨fun _ => ⟨g, rfl⟩, fun h => by cases h⟩
theorem knownV_no {st : FSt} {v : V} (h : ∀ g, v ≠ .str g) : knownV st v = false := by
  cases v <;> first | rfl | exact absurd rfl (h _)
def spHas (K : PySem.W.Frag) (C : Addr) : Sp := fun vs H Q _ => ∃ (p : Addr) (v : V) (t : Bool) (o : Own) (st : FSt) (past : List (List Rec)), vs = [.ref p, v] ∧ FontAt C H p o st past ∧ Ks K H v t ∧ IsS v t ∧ Q (.bl (knownV st v)) H
def spLen (C : Addr) : Sp := fun vs H Q _ => ∃ (p : Addr) (o : Own) (st : FSt) (past : List (List Rec)), vs = [.ref p] ∧ FontAt C H p o st past ∧ Q (.int st.adv.length) H
def spKnown (K : PySem.W.Frag) (C CU : Addr) : Sp := fun vs H Q E => ∃ (p : Addr) (v : V) (t : Bool) (o : Own) (st : FSt) (past : List (List Rec)), vs = [.ref p, v] ∧ FontAt C H p o st past ∧ Ks K H v t ∧ IsS v t ∧
  (knownV st v = false → ∀ d, H d = none → E (.ref CU) (some d) (upd H d (.xd [("glyph", v)]))) ∧ (knownV st v = true → Q .non H)
def spAdvOf (K : PySem.W.Frag) (C CU : Addr) : Sp := fun vs H Q E => ∃ (p : Addr) (v : V) (t : Bool) (o : Own) (st : FSt) (past : List (List Rec)), vs = [.ref p, v] ∧ FontAt C H p o st past ∧ Ks K H v t ∧ IsS v t ∧
  (knownV st v = false → ∀ d, H d = none → E (.ref CU) (some d) (upd H d (.xd [("glyph", v)]))) ∧ (∀ g n, v = .str g → lget st.adv g = some n → Q (.int n) H)
def spGlyphs (C : Addr) : Sp := fun vs H Q _ => ∃ (p : Addr) (o : Own) (st : FSt) (past : List (List Rec)), vs = [.ref p] ∧ FontAt C H p o st past ∧ (∀ e ∈ st.adv, e.1.length ≤ 1000) ∧
  ∀ H' l, Same H H' → H l = none → H' l = some (.lst (((st.adv.map (·.1)).mergeSort (PySem.W.dataLe false kRank)).map V.str)) → Q (.ref l) H'
/-- what the text around a font's readings is -/
structure TxH (K : PySem.W.Frag) (mg : Str → Option Value) (C fHas fLen CU fEU fPl : Addr) : Prop where
  hHas : PySem.W.findIn K (.ref C) "__contains__" = some (some (.ref fHas))
  iHas : PySem.W.isFn K (.ref fHas) = true
  hLen : PySem.W.findIn K (.ref C) "__len__" = some (some (.ref fLen))
  iLen : PySem.W.isFn K (.ref fLen) = true
  eU : ErrC K mg "UnknownGlyph" CU fEU
  mIs : mg "isinstance" = none
  mStr : mg "str" = none
  mList : mg "list" = none
  mSorted : mg "sorted" = none
  pl : mg "font_place" = some (.ref fPl)
section
variable {P : Program} {w : World} {K : PySem.W.Frag} {mg : Str → Option Value} {base : Heap} {C CI fE fW fBt fWr fHas fLen CU fEU fPl : Addr}
abbrev sHas : Stmt := inClass (top 29) 8
theorem scHas : FnScope ["self", "x"] ["self", "x"] (defScope sHas) := ⟨rfl, rfl, rfl, by decide +kernel, rfl, by decide +kernel, by decide +kernel⟩
theorem ok_has {f : Addr} {fd : FuncData} (F : Fun K "__contains__" "Font.__contains__" sHas f fd) (T : TxF K mg C CI fE fW fBt fWr) (U : TxH K mg C fHas fLen CU fEU fPl) : FnOk P w K mg base CX0 1 f fd ["self", "x"] (spHas K C) := by
  refine F.ok scHas (fun vs H Q E h => ?_) (fun cdv A outer s H vs Q E hr h => ?_)
  · obtain ⟨p, v, t, o, st, past, rfl, _⟩ := h
    rfl
  · obtain ⟨p, v, t, o, st, past, rfl, FA, ⟨TT, ty, k1⟩, ⟨s1, s0⟩, k⟩ := h
    have hu := hu_of hr
    refine ⟨_, pss_one (ps_ret (pe_and (pe_callB call_isi (by rfl) U.mIs (by decide +kernel) (pa_cons (pv 1) (pa_cons (pe_bltn (v := .ty "str") (by rfl) U.mStr (by decide +kernel) rfl) pa_nil)))
      (pe_one (pe_cmp (pc_din hu (pv 1) (pe_fld (pv 0) rfl)) rfl)))), ?_⟩
    refine ⟨_, rfl, _, _, _, _, t, rfl, .ty "str", ty, kit_ty k1, t, rfl, ?_⟩
    cases t with
    | false =>
      refine iteF ?_
      rw [knownV_no (s0 rfl)] at k
      exact k
    | true =>
      obtain ⟨g, rfl⟩ := s1 rfl
      refine iteT ⟨_, rfl, _, rfl, p, C, _, _, _, rfl, FA.ob, T.cl, T.nA, fflds_adv _ _, o.dA, _, rfl, DGet.k (k := Sum.inr g) FA.da, ?_⟩
      rw [show valV (enc cA st.adv) (Sum.inr g : Key) = (lget st.adv g).map V.int from enc_get cA_inj st.adv g, Option.isSome_map]
      exact k
abbrev sLen : Stmt := inClass (top 29) 9
theorem scLen : FnScope ["self"] ["self"] (defScope sLen) := ⟨rfl, rfl, rfl, by decide +kernel, rfl, by decide +kernel, by decide +kernel⟩
theorem ok_len {f : Addr} {fd : FuncData} (F : Fun K "__len__" "Font.__len__" sLen f fd) (T : TxF K mg C CI fE fW fBt fWr) : FnOk P w K mg base CX0 1 f fd ["self"] (spLen C) := by
  refine F.ok scLen (fun vs H Q E h => ?_) (fun cdv A outer s H vs Q E hr h => ?_)
  · obtain ⟨p, o, st, past, rfl, _⟩ := h
    rfl
  · obtain ⟨p, o, st, past, rfl, FA, k⟩ := h
    refine ⟨_, pss_one (ps_ret (pe_callB call_lenD (by rfl) T.len PySem.boot_len (pa_cons (pe_fld (pv 0) rfl) pa_nil))), ?_⟩
    refine ⟨_, rfl, p, C, _, _, _, rfl, FA.ob, T.cl, T.nA, fflds_adv _ _, o.dA, _, rfl, FA.da, ?_⟩
    unfold enc
    rw [List.length_map]
    exact k
abbrev sKnown : Stmt := inClass (top 29) 35
theorem scKnown : FnScope ["self", "glyph"] ["self", "glyph"] (defScope sKnown) := ⟨rfl, rfl, rfl, by decide +kernel, rfl, by decide +kernel, by decide +kernel⟩
theorem ok_known {f : Addr} {fd fdH fdE : FuncData} (F : Fun K "_check_known" "Font._check_known" sKnown f fd) (T : TxF K mg C CI fE fW fBt fWr) (U : TxH K mg C fHas fLen CU fEU fPl) (GH : FnOk P w K mg base CX0 1 fHas fdH ["self", "x"] (spHas K C)) (bH : Binds K fdH ["self", "x"] [])
    (GE : FnOk P w K mg base CX0 1 fEU fdE ["self", "glyph"] (spEx1 CU "glyph")) (bE : Binds K fdE ["self", "glyph"] []) : FnOk P w K mg base (L2.CX P w) 3 f fd ["self", "glyph"] (spKnown K C CU) := by
  refine F.okX scKnown (fun vs H Q E h => ?_) (fun cdv A outer s H vs Q E hr h => ?_)
  · obtain ⟨p, v, t, o, st, past, rfl, _⟩ := h
    rfl
  · obtain ⟨p, v, t, o, st, past, rfl, FA, ks, is, kE, kQ⟩ := h
    refine ⟨_, pss_one (ps_if (pt_cmpR (op_notinO U.hHas U.iHas GH bH (hr.mono (by decide))) (pv 1) (pv 0) (by rfl)) (pss_one (ps_raise1 U.eU GE hr bE pass0 rfl (takes_of rfl rfl rfl rfl) (pv 1) (fun σ H P R h => mono_tVar σ H P R h))) pss_nil), ?_⟩
    refine ⟨_, rfl, _, rfl, p, _, _, rfl, FA.ob, p, v, t, o, st, past, rfl, FA, ks, is, _, rfl, _, rfl, ?_⟩
    cases hk : knownV st v with
    | false => exact iteT ⟨_, rfl, fun d hd => kE hk d hd⟩
    | true => exact iteF (kQ hk)
abbrev sAdvOf : Stmt := inClass (top 29) 15
theorem scAdvOf : FnScope ["self", "glyph"] ["self", "glyph"] (defScope sAdvOf) := ⟨rfl, rfl, rfl, by decide +kernel, rfl, by decide +kernel, by decide +kernel⟩
theorem ok_advOf {f fK : Addr} {fd fdK : FuncData} (F : Fun K "advance_of" "Font.advance_of" sAdvOf f fd) (T : TxF K mg C CI fE fW fBt fWr) (GK : FnOk P w K mg base (L2.CX P w) 3 fK fdK ["self", "glyph"] (spKnown K C CU)) (bK : Binds K fdK ["self", "glyph"] []) (mK : Meth K C "_check_known" fK) :
    FnOk P w K mg base (L2.CX P w) 4 f fd ["self", "glyph"] (spAdvOf K C CU) := by
  refine F.okX scAdvOf (fun vs H Q E h => ?_) (fun cdv A outer s H vs Q E hr h => ?_)
  · obtain ⟨p, v, t, o, st, past, rfl, _⟩ := h
    rfl
  · obtain ⟨p, v, t, o, st, past, rfl, FA, ks, is, kE, kQ⟩ := h
    have hu := hu_of hr
    refine ⟨_, pss_cons (ps_expr (pe_meth (pv 0) T.cl mK GK hr bK .nil (passes_call (takes_of rfl rfl rfl rfl) (fun _ _ _ _ h => h)) (pa_cons (pv 1) pa_nil))) (pss_one (ps_ret (pe_dget hu (pe_fld (pv 0) rfl) (pv 1) (fun _ _ => rfl)))), ?_⟩
    refine ⟨_, rfl, p, _, _, rfl, FA.ob, fflds_no _ _ (by decide +kernel) (by decide +kernel) (by decide +kernel) (by decide +kernel), _, rfl, p, v, t, o, st, past, rfl, FA, ks, is, kE, fun hk => ?_⟩
    obtain ⟨g, rfl⟩ : ∃ g, v = .str g := by
      cases v <;> first | exact ⟨_, rfl⟩ | cases hk
    obtain ⟨n, hn⟩ := Option.isSome_iff_exists.mp (show (lget st.adv g).isSome = true from hk)
    refine ⟨_, rfl, p, C, _, _, _, rfl, FA.ob, T.cl, T.nA, fflds_adv _ _, _, rfl, o.dA, .int n, rfl, ?_, kQ g n rfl hn⟩
    have e : valV (enc cA st.adv) (Sum.inr g : Key) = some (.int n) := by
      rw [show valV (enc cA st.adv) (Sum.inr g : Key) = (lget st.adv g).map V.int from enc_get cA_inj st.adv g, hn]
      rfl
    rw [← e]
    exact DGet.k (k := Sum.inr g) FA.da
abbrev sGlyphs : Stmt := inClass (top 29) 13
theorem scGlyphs : FnScope ["self"] ["self"] (defScope sGlyphs) := ⟨rfl, rfl, rfl, by decide +kernel, rfl, by decide +kernel, by decide +kernel⟩
theorem ok_glyphs {f : Addr} {fd : FuncData} (F : Fun K "glyphs" "Font.glyphs" sGlyphs f fd) (T : TxF K mg C CI fE fW fBt fWr) (U : TxH K mg C fHas fLen CU fEU fPl) (GP : KeyStr P w K mg base fPl kRank) : FnOk P w K mg base CX0 2 f fd ["self"] (spGlyphs C) := by
  refine F.ok scGlyphs (fun vs H Q E h => ?_) (fun cdv A outer s H vs Q E hr h => ?_)
  · obtain ⟨p, o, st, past, rfl, _⟩ := h
    rfl
  · obtain ⟨p, o, st, past, rfl, FA, hl, k⟩ := h
    refine ⟨_, pss_one (ps_ret (pe_callBK (cr_sortedK (f := fPl) (val := V.str) (ok := fun _ _ x => x.length ≤ 1000) (k := kRank) rfl hr) (by rfl) U.mSorted (by decide +kernel) (pa_cons (pe_callTy (call_list_dK rfl) (by rfl) U.mList (by decide +kernel) (pa_cons (pe_fld (pv 0) rfl) pa_nil)) pa_nil)
      (pk_cons (pe_glob (v := .ref fPl) (by rfl) U.pl rfl) pk_nil))), ?_⟩
    refine ⟨_, rfl, p, C, _, _, _, rfl, FA.ob, T.cl, T.nA, fflds_adv _ _, o.dA, _, rfl, FA.da, fun q hq => ?_⟩
    refine ⟨q, st.adv.map (·.1), rfl, rfl, ?_, keyFn_str GP (fun x hx => ?_), fun l hl2 => ?_⟩
    · refine SqL.of (upd_same.trans ?_)
      unfold enc
      rw [List.map_map, List.map_map]
      rfl
    · obtain ⟨e, he, rfl⟩ := List.mem_map.mp hx
      exact hl e he
    · refine k _ l ((same_upd hq).trans (same_upd hl2)) (noneU hl2) upd_same
end
/-! ### pairs of texts, sorted -/
def kPr (g : Str × Str) : PyData := .tuple [.str g.1, .str g.2]
def sortP (gs : List (Str × Str)) : List (Str × Str) := gs.mergeSort (PySem.W.dataLe false kPr)
section
open PySem.W PyProof.Rows
theorem cr_sortedPS {X : Cx} (hr : Room 1 X.A) : CallR X (.builtin "sorted") (fun vs H Q => ∃ (a : Addr) (xs : List (Addr × (Str × Str))), vs = [.ref a] ∧ SqL X.K H a (xs.map fun x => V.ref x.1) ∧ (∀ x ∈ xs, H x.1 = some (.tup [.str x.2.1, .str x.2.2])) ∧
    ∀ p, H p = none → Q (.ref p) (upd H p (.lst ((xs.mergeSort (dataLe false fun x => kPr x.2)).map fun x => V.ref x.1)))) := by
  intro pins s σ H vs us Q I rv hq
  obtain ⟨a, xs, rfl, hS, hx, q⟩ := hq
  obtain ⟨u1, rfl, r1⟩ := vals1 rv
  cases r1
  obtain ⟨its, rits, pl, hz⟩ := I.list hS
  have hl : xs.length ≤ sizeLine := by rw [List.length_map] at hz; exact hz
  have hun := hr.un
  have go : ∀ {us : List Value} {xs : List (Addr × (Str × Str))}, (∀ x ∈ xs, H x.1 = some (.tup [.str x.2.1, .str x.2.2])) → Vals (xs.map fun x => V.ref x.1) us → EachIs (fun u x => RelV (V.ref x.1) u) us xs ∧ EachIs (fun v x => ∃ as, Reads s.heap v (kPr x.2) as) us xs := by
    intro us xs
    induction xs generalizing us with
    | nil => intro _ r; cases r; exact ⟨.nil, .nil⟩
    | cons x xs ih =>
      intro hx r
      cases r with
      | cons r1 r2 =>
        obtain ⟨e1, e2⟩ := ih (fun y hy => hx y (List.mem_cons_of_mem _ hy)) r2
        refine ⟨.cons r1 e1, .cons ?_ e2⟩
        cases r1
        obtain ⟨ts, rts, ⟨o, ho, hc, n, hd⟩, _⟩ := I.tuple (SqT.of (K := X.K) (hx x List.mem_cons_self))
        refine ⟨[], .tuple ho hc hd ?_⟩
        cases rts with
        | cons a1 rr =>
          cases rr with
          | cons a2 rr =>
            cases rr
            obtain ⟨t1, rfl⟩ := a1
            obtain ⟨t2, rfl⟩ := a2
            exact .cons (.str _ _) (.cons (.str _ _) .nil)
  obtain ⟨e, er⟩ := go hx rits
  refine sorted_data (enc := fun x : Addr × (Str × Str) => kPr x.2) pl.isList e er (AllAlike.of fun _ _ => by simp [alike, alikeAll, kPr]) (Sortable.tuples fun _ => ⟨_, _, rfl⟩) hl (fun x _ => ?_) fun out ho eo => ?_
  · have : (kPr x.2).depth ≤ 8 := by simp [kPr, PyData.depth, PyData.depthAll]
    omega
  · obtain ⟨c, hc⟩ := sortedAll_at s.heap its out.toArray
    have hf : H (s.heap.objs.size + 1) = none := I.hok.fresh (Nat.le_succ _)
    refine ⟨.ref (s.heap.objs.size + 1), upd H (s.heap.objs.size + 1) (.lst ((xs.mergeSort (dataLe false fun x => kPr x.2)).map fun x => V.ref x.1)), I.laid (t' := s.toks) (fun _ _ => sortedAll_old) (Nat.le_succ _) ?_, rfl, q _ hf⟩
    refine ⟨?_, out, c, ?_, hc⟩
    · rw [List.length_map, List.length_mergeSort]
      exact hl
    · have go2 : ∀ {us : List Value} {xs : List (Addr × (Str × Str))}, EachIs (fun u x => RelV (V.ref x.1) u) us xs → Vals (xs.map fun x => V.ref x.1) us := by
        intro us xs h
        induction h with
        | nil => exact .nil
        | cons r _ ih => exact .cons r ih
      exact go2 eo
/-- the pairs alone, sorted -/
theorem sort_snd (xs : List (Addr × (Str × Str))) : (xs.mergeSort (dataLe false fun x => kPr x.2)).map (·.2) = sortP (xs.map (·.2)) := by
  unfold sortP
  exact List.map_mergeSort fun a _ b _ => rfl
end
theorem keys_pairs {H : Hp} : ∀ {l : KrnL} {bs : List Addr}, IsKeys H (enc cK l) bs → ∃ xs : List (Addr × (Str × Str)), bs.map V.ref = xs.map (fun x => V.ref x.1) ∧ xs.map (·.2) = l.map (·.1) ∧ ∀ x ∈ xs, H x.1 = some (.tup [.str x.2.1, .str x.2.2])
  | [], _, .nil => ⟨[], rfl, rfl, fun x hx => by cases hx⟩
  | (g, n) :: l, b :: bs, .cons h t => by
    obtain ⟨xs, e1, e2, e3⟩ := keys_pairs (l := l) t
    refine ⟨(b, g) :: xs, ?_, ?_, ?_⟩
    · rw [List.map_cons, List.map_cons, e1]
    · rw [List.map_cons, List.map_cons, e2]
    · intro x hx
      rcases List.mem_cons.mp hx with e | hx
      · rw [e]
        exact h
      · exact e3 x hx
def kernOf (l : KrnL) (g : Str × Str) : Int := (lget l g).getD 0
def spKerns (C : Addr) : Sp := fun vs H Q _ => ∃ (p : Addr) (o : Own) (st : FSt) (past : List (List Rec)), vs = [.ref p] ∧ FontAt C H p o st past ∧
  ∀ H' l (ts : List Addr), Same H H' → H l = none → H' l = some (.lst (ts.map V.ref)) → Paired (fun t g => H' t = some (.tup [.str g.1, .str g.2, .int (kernOf st.krn g)])) ts (sortP (st.krn.map (·.1))) → Q (.ref l) H'
theorem mem_sortP {gs : List (Str × Str)} {g : Str × Str} : g ∈ sortP gs ↔ g ∈ gs := by
  unfold sortP
  exact List.mem_mergeSort
theorem lget_of_mem {κ : Type} [DecidableEq κ] {l : List (κ × Int)} {k : κ} (h : k ∈ l.map (·.1)) : ∃ n, lget l k = some n := by
  obtain ⟨p, hp, rfl⟩ := List.mem_map.mp h
  unfold lget
  cases e : l.find? fun q => decide (q.1 = p.1) with
  | none =>
    rw [List.find?_eq_none] at e
    exact absurd (decide_eq_true rfl) (e p hp)
  | some q => exact ⟨q.2, rfl⟩
theorem paired_take {α β : Type} {R : α → β → Prop} : ∀ {as : List α} {bs : List β} (n : Nat), Paired R as bs → Paired R (as.take n) (bs.take n)
  | _, _, 0, _ => by rw [List.take_zero, List.take_zero]; exact .nil
  | _, _, _ + 1, .nil => .nil
  | _, _, n + 1, .cons r t => .cons r (paired_take n t)
section
variable {P : Program} {w : World} {K : PySem.W.Frag} {mg : Str → Option Value} {base : Heap} {C CI fE fW fBt fWr fHas fLen CU fEU fPl : Addr}
abbrev sKerns : Stmt := inClass (top 29) 14
theorem scKerns : FnScope ["self", "left", "right"] ["self"] (defScope sKerns) := ⟨rfl, rfl, rfl, by decide +kernel, rfl, by decide +kernel, by decide +kernel⟩
theorem ok_kerns {f : Addr} {fd : FuncData} (F : Fun K "kerns" "Font.kerns" sKerns f fd) (T : TxF K mg C CI fE fW fBt fWr) (U : TxH K mg C fHas fLen CU fEU fPl) : FnOk P w K mg base CX0 2 f fd ["self"] (spKerns C) := by
  refine F.ok scKerns (fun vs H Q E h => ?_) (fun cdv A outer s H vs Q E hr h => ?_)
  · obtain ⟨p, o, st, past, rfl, _⟩ := h
    rfl
  · obtain ⟨p, o, st, past, rfl, FA, k⟩ := h
    have hu := hu_of hr
    have nd := scKerns.nd
    refine ⟨_, pss_one (ps_ret (pe_lc (own := [("left", 1), ("right", 2)]) (g := gTup K 2 (gCons (gName 1) (gCons (gName 2) gNil))) (tt := tYes) (te := tTup (tCons (tVar 1) (tCons (tVar 2) (tCons (tDGet (tFld K (tVar 0) "_kerns") (tTup (tCons (tVar 1) (tCons (tVar 2) tNil)))) tNil)))) rfl nd (pi_list (pe_callB (cr_sortedPS hr) (by rfl) U.mSorted (by decide +kernel) (pa_cons (pe_callTy (call_list_dT rfl) (by rfl) U.mList (by decide +kernel) (pa_cons (pe_fld (pv 0) rfl) pa_nil)) pa_nil)))
      (blkOk_by (N := ["self", "left", "right"]) (sc := defScope sKerns) (by decide +kernel))
      (fun _ _ _ _ _ => pg_tup rfl (pgs_cons (pg_name (i := 1) nd rfl (Or.inl rfl)) (pgs_cons (pg_name (i := 2) nd rfl (Or.inl rfl)) pgs_nil)))
      (fun _ _ _ _ _ => pts_nil)
      (fun _ _ _ _ _ => pe_tup (pa_cons (pv 1) (pa_cons (pv 2) (pa_cons (pe_dget hu (pe_fld (pv 0) rfl) (pe_tup (pa_cons (pv 1) (pa_cons (pv 2) pa_nil))) (fun _ _ => rfl)) pa_nil)))))), ?_⟩
    refine ⟨_, rfl, p, C, _, _, _, rfl, FA.ob, T.cl, T.nN, fflds_krn _ _, o.dN, _, rfl, .inl FA.dn, fun q bs hq hk => ?_⟩
    obtain ⟨xs, e1, e2, e3⟩ := keys_pairs hk
    rw [e1]
    refine ⟨q, xs, rfl, SqL.of upd_same, fun x hx => (same_upd hq) _ _ (e3 x hx), fun q2 hq2 => ⟨q2, rfl, ⟨_, SqL.of upd_same⟩, fun D hD => ?_⟩⟩
    have hss := sort_snd xs
    rw [e2] at hss
    generalize hys : xs.mergeSort (PySem.W.dataLe false fun x => kPr x.2) = ys at hss hD ⊢
    have hyx : ∀ y ∈ ys, y ∈ xs := fun y hy => by rw [← hys] at hy; exact List.mem_mergeSort.mp hy
    obtain ⟨H1, eH1⟩ : ∃ H1, H1 = upd (upd H q (.lst (xs.map fun x => V.ref x.1))) q2 (.lst (ys.map fun x => V.ref x.1)) := ⟨_, rfl⟩
    rw [← eH1] at hD ⊢
    have s01 : Same H H1 := by
      rw [eH1]
      exact (same_upd hq).trans (same_upd hq2)
    have hq2' : H1 q2 = some (.lst (ys.map fun x => V.ref x.1)) := by rw [eH1]; exact upd_same
    have hDH : H D = none := by
      rw [eH1] at hD
      exact noneU (noneU hD)
    refine lc_list (K := K) (a := q2) (xs := ys.map fun x => V.ref x.1) (fun i H' => Same H1 H' ∧ ∃ ts : List Addr, ts.length = i ∧ H' D = some (.lst (ts.map V.ref)) ∧ Paired (fun t g => H' t = some (.tup [.str g.1, .str g.2, .int (kernOf st.krn g)])) ts ((ys.map (·.2)).take i))
      ⟨same_upd hD, [], rfl, upd_same, .nil⟩ (fun i H' _ ⟨s1, _⟩ => SqL.of (s1 _ _ hq2')) ?_ ?_
    · rintro i x H' hx ⟨s1, ts, hlen, hD', pr⟩
      rw [List.getElem?_map, Option.map_eq_some_iff] at hx
      obtain ⟨y, hy, rfl⟩ := hx
      have hym : y ∈ ys := List.mem_of_getElem? hy
      have sH := s01.trans s1
      have hy1 : H' y.1 = some (.tup [.str y.2.1, .str y.2.2]) := sH _ _ (by
        have := e3 y (hyx y hym)
        exact this)
      obtain ⟨n, hn⟩ := lget_of_mem (l := st.krn) (k := y.2) (by rw [← e2]; exact List.mem_map.mpr ⟨y, hyx y hym, rfl⟩)
      have F1 := FA.sm sH
      refine ⟨y.1, _, rfl, SqT.of hy1, rfl, _, _, rfl, _, _, rfl, rfl, rfl, ?_⟩
      refine ⟨_, rfl, _, rfl, _, rfl, p, C, _, _, _, rfl, F1.ob, T.cl, T.nN, fflds_krn _ _, _, rfl, _, rfl, (by show 2 ≤ sizeLine; decide), fun z hz => ?_⟩
      have F2 := F1.sm (same_upd (o := .tup [.str y.2.1, .str y.2.2]) hz)
      refine ⟨o.dN, .int n, rfl, ?_, (by show 3 ≤ sizeLine; decide), fun t ht => ?_⟩
      · have e : valV (enc cK st.krn) (cK y.2) = some (.int n) := by
          rw [enc_get cK_inj st.krn y.2, hn]
          rfl
        rw [← e]
        exact DGet.t (k := cK y.2) F2.dn upd_same
      · have sz : Same H' (upd (upd H' z (.tup [.str y.2.1, .str y.2.2])) t (.tup [.str y.2.1, .str y.2.2, .int n])) := (same_upd hz).trans (same_upd ht)
        have hD2 := sz _ _ hD'
        refine ⟨_, hD2, ?_, ?_⟩
        · rw [List.length_map, hlen]
          have h1 : i < ys.length := (List.getElem?_eq_some_iff.mp hy).1
          have h2 : ys.length = st.krn.length := by
            have := congrArg List.length e2
            rw [List.length_map, List.length_map] at this
            rw [← hys, List.length_mergeSort, this]
          have h3 := FA.small.2.1
          have h4 : (sizeLine : Nat) = 16777216 := sizeLine_eq
          omega
        · have hnD : ∀ b, b ≠ D → upd (upd (upd H' z (.tup [.str y.2.1, .str y.2.2])) t (.tup [.str y.2.1, .str y.2.2, .int n])) D (.lst (ts.map V.ref ++ [V.ref t])) b = upd (upd H' z (.tup [.str y.2.1, .str y.2.2])) t (.tup [.str y.2.1, .str y.2.2, .int n]) b := fun b hb => upd_ne hb
          have tup_ne : ∀ {b : Addr} {vs : List V}, upd (upd H' z (.tup [.str y.2.1, .str y.2.2])) t (.tup [.str y.2.1, .str y.2.2, .int n]) b = some (.tup vs) → b ≠ D := fun hb => ne_of hb hD2 (by intro z; cases z)
          refine ⟨fun b u e => ?_, ts ++ [t], by rw [List.length_append, hlen]; rfl, ?_, ?_⟩
          · rw [hnD b (fun z => by rw [z, hD] at e; cases e)]
            exact sz _ _ (s1 _ _ e)
          · rw [upd_same, List.map_append]
            rfl
          · have et : (ys.map (·.2)).take (i + 1) = (ys.map (·.2)).take i ++ [y.2] := by
              rw [List.take_add_one, List.getElem?_map, hy]
              rfl
            rw [et]
            refine paired_snoc (paired_mono (fun t' g h => ?_) pr) ?_
            · have := sz _ _ h
              rw [hnD t' (tup_ne this)]
              exact this
            · have h0 : upd (upd H' z (.tup [.str y.2.1, .str y.2.2])) t (.tup [.str y.2.1, .str y.2.2, .int n]) t = some (.tup [.str y.2.1, .str y.2.2, .int n]) := upd_same
              rw [hnD t (tup_ne h0), h0]
              show _ = some (HO.tup [V.str y.2.1, V.str y.2.2, V.int (kernOf st.krn y.2)])
              unfold kernOf
              rw [hn]
              rfl
    · rintro H' ⟨s1, ts, hlen, hD', pr⟩
      refine k H' D ts (s01.trans s1) hDH hD' ?_
      rw [← hss]
      rw [List.take_of_length_le (by rw [List.length_map, List.length_map]; exact Nat.le_refl _)] at pr
      exact pr
end
/-! ### names, letters, ligatures -/
def nameB (g : Str) : Bool := decide (g.length ≤ 6) && (Txt.isascii g && (Txt.isalpha g && Txt.islower g))
def nameV : V → Bool
  | .str g => nameB g
  | _ => false
theorem nameV_no {v : V} (h : ∀ g, v ≠ .str g) : nameV v = false := by
  cases v <;> first | rfl | exact absurd rfl (h _)
def spName (K : PySem.W.Frag) : Sp := fun vs H Q _ => ∃ (v : V) (t : Bool), vs = [v] ∧ Ks K H v t ∧ IsS v t ∧ (∀ g, v = .str g → g.length ≤ sizeLine) ∧ Q (.bl (nameV v)) H
def glyphsOf (st : FSt) : List Str := (st.adv.map (·.1)).mergeSort (PySem.W.dataLe false kRank)
def spLigs (C : Addr) : Sp := fun vs H Q _ => ∃ (p : Addr) (o : Own) (st : FSt) (past : List (List Rec)), vs = [.ref p] ∧ FontAt C H p o st past ∧ (∀ e ∈ st.adv, e.1.length ≤ 1000) ∧
  ∀ H' l, Same H H' → H l = none → H' l = some (.lst (((glyphsOf st).filter fun g => decide ((1 : Int) < (g.length : Int))).map V.str)) → Q (.ref l) H'
theorem take_filter {α : Type} (f : α → Bool) {l : List α} {i : Nat} {a : α} (h : l[i]? = some a) : (l.take (i + 1)).filter f = (l.take i).filter f ++ (if f a = true then [a] else []) := by
  rw [List.take_add_one, h, List.filter_append]
  congr 1
  show [a].filter f = _
  rw [List.filter_cons]
  rfl
section
variable {P : Program} {w : World} {K : PySem.W.Frag} {mg : Str → Option Value} {base : Heap} {C CI fE fW fBt fWr fHas fLen CU fEU fPl : Addr}
abbrev sName : Stmt := top 32
theorem scName : FnScope ["value"] ["value"] (defScope sName) := ⟨rfl, rfl, rfl, by decide +kernel, rfl, by decide +kernel, by decide +kernel⟩
/-- what the text says of Font as a value -/
structure FontC (K : PySem.W.Frag) (mg : Str → Option Value) (C : Addr) (mc : Value) : Prop where
  g : mg "Font" = some (.ref C)
  rd : ClX.CRead K C mc
  six : ∃ u, ClX.CVal K C mc "MOST_LETTERS" (.int 6) u
theorem ok_name {f : Addr} {fd : FuncData} {mc : Value} (F : Fun K "is_glyph_name" "is_glyph_name" sName f fd) (FC : FontC K mg C mc) (mIs : mg "isinstance" = none) (mS : mg "str" = none) (mL : mg "len" = none) : FnOk P w K mg base CX0 1 f fd ["value"] (spName K) := by
  obtain ⟨u6, h6⟩ := FC.six
  refine F.ok scName (fun vs H Q E h => ?_) (fun cdv A outer s H vs Q E hr h => ?_)
  · obtain ⟨v, t, rfl, _⟩ := h
    rfl
  · obtain ⟨v, t, rfl, ⟨T, ty, k1⟩, ⟨s1, s0⟩, hz, k⟩ := h
    refine ⟨_, pss_cons (ps_if (PW.pt (pw_or (pt_not (pt_val (pe_callB call_isi (by rfl) mIs (by decide +kernel) (pa_cons (pv 0) (pa_cons (pe_bltn (v := .ty "str") (by rfl) mS (by decide +kernel) rfl) pa_nil)))))
        (pw_or1 (pt_cmpR op_gt (pe_callB call_len_str (by rfl) mL PySem.boot_len (pa_cons (pv 0) pa_nil)) (ClX.pe_cval (pe_glob (v := .ref C) (by rfl) FC.g rfl)) (nomark _))))) (pss_one (ps_ret pe_bl)) pss_nil)
      (pss_one (ps_ret (pe_and (pe_bm0 PySem.F.plainAttrs_str PySem.F.slot_str_isascii PySem.F.type_str_isascii mt_isascii (pv 0))
        (pe_and (pe_bm0 PySem.F.plainAttrs_str PySem.F.slot_str_isalpha PySem.F.type_str_isalpha mt_isalpha (pv 0)) (pe_one (pe_bm0 PySem.F.plainAttrs_str PySem.F.slot_str_islower PySem.F.type_str_islower mt_islower (pv 0))))))), ?_⟩
    refine ⟨_, rfl, _, _, _, _, t, rfl, .ty "str", ty, kit_ty k1, t, rfl, ?_⟩
    cases t with
    | false =>
      rw [nameV_no (s0 rfl)] at k
      exact iteT (iteT k)
    | true =>
      obtain ⟨g, rfl⟩ := s1 rfl
      refine iteF ⟨_, rfl, g, rfl, hz g rfl, C, mc, .int 6, u6, rfl, FC.rd, h6, _, _, rfl, rfl, _, rfl, ?_⟩
      refine ite2 (fun hl => ?_) (fun hl => ?_)
      · have hl' : (6 : Int) < (g.length : Int) := of_decide_eq_true hl
        have e : nameV (.str g) = false := by
          show (decide (g.length ≤ 6) && _) = false
          rw [decide_eq_false (by omega)]
          rfl
        rw [e] at k
        exact k
      · have hl' : ¬ (6 : Int) < (g.length : Int) := fun z => hl (decide_eq_true z)
        have e : nameV (.str g) = (Txt.isascii g && (Txt.isalpha g && Txt.islower g)) := by
          show (decide (g.length ≤ 6) && _) = _
          rw [decide_eq_true (by omega)]
          rfl
        rw [e] at k
        refine ⟨_, rfl, rfl, g, rfl, rfl, trivial, _, rfl, ?_⟩
        cases ha : Txt.isascii g with
        | false => rw [ha] at k; exact iteF k
        | true =>
          rw [ha] at k
          refine iteT ⟨_, rfl, rfl, g, rfl, rfl, trivial, _, rfl, ?_⟩
          cases hb : Txt.isalpha g with
          | false => rw [hb] at k; exact iteF k
          | true =>
            rw [hb] at k
            exact iteT ⟨_, rfl, rfl, g, rfl, rfl, trivial, k⟩
abbrev sLigs : Stmt := inClass (top 29) 18
theorem scLigs : FnScope ["self", "glyph"] ["self"] (defScope sLigs) := ⟨rfl, rfl, rfl, by decide +kernel, rfl, by decide +kernel, by decide +kernel⟩
theorem ok_ligs {f fG : Addr} {fd fdG : FuncData} (F : Fun K "ligatures" "Font.ligatures" sLigs f fd) (T : TxF K mg C CI fE fW fBt fWr) (GG : FnOk P w K mg base CX0 2 fG fdG ["self"] (spGlyphs C)) (bG : Binds K fdG ["self"] []) (mG : Meth K C "glyphs" fG) : FnOk P w K mg base CX0 3 f fd ["self"] (spLigs C) := by
  refine F.ok scLigs (fun vs H Q E h => ?_) (fun cdv A outer s H vs Q E hr h => ?_)
  · obtain ⟨p, o, st, past, rfl, _⟩ := h
    rfl
  · obtain ⟨p, o, st, past, rfl, FA, hl, k⟩ := h
    have nd := scLigs.nd
    refine ⟨_, pss_one (ps_ret (pe_lc (own := [("glyph", 1)]) (g := gName 1) (tt := tTest (tOp (rI0 fun i j => .bl (decide (j < i))) (tCB (fun xs H Q => ∃ z, xs = [.str z] ∧ z.length ≤ sizeLine ∧ Q (.int z.length) H) (tCons (tVar 1) tNil)) (tC (.int 1)))) (te := tVar 1) rfl nd (pi_list (pe_meth0 (pv 0) T.cl mG GG hr bG .nil pass0))
      (blkOk_by (N := ["self", "glyph"]) (sc := defScope sLigs) (by decide +kernel))
      (fun _ _ _ _ _ => pg_name (i := 1) nd rfl (Or.inl rfl))
      (fun _ _ _ _ _ => pts_one (pt_cmpR op_gt (pe_callB call_len_str (by rfl) T.len PySem.boot_len (pa_cons (pv 1) pa_nil)) pe_int (nomark _)))
      (fun _ _ _ _ _ => pv 1))), ?_⟩
    refine ⟨_, rfl, p, _, _, rfl, FA.ob, fflds_no _ _ (by decide +kernel) (by decide +kernel) (by decide +kernel) (by decide +kernel), p, o, st, past, rfl, FA, hl, fun H1 q s01 hq hq1 => ⟨q, rfl, ⟨_, SqL.of hq1⟩, fun D hD => ?_⟩⟩
    have hDH : H D = none := by
      cases e : H D with
      | none => rfl
      | some u => rw [s01 _ _ e] at hD; cases hD
    have hlen : (glyphsOf st).length ≤ 1000 := by
      unfold glyphsOf
      rw [List.length_mergeSort, List.length_map]
      exact FA.small.1
    have hmem : ∀ g ∈ glyphsOf st, g.length ≤ 1000 := fun g hg => by
      obtain ⟨e, he, rfl⟩ := List.mem_map.mp (List.mem_mergeSort.mp hg)
      exact hl e he
    have h4 : (sizeLine : Nat) = 16777216 := sizeLine_eq
    refine lc_list (K := K) (a := q) (xs := (glyphsOf st).map V.str) (fun i H' => (∀ b u, b ≠ D → H1 b = some u → H' b = some u) ∧ H' D = some (.lst ((((glyphsOf st).take i).filter fun g => decide ((1 : Int) < (g.length : Int))).map V.str)))
      ⟨fun b u hb e => (upd_ne hb).trans e, upd_same⟩ (fun i H' _ ⟨s1, _⟩ => SqL.of (s1 _ _ (fun z => by rw [z, hD] at hq1; cases hq1) hq1)) ?_ ?_
    · rintro i x H' hx ⟨s1, hD'⟩
      rw [List.getElem?_map, Option.map_eq_some_iff] at hx
      obtain ⟨g, hg, rfl⟩ := hx
      have hgl := hmem g (List.mem_of_getElem? hg)
      refine ⟨rfl, _, rfl, g, rfl, by omega, _, _, rfl, rfl, _, rfl, ?_⟩
      rw [take_filter _ hg]
      refine ite2 (fun hb => ?_) (fun hb => ?_)
      · rw [if_pos hb]
        refine ⟨_, rfl, _, hD', ?_, fun b u hb' e => (upd_ne hb').trans (s1 b u hb' e), ?_⟩
        · rw [List.length_map]
          have h1 := List.length_filter_le (fun g : Str => decide ((1 : Int) < (g.length : Int))) ((glyphsOf st).take i)
          have h2 : ((glyphsOf st).take i).length ≤ (glyphsOf st).length := by rw [List.length_take]; exact Nat.min_le_right _ _
          omega
        · rw [upd_same, List.map_append]
          rfl
      · rw [if_neg hb, List.append_nil]
        exact ⟨s1, hD'⟩
    · rintro H' ⟨s1, hD'⟩
      refine k H' D (fun b u e => s1 b u (fun z => by rw [z, hDH] at e; cases e) (s01 b u e)) hDH ?_
      rw [List.take_of_length_le (by rw [List.length_map]; exact Nat.le_refl _)] at hD'
      exact hD'
end
/-! ### the checks of an advance -/
theorem pss_no {X : Cx} {body : List Stmt} : PSs X body (fun _ _ _ => False) := ⟨fun _ _ _ _ _ _ h => h.elim⟩
def chars (g : Str) : List Str := g.cps.toList.map fun c => ⟨#[c]⟩
/-- the first letter of the glyph that the font does not have -/
def missing (st : FSt) (g : Str) : Option Str := (chars g).find? fun c => !(lget st.adv c).isSome
def ligsOf (st : FSt) : List Str := (glyphsOf st).filter fun g => decide ((1 : Int) < (g.length : Int))
def spLetters (C CU : Addr) : Sp := fun vs H Q E => ∃ (p : Addr) (g : Str) (o : Own) (st : FSt) (past : List (List Rec)), vs = [.ref p, .str g] ∧ FontAt C H p o st past ∧ g.length ≤ 1000 ∧
  (1 < g.length → ∀ c, missing st g = some c → ∀ d, H d = none → E (.ref CU) (some d) (upd H d (.xd [("glyph", .str c)]))) ∧ (g.length ≤ 1 ∨ missing st g = none → Q .non H)
def roomless (st : FSt) (g : Str) : Bool := decide (1 < g.length) && (!(lget st.adv g).isSome && decide (40 ≤ (ligsOf st).length))
def spRoom (C CT : Addr) : Sp := fun vs H Q E => ∃ (p : Addr) (g : Str) (o : Own) (st : FSt) (past : List (List Rec)), vs = [.ref p, .str g] ∧ FontAt C H p o st past ∧ g.length ≤ 1000 ∧ (∀ e ∈ st.adv, e.1.length ≤ 1000) ∧
  (roomless st g = true → ∀ H' d, Same H H' → H' d = none → E (.ref CT) (some d) (upd H' d (.xd [("limit", .int 40)]))) ∧ (roomless st g = false → ∀ H', Same H H' → Q .non H')
/-- no kern of the glyph is too much for the advance -/
def Wide (st : FSt) (g : Str) (n : Int) : Prop := ∀ e ∈ st.krn, (e.1.1 = g ∨ e.1.2 = g) → 0 ≤ n + kernOf st.krn e.1
def spKernsOk (C : Addr) : Sp := fun vs H Q _ => ∃ (p : Addr) (g : Str) (n : Int) (o : Own) (st : FSt) (past : List (List Rec)), vs = [.ref p, .str g, .int n] ∧ FontAt C H p o st past ∧ Wide st g n ∧ ∀ H', Same H H' → Q .non H'
theorem chars_at {g : Str} {i c : Nat} (h : g.cps[i]? = some c) : (chars g)[i]? = some ⟨#[c]⟩ := by
  unfold chars
  rw [List.getElem?_map, Array.getElem?_toList, h]
  rfl
theorem find_take {α : Type} (f : α → Bool) {l : List α} {i : Nat} {a : α} (h : l[i]? = some a) (hn : ∀ x ∈ l.take i, f x = false) : (f a = true → l.find? f = some a) ∧ (f a = false → ∀ x ∈ l.take (i + 1), f x = false) := by
  refine ⟨fun ha => ?_, fun ha x hx => ?_⟩
  · have e : l = l.take i ++ a :: l.drop (i + 1) := by
      have h1 := List.getElem?_eq_some_iff.mp h
      obtain ⟨hi, ha'⟩ := h1
      rw [← ha', ← List.drop_eq_getElem_cons hi, List.take_append_drop]
    rw [e, List.find?_append]
    have : (l.take i).find? f = none := List.find?_eq_none.mpr fun x hx => by rw [hn x hx]; exact Bool.false_ne_true
    rw [this]
    show (a :: _).find? f = some a
    rw [List.find?_cons_of_pos ha]
  · rw [List.take_add_one, h] at hx
    rcases List.mem_append.mp hx with hx | hx
    · exact hn x hx
    · rw [List.mem_singleton.mp hx]
      exact ha
section
variable {P : Program} {w : World} {K : PySem.W.Frag} {mg : Str → Option Value} {base : Heap} {C CI fE fW fBt fWr fHas fLen CU fEU fPl CT fET : Addr}
abbrev sLetters : Stmt := inClass (top 29) 36
theorem scLetters : FnScope ["self", "glyph", "letter"] ["self", "glyph"] (defScope sLetters) := ⟨rfl, rfl, rfl, by decide +kernel, rfl, by decide +kernel, by decide +kernel⟩
theorem ok_letters {f fK : Addr} {fd fdK : FuncData} (F : Fun K "_check_letters" "Font._check_letters" sLetters f fd) (T : TxF K mg C CI fE fW fBt fWr) (GK : FnOk P w K mg base (L2.CX P w) 3 fK fdK ["self", "glyph"] (spKnown K C CU)) (bK : Binds K fdK ["self", "glyph"] []) (mK : Meth K C "_check_known" fK) :
    FnOk P w K mg base (L2.CX P w) 4 f fd ["self", "glyph"] (spLetters C CU) := by
  refine F.okX scLetters (fun vs H Q E h => ?_) (fun cdv A outer s H vs Q E hr h => ?_)
  · obtain ⟨p, g, o, st, past, rfl, _⟩ := h
    rfl
  · obtain ⟨p, g, o, st, past, rfl, FA, hl, kE, kQ⟩ := h
    have nd := scLetters.nd
    refine ⟨_, pss_one (ps_if (pt_cmpR op_gt (pe_callB call_len_str (by rfl) T.len PySem.boot_len (pa_cons (pv 1) pa_nil)) pe_int (nomark _))
      (pss_one (ps_for (passes_of rfl) rfl (pi_str (pv 1)) (pg_name (i := 2) nd rfl (Or.inl rfl)) (pss_one (ps_expr (pe_meth (pv 0) T.cl mK GK hr bK .nil (passes_call (takes_of rfl rfl rfl rfl) (fun _ _ _ _ h => h)) (pa_cons (pv 2) pa_nil)))))) pss_nil), ?_⟩
    have h4 : (sizeLine : Nat) = 16777216 := sizeLine_eq
    refine ⟨_, rfl, g, rfl, by omega, _, _, rfl, rfl, _, rfl, ?_⟩
    refine ite2 (fun hb => ?_) (fun hb => ?_)
    · have hb' : (1 : Int) < (g.length : Int) := of_decide_eq_true hb
      have hg1 : 1 < g.length := by omega
      refine ⟨_, rfl, g, rfl, ?_⟩
      refine for_it walk_str (fun i σ H' => H' = H ∧ (∃ u : Option V, σ = [some (.ref p), some (.str g), u]) ∧ ∀ x ∈ (chars g).take i, (!(lget st.adv x).isSome) = false) ⟨rfl, ⟨none, rfl⟩, fun x hx => by cases hx⟩ (fun _ _ _ _ _ => trivial) ?_ ?_
      · rintro i x σ H' H'' hi ⟨rfl, ⟨u, rfl⟩, hn⟩ ⟨rfl, c, hc, rfl⟩
        have hch := chars_at hc
        obtain ⟨f1, f2⟩ := find_take (fun x => !(lget st.adv x).isSome) hch hn
        refine ⟨_, rfl, p, _, _, rfl, FA.ob, fflds_no _ _ (by decide +kernel) (by decide +kernel) (by decide +kernel) (by decide +kernel), _, rfl, p, .str ⟨#[c]⟩, true, o, st, past, rfl, FA, Ks.str, IsS.str, fun hk d hd => ?_, fun hk => ?_⟩
        · exact kE hg1 _ (f1 (by rw [show (lget st.adv ⟨#[c]⟩).isSome = false from hk]; rfl)) d hd
        · exact ⟨rfl, ⟨_, rfl⟩, f2 (by rw [show (lget st.adv ⟨#[c]⟩).isSome = true from hk]; rfl)⟩
      · rintro σ H' ⟨rfl, _, hn⟩
        refine kQ (.inr ?_)
        unfold missing
        rw [List.take_of_length_le (by unfold chars; rw [List.length_map, Array.length_toList]; exact Nat.le_refl _)] at hn
        exact List.find?_eq_none.mpr fun x hx => by rw [hn x hx]; exact Bool.false_ne_true
    · have hb' : ¬ (1 : Int) < (g.length : Int) := fun z => hb (decide_eq_true z)
      exact kQ (.inl (by omega))
abbrev sRoom : Stmt := inClass (top 29) 37
theorem scRoom : FnScope ["self", "glyph"] ["self", "glyph"] (defScope sRoom) := ⟨rfl, rfl, rfl, by decide +kernel, rfl, by decide +kernel, by decide +kernel⟩
theorem ok_room {f fH fL pL : Addr} {fd fdH fdL fdE : FuncData} (F : Fun K "_check_room" "Font._check_room" sRoom f fd) (T : TxF K mg C CI fE fW fBt fWr) (U : TxH K mg C fHas fLen CU fEU fPl) (hM : ∃ u, Con K C "MOST_LIGATURES" (.int 40) u) (eT : ErrC K mg "TooMany" CT fET)
    (GH : FnOk P w K mg base CX0 1 fHas fdH ["self", "x"] (spHas K C)) (bH : Binds K fdH ["self", "x"] []) (hp : PropOf K C "ligatures" pL fL) (GL : FnOk P w K mg base CX0 3 fL fdL ["self"] (spLigs C)) (bL : Binds K fdL ["self"] [])
    (GE : FnOk P w K mg base CX0 1 fET fdE ["self", "limit"] (spEx1 CT "limit")) (bE : Binds K fdE ["self", "limit"] []) : FnOk P w K mg base (L2.CX P w) 5 f fd ["self", "glyph"] (spRoom C CT) := by
  obtain ⟨u4, hC⟩ := hM
  refine F.okX scRoom (fun vs H Q E h => ?_) (fun cdv A outer s H vs Q E hr h => ?_)
  · obtain ⟨p, g, o, st, past, rfl, _⟩ := h
    rfl
  · obtain ⟨p, g, o, st, past, rfl, FA, hl, hls, kE, kQ⟩ := h
    refine ⟨_, pss_one (ps_if (PW.pt (pw_and (pt_cmpR op_gt (pe_callB call_len_str (by rfl) T.len PySem.boot_len (pa_cons (pv 1) pa_nil)) pe_int (nomark _))
      (pw_and (pt_cmpR (op_notinO U.hHas U.iHas GH bH (hr.mono (by decide))) (pv 1) (pv 0) (by rfl))
        (pw_and1 (pt_cmpR op_ge (pe_callB call_len_seq (by rfl) T.len PySem.boot_len (pa_cons (pe_prop (pv 0) T.cl hp GL hr bL .nil pass0 rfl) pa_nil)) (pe_con (pv 0) rfl) (nomark _))))))
      (pss_one (ps_raise1 eT GE (hr.mono (by decide)) bE pass0 rfl (takes_of rfl rfl rfl rfl) (pe_con (pv 0) rfl) (fun σ H P R h hh => by
        obtain ⟨v, e, a, C', dx, fs, v', u, q1, q2, q3, q4, q5, q6⟩ := hh
        exact ⟨v, e, a, C', dx, fs, v', u, q1, q2, q3, q4, q5, h _ _ q6⟩))) pss_nil), ?_⟩
    have h4 : (sizeLine : Nat) = 16777216 := sizeLine_eq
    refine ⟨_, rfl, g, rfl, by omega, _, _, rfl, rfl, _, rfl, ?_⟩
    refine ite2 (fun hb => ?_) (fun hb => ?_)
    · have hb' : (1 : Int) < (g.length : Int) := of_decide_eq_true hb
      have e1 : roomless st g = (!(lget st.adv g).isSome && decide (40 ≤ (ligsOf st).length)) := by
        unfold roomless
        rw [decide_eq_true (by omega : 1 < g.length), Bool.true_and]
      rw [e1] at kE kQ
      refine ⟨_, rfl, _, rfl, p, _, _, rfl, FA.ob, p, .str g, true, o, st, past, rfl, FA, Ks.str, IsS.str, _, rfl, _, rfl, ?_⟩
      show if (!(lget st.adv g).isSome) = true then _ else _
      cases hk : (lget st.adv g).isSome with
      | true =>
        rw [hk] at kQ
        exact iteF (kQ rfl H (Same.refl H))
      | false =>
        rw [hk] at kE kQ
        refine iteT ⟨_, rfl, p, _, _, rfl, FA.ob, p, o, st, past, rfl, FA, hls, fun H' l s1 hl1 hl2 => ?_⟩
        have F1 := FA.sm s1
        refine ⟨l, _, rfl, .inl (SqL.of hl2), _, rfl, p, C, _, _, _, _, rfl, F1.ob, T.cl, hC, fflds_no _ _ (by decide +kernel) (by decide +kernel) (by decide +kernel) (by decide +kernel), _, _, rfl, rfl, _, rfl, ?_⟩
        rw [List.length_map]
        refine ite2 (fun hb => ?_) (fun hb => ?_)
        · have hb2 : (40 : Int) ≤ ((ligsOf st).length : Int) := of_decide_eq_true hb
          refine ⟨_, rfl, p, C, _, _, _, _, rfl, F1.ob, T.cl, hC, fflds_no _ _ (by decide +kernel) (by decide +kernel) (by decide +kernel) (by decide +kernel), fun d hd => kE ?_ H' d s1 hd⟩
          rw [decide_eq_true (by omega : 40 ≤ (ligsOf st).length)]
          rfl
        · have hb2 : ¬ (40 : Int) ≤ ((ligsOf st).length : Int) := fun z => hb (decide_eq_true z)
          refine kQ ?_ H' s1
          rw [decide_eq_false (by omega : ¬ 40 ≤ (ligsOf st).length)]
          rfl
    · have hb' : ¬ (1 : Int) < (g.length : Int) := fun z => hb (decide_eq_true z)
      refine kQ ?_ H (Same.refl H)
      unfold roomless
      rw [decide_eq_false (by omega : ¬ 1 < g.length), Bool.false_and]
abbrev sKOk : Stmt := inClass (top 29) 38
theorem scKOk : FnScope ["self", "glyph", "advance", "narrow", "left", "right", "pair"] ["self", "glyph", "advance"] (defScope sKOk) := ⟨rfl, rfl, rfl, by decide +kernel, rfl, by decide +kernel, by decide +kernel⟩
theorem ok_kok {f : Addr} {fd : FuncData} (F : Fun K "_check_kerns" "Font._check_kerns" sKOk f fd) (T : TxF K mg C CI fE fW fBt fWr) : FnOk P w K mg base (L2.CX P w) 1 f fd ["self", "glyph", "advance"] (spKernsOk C) := by
  refine F.okX scKOk (fun vs H Q E h => ?_) (fun cdv A outer s H vs Q E hr h => ?_)
  · obtain ⟨p, g, n, o, st, past, rfl, _⟩ := h
    rfl
  · obtain ⟨p, g, n, o, st, past, rfl, FA, hw, kQ⟩ := h
    have nd := scKOk.nd
    have hu := hu_of hr
    refine ⟨_, pss_cons (ps_lock (ps_setLc (i := 3) (own := [("pair", 6)]) (g := gName 6) (te := tVar 6)
        (tt := tAnd (tTest (tOp (rIn K false) (tVar 1) (tVar 6))) (tTest (tOp (rI0 fun i j => .bl (decide (i < j))) (tOp (rI0 fun i j => .int (i + j)) (tVar 2) (tDGet (tFld K (tVar 0) "_kerns") (tVar 6))) (tC (.int 0)))))
        rfl nd rfl rfl (sw_true rfl rfl rfl (by decide +kernel)) (pi_keys (pe_fld (pv 0) rfl))
        (blkOk_by (N := ["self", "glyph", "advance", "narrow", "left", "right", "pair"]) (sc := defScope sKOk) (by decide +kernel))
        (fun _ _ _ _ _ => pg_name (i := 6) nd rfl (Or.inl rfl))
        (fun _ _ _ _ _ => pts_one (PW.pt (pw_and (pt_cmpR op_in_seq (pv 1) (pv 6) (by rfl)) (pw_and1 (pt_cmpR op_lt (pe_op op_add (pv 2) (pe_dget hu (pe_fld (pv 0) rfl) (pv 6) (fun _ _ => rfl))) pe_int (nomark _))))))
        (fun _ _ _ _ _ => pv 6)))
      (pss_one (ps_if (pt_cmpR op_gt (pe_callB call_len_seq (by rfl) T.len PySem.boot_len (pa_cons (pv 3) pa_nil)) pe_int (nomark _)) pss_no pss_nil)), ?_⟩
    obtain ⟨k1, k2, k3, k4, k5, k6⟩ := FA.kinds
    refine ⟨o.dN, _, FA.dn, trivial, fun od => ?_⟩
    have hob : (upd H o.dN (.frz od (.dT (enc cK st.krn)))) p = some (.ins C o.dx (fflds o st.blank)) := (upd_ne k2).trans FA.ob
    refine ⟨_, rfl, p, C, _, _, _, rfl, hob, T.cl, T.nN, fflds_krn _ _, o.dN, od, rfl, .inr ⟨_, upd_same, fun D hD => ?_⟩⟩
    have hDn : D ≠ o.dN := fun z => by rw [z, upd_same] at hD; cases hD
    have hDH : H D = none := by rwa [upd_ne hDn] at hD
    refine lc_it walk_keysT (fun i H' => H' = upd (upd H o.dN (.frz od (.dT (enc cK st.krn)))) D (.lst [])) rfl (fun i H' _ e => by rw [e, upd_ne (Ne.symm hDn), upd_same]) ?_ ?_
    · rintro i x H' H'' hi rfl ⟨rfl, kk, v, q, hkv, rfl, hq⟩
      unfold enc at hkv
      rw [List.getElem?_map, Option.map_eq_some_iff] at hkv
      obtain ⟨e, he, e2⟩ := hkv
      obtain ⟨rfl, rfl⟩ := Prod.mk.inj e2
      have hem : e ∈ st.krn := List.mem_of_getElem? he
      obtain ⟨m, hm⟩ := lget_of_mem (l := st.krn) (k := e.1) (List.mem_map.mpr ⟨e, hem, rfl⟩)
      have hpD : p ≠ D := fun z => by rw [← z, FA.ob] at hDH; cases hDH
      refine ⟨rfl, _, rfl, _, rfl, q, _, rfl, .inr (SqT.of hq), rfl, rfl, _, rfl, ?_⟩
      cases hin : inV (.str g) ((cK e.1).map kV) with
      | false =>
        show if (false = true) then _ else _
        refine iteF ?_
        exact iteF rfl
      | true =>
        refine iteT ⟨_, rfl, _, rfl, p, C, _, _, _, rfl, (upd_ne hpD).trans hob, T.cl, T.nN, fflds_krn _ _, _, rfl, o.dN, .int m, rfl, ?_, _, _, rfl, rfl, _, _, rfl, rfl, _, rfl, ?_⟩
        · refine .inr ⟨_, cK e.1, q, .inr ⟨od, (upd_ne (Ne.symm hDn)).trans upd_same⟩, rfl, hq, ?_⟩
          rw [enc_get cK_inj st.krn e.1, hm]
          rfl
        · have hge : 0 ≤ n + m := by
            have h1 := hw e hem (by
              have : (V.str e.1.1 = V.str g ∨ V.str e.1.2 = V.str g) := by
                have h2 : (eqV (.str e.1.1) (.str g) || (eqV (.str e.1.2) (.str g) || false)) = true := hin
                rw [Bool.or_false, Bool.or_eq_true] at h2
                rcases h2 with h2 | h2
                · exact .inl (congrArg V.str (beq_iff_eq.mp h2))
                · exact .inr (congrArg V.str (beq_iff_eq.mp h2))
              rcases this with h | h
              · exact .inl (V.str.inj h)
              · exact .inr (V.str.inj h))
            unfold kernOf at h1
            rw [hm] at h1
            exact h1
          rw [decide_eq_false (by omega : ¬ n + m < 0)]
          exact iteF rfl
    · rintro H' rfl
      refine ⟨(upd_ne (Ne.symm hDn)).trans upd_same, ?_⟩
      have hfin : upd (upd (upd H o.dN (.frz od (.dT (enc cK st.krn)))) D (.lst [])) o.dN (.dT (enc cK st.krn)) = upd H D (.lst []) := by
        funext b
        by_cases h1 : b = o.dN
        · rw [h1, upd_same, upd_ne (Ne.symm hDn), FA.dn]
        · rw [upd_ne h1]
          by_cases h2 : b = D
          · rw [h2, upd_same, upd_same]
          · rw [upd_ne h2, upd_ne h2, upd_ne h1]
      rw [hfin]
      refine ⟨_, rfl, D, [], rfl, .inl (SqL.of upd_same), _, _, rfl, rfl, _, rfl, ?_⟩
      exact iteF (kQ _ (same_upd hDH))
end
/-! ### _put_advance, _put_kern -/
def spPutA (K : PySem.W.Frag) (C CI CU CT CG : Addr) : Sp := fun vs H Q E => ∃ (p : Addr) (v a : V) (t i b : Bool) (o : Own) (st : FSt) (past : List (List Rec)), vs = [.ref p, v, a] ∧ FontAt C H p o st past ∧ Ks K H v t ∧ IsS v t ∧ (∀ g, v = .str g → g.length ≤ 1000) ∧ Kd K H a i b ∧ ((i && !b) = true → ∃ n, a = .int n) ∧ ((i && !b) = false → ∀ n, a ≠ .int n) ∧ (∀ e ∈ st.adv, e.1.length ≤ 1000) ∧
  (nameV v = false → ∀ d, H d = none → E (.ref CG) (some d) (upd H d (.xd [("glyph", v)]))) ∧
  (nameV v = true → ¬ inR a 0 1000000 → ∀ d, H d = none → E (.ref CI) (some d) (upd H d (.xd [("value", a)]))) ∧
  (∀ g n, v = .str g → nameB g = true → a = .int n → 0 ≤ n → n ≤ 1000000 →
    (1 < g.length → ∀ c, missing st g = some c → ∀ d, H d = none → E (.ref CU) (some d) (upd H d (.xd [("glyph", .str c)]))) ∧
    (g.length ≤ 1 ∨ missing st g = none → (roomless st g = true → ∀ H' d, Same H H' → H' d = none → E (.ref CT) (some d) (upd H' d (.xd [("limit", .int 40)]))) ∧
      (roomless st g = false → Wide st g n ∧ (setA st g (some n)).adv.length ≤ 1000 ∧ ∀ H' l, H l = none → KeepF p o H H' → FontAt C H' p o (setA st g (some n)) past → RecsAt H' l [.adv g (lget st.adv g)] → Q (.ref l) H')))
def kx (n : Int) : Option Int := if n = 0 then none else some n
def spPutK (K : PySem.W.Frag) (C CI CU CO : Addr) : Sp := fun vs H Q E => ∃ (p : Addr) (v u a : V) (t t' i b : Bool) (o : Own) (st : FSt) (past : List (List Rec)), vs = [.ref p, v, u, a] ∧ FontAt C H p o st past ∧ Ks K H v t ∧ IsS v t ∧ Ks K H u t' ∧ IsS u t' ∧ Kd K H a i b ∧ ((i && !b) = true → ∃ n, a = .int n) ∧ ((i && !b) = false → ∀ n, a ≠ .int n) ∧
  (knownV st v = false → ∀ d, H d = none → E (.ref CU) (some d) (upd H d (.xd [("glyph", v)]))) ∧
  (knownV st v = true → knownV st u = false → ∀ d, H d = none → E (.ref CU) (some d) (upd H d (.xd [("glyph", u)]))) ∧
  (knownV st v = true → knownV st u = true → ¬ inR a (-1000000) 1000000 → ∀ d, H d = none → E (.ref CI) (some d) (upd H d (.xd [("value", a)]))) ∧
  (∀ l r n x y, v = .str l → u = .str r → a = .int n → -1000000 ≤ n → n ≤ 1000000 → lget st.adv l = some x → lget st.adv r = some y →
    ((x + n < 0 ∨ y + n < 0) → ∀ d, H d = none → E (.ref CO) (some d) (upd H d (.xd [("right", .str r), ("left", .str l)]))) ∧
    (0 ≤ x + n → 0 ≤ y + n → (setK st (l, r) (kx n)).krn.length ≤ 1000 ∧ ∀ H' q, H q = none → KeepF p o H H' → FontAt C H' p o (setK st (l, r) (kx n)) past → RecsAt H' q [.krn l r (lget st.krn (l, r))] → Q (.ref q) H'))
section
variable {P : Program} {w : World} {K : PySem.W.Frag} {mg : Str → Option Value} {base : Heap} {C CI fE fW fBt fWr CU CT CG CO fEG fNm fEO : Addr}
abbrev sPutA : Stmt := inClass (top 29) 31
theorem scPutA : FnScope ["self", "glyph", "advance"] ["self", "glyph", "advance"] (defScope sPutA) := ⟨rfl, rfl, rfl, by decide +kernel, rfl, by decide +kernel, by decide +kernel⟩
theorem ok_putA {f fL fR fK fWA : Addr} {fd fdN fdE fdB fdL fdR fdK fdW : FuncData} (F : Fun K "_put_advance" "Font._put_advance" sPutA f fd) (T : TxF K mg C CI fE fW fBt fWr) (nm : At K mg "is_glyph_name" fNm) (GN : FnOk P w K mg base CX0 1 fNm fdN ["value"] (spName K)) (bN : Binds K fdN ["value"] [])
    (eG : ErrC K mg "InvalidGlyph" CG fEG) (GE : FnOk P w K mg base CX0 1 fEG fdE ["self", "glyph"] (spEx1 CG "glyph")) (bE : Binds K fdE ["self", "glyph"] []) (GB : FnOk P w K mg base (L2.CX P w) 3 fBt fdB ["value", "low", "high"] (spBetween K CI)) (bB : Binds K fdB ["value", "low", "high"] [])
    (GL : FnOk P w K mg base (L2.CX P w) 4 fL fdL ["self", "glyph"] (spLetters C CU)) (bL : Binds K fdL ["self", "glyph"] []) (mL : Meth K C "_check_letters" fL) (GR : FnOk P w K mg base (L2.CX P w) 5 fR fdR ["self", "glyph"] (spRoom C CT)) (bR : Binds K fdR ["self", "glyph"] []) (mR : Meth K C "_check_room" fR)
    (GK : FnOk P w K mg base (L2.CX P w) 1 fK fdK ["self", "glyph", "advance"] (spKernsOk C)) (bK : Binds K fdK ["self", "glyph", "advance"] []) (mK : Meth K C "_check_kerns" fK) (GW : FnOk P w K mg base CX0 2 fWA fdW ["self", "glyph", "advance"] (spWrA C)) (bW : Binds K fdW ["self", "glyph", "advance"] []) (mW : Meth K C "_write_advance" fWA) :
    FnOk P w K mg base (L2.CX P w) 6 f fd ["self", "glyph", "advance"] (spPutA K C CI CU CT CG) := by
  obtain ⟨u1, hC⟩ := T.adv
  refine F.okX scPutA (fun vs H Q E h => ?_) (fun cdv A outer s H vs Q E hr h => ?_)
  · obtain ⟨p, v, a, t, i, b, o, st, past, rfl, _⟩ := h
    rfl
  · obtain ⟨p, v, a, t, i, b, o, st, past, rfl, FA, ks, is, hvl, kd, h1, h0, hls, eN, eI, k⟩ := h
    have h4 : (sizeLine : Nat) = 16777216 := sizeLine_eq
    refine ⟨_, pss_cons (ps_if (pt_not (pt_val (pe_call GN (hr.mono (by decide)) (by rfl) nm.g nm.k bN .nil pass0 (pa_cons (pv 1) pa_nil)))) (pss_one (ps_raise1 eG GE (hr.mono (by decide)) bE pass0 rfl (takes_of rfl rfl rfl rfl) (pv 1) (fun σ H P R h => mono_tVar σ H P R h))) pss_nil)
      (pss_cons (ps_expr (pe_call GB (hr.mono (by decide)) (by rfl) T.btw.g T.btw.k bB .nil (passes_call (takes_of rfl rfl rfl rfl) (fun _ _ _ _ h => h)) (pa_cons (pv 2) (pa_cons pe_int (pa_cons (pe_con (pv 0) rfl) pa_nil)))))
      (pss_cons (ps_expr (pe_meth (pv 0) T.cl mL GL (hr.mono (by decide)) bL .nil (passes_call (takes_of rfl rfl rfl rfl) (fun _ _ _ _ h => h)) (pa_cons (pv 1) pa_nil)))
      (pss_cons (ps_expr (pe_meth (pv 0) T.cl mR GR hr bR .nil (passes_call (takes_of rfl rfl rfl rfl) (fun _ _ _ _ h => h)) (pa_cons (pv 1) pa_nil)))
      (pss_cons (ps_expr (pe_meth (pv 0) T.cl mK GK (hr.mono (by decide)) bK .nil (passes_call (takes_of rfl rfl rfl rfl) (fun _ _ _ _ h => h)) (pa_cons (pv 1) (pa_cons (pv 2) pa_nil))))
      (pss_one (ps_ret (pe_lst (pa_cons (pe_meth (pv 0) T.cl mW GW (hr.mono (by decide)) bW .nil pass0 (pa_cons (pv 1) (pa_cons (pv 2) pa_nil))) pa_nil)))))))), ?_⟩
    have nf : ∀ {st' : FSt} {m : Str}, (m == ("_advances" : Str)) = false → (m == ("_kerns" : Str)) = false → (m == ("_blank" : Str)) = false → (m == ("_past" : Str)) = false → (fflds o st'.blank).lookup m = none := fun a b c d => fflds_no _ _ a b c d
    refine ⟨_, rfl, v, t, rfl, ks, is, fun g e => by have := hvl g e; omega, _, rfl, ?_⟩
    cases hn : nameV v with
    | false => exact iteT ⟨_, rfl, fun d hd => eN hn d hd⟩
    | true =>
      obtain ⟨g, rfl⟩ : ∃ g, v = .str g := by
        cases v <;> first | exact ⟨_, rfl⟩ | cases hn
      have hgl := hvl g rfl
      refine iteF ⟨_, rfl, _, rfl, p, C, _, _, _, _, rfl, FA.ob, T.cl, hC, nf (by decide +kernel) (by decide +kernel) (by decide +kernel) (by decide +kernel), a, i, b, 0, 1000000, rfl, kd, h1, h0, eI hn, fun ⟨n, e, n0, n1⟩ => ?_⟩
      subst e
      obtain ⟨q1, q2⟩ := k g n rfl hn rfl n0 n1
      refine ⟨_, rfl, p, _, _, rfl, FA.ob, nf (by decide +kernel) (by decide +kernel) (by decide +kernel) (by decide +kernel), _, rfl, p, g, o, st, past, rfl, FA, hgl, q1, fun hm => ?_⟩
      obtain ⟨q3, q4⟩ := q2 hm
      refine ⟨_, rfl, p, _, _, rfl, FA.ob, nf (by decide +kernel) (by decide +kernel) (by decide +kernel) (by decide +kernel), _, rfl, p, g, o, st, past, rfl, FA, hgl, hls, q3, fun hro H1 s1 => ?_⟩
      obtain ⟨hw, hlen, kQ⟩ := q4 hro
      have F1 := FA.sm s1
      refine ⟨_, rfl, p, _, _, rfl, F1.ob, nf (by decide +kernel) (by decide +kernel) (by decide +kernel) (by decide +kernel), _, rfl, _, rfl, p, g, n, o, st, past, rfl, F1, hw, fun H2 s2 => ?_⟩
      have F2 := F1.sm s2
      refine ⟨_, rfl, p, _, _, rfl, F2.ob, nf (by decide +kernel) (by decide +kernel) (by decide +kernel) (by decide +kernel), _, rfl, _, rfl, p, g, some n, o, st, past, rfl, F2, hlen, fun H3 t3 ht3 kf F3 hrec => ?_⟩
      refine ⟨by show 1 ≤ sizeLine; decide, fun l hl => ?_⟩
      have kf' : KeepF p o H H3 := ((KeepF.same s1).trans (KeepF.same s2)).trans kf
      have hlH : H l = none := by
        cases e : H l with
        | none => rfl
        | some u =>
          have e2 := s2 _ _ (s1 _ _ e)
          obtain ⟨ls, hp, _⟩ := F3.dp
          by_cases c1 : l = p
          · rw [c1, F3.ob] at hl; cases hl
          · by_cases c2 : l = o.dA
            · rw [c2, F3.da] at hl; cases hl
            · by_cases c3 : l = o.dN
              · rw [c3, F3.dn] at hl; cases hl
              · by_cases c4 : l = o.dP
                · rw [c4, hp] at hl; cases hl
                · rw [kf _ _ e2 c1 c2 c3 c4] at hl; cases hl
      exact kQ _ l hlH (kf'.trans (KeepF.same (same_upd hl))) (F3.sm (same_upd hl)) ⟨[t3], upd_same, .cons (RecAt.sm (fun _ _ => same_upd hl _ _) hrec) .nil⟩
abbrev sPutK : Stmt := inClass (top 29) 32
theorem scPutK : FnScope ["self", "left", "right", "kern"] ["self", "left", "right", "kern"] (defScope sPutK) := ⟨rfl, rfl, rfl, by decide +kernel, rfl, by decide +kernel, by decide +kernel⟩
theorem ok_putK {f fK fWK : Addr} {fd fdE fdB fdK fdW : FuncData} (F : Fun K "_put_kern" "Font._put_kern" sPutK f fd) (T : TxF K mg C CI fE fW fBt fWr) (eO : ErrC K mg "Overlap" CO fEO) (GE : FnOk P w K mg base CX0 1 fEO fdE ["self", "left", "right"] (spEx2 CO "left" "right")) (bE : Binds K fdE ["self", "left", "right"] [])
    (GB : FnOk P w K mg base (L2.CX P w) 3 fBt fdB ["value", "low", "high"] (spBetween K CI)) (bB : Binds K fdB ["value", "low", "high"] []) (GK : FnOk P w K mg base (L2.CX P w) 3 fK fdK ["self", "glyph"] (spKnown K C CU)) (bK : Binds K fdK ["self", "glyph"] []) (mK : Meth K C "_check_known" fK)
    (GW : FnOk P w K mg base CX0 2 fWK fdW ["self", "pair", "kern"] (spWrK C)) (bW : Binds K fdW ["self", "pair", "kern"] []) (mW : Meth K C "_write_kern" fWK) : FnOk P w K mg base (L2.CX P w) 4 f fd ["self", "left", "right", "kern"] (spPutK K C CI CU CO) := by
  obtain ⟨u1, hC⟩ := T.adv
  refine F.okX scPutK (fun vs H Q E h => ?_) (fun cdv A outer s H vs Q E hr h => ?_)
  · obtain ⟨p, v, u, a, t, t', i, b, o, st, past, rfl, _⟩ := h
    rfl
  · obtain ⟨p, v, u, a, t, t', i, b, o, st, past, rfl, FA, ks, is, ks', is', kd, h1, h0, e1, e2, e3, k⟩ := h
    have hu := hu_of hr
    refine ⟨_, pss_cons (ps_expr (pe_meth (pv 0) T.cl mK GK hr bK .nil (passes_call (takes_of rfl rfl rfl rfl) (fun _ _ _ _ h => h)) (pa_cons (pv 1) pa_nil)))
      (pss_cons (ps_expr (pe_meth (pv 0) T.cl mK GK hr bK .nil (passes_call (takes_of rfl rfl rfl rfl) (fun _ _ _ _ h => h)) (pa_cons (pv 2) pa_nil)))
      (pss_cons (ps_expr (pe_call GB hr (by rfl) T.btw.g T.btw.k bB .nil (passes_call (takes_of rfl rfl rfl rfl) (fun _ _ _ _ h => h)) (pa_cons (pv 3) (pa_cons (pe_un un_neg (pe_con (pv 0) rfl)) (pa_cons (pe_con (pv 0) rfl) pa_nil)))))
      (pss_cons (ps_if (PW.pt (pw_or (pt_cmpR op_lt (pe_op op_add (pe_dget hu (pe_fld (pv 0) rfl) (pv 1) (fun _ _ => rfl)) (pv 3)) pe_int (nomark _)) (pw_or1 (pt_cmpR op_lt (pe_op op_add (pe_dget hu (pe_fld (pv 0) rfl) (pv 2) (fun _ _ => rfl)) (pv 3)) pe_int (nomark _)))))
        (pss_one (ps_raise2 eO GE (hr.mono (by decide)) bE pass0 rfl (takes_of rfl rfl rfl rfl) (pv 1) (pv 2) (fun σ H P R h => mono_tVar σ H P R h) (fun σ H P R h => mono_tVar σ H P R h))) pss_nil)
      (pss_one (ps_ret (pe_lst (pa_cons (pe_meth (pv 0) T.cl mW GW (hr.mono (by decide)) bW .nil pass0 (pa_cons (pe_tup (pa_cons (pv 1) (pa_cons (pv 2) pa_nil))) (pa_cons (pe_ifExp (pt_cmpR op_eq (pv 3) pe_int (nomark _)) pe_non (pv 3)) pa_nil))) pa_nil))))))), ?_⟩
    have nf : ∀ {m : Str}, (m == ("_advances" : Str)) = false → (m == ("_kerns" : Str)) = false → (m == ("_blank" : Str)) = false → (m == ("_past" : Str)) = false → (fflds o st.blank).lookup m = none := fun a b c d => fflds_no _ _ a b c d
    refine ⟨_, rfl, p, _, _, rfl, FA.ob, nf (by decide +kernel) (by decide +kernel) (by decide +kernel) (by decide +kernel), _, rfl, p, v, t, o, st, past, rfl, FA, ks, is, e1, fun hv => ?_⟩
    refine ⟨_, rfl, p, _, _, rfl, FA.ob, nf (by decide +kernel) (by decide +kernel) (by decide +kernel) (by decide +kernel), _, rfl, p, u, t', o, st, past, rfl, FA, ks', is', e2 hv, fun hu' => ?_⟩
    refine ⟨_, rfl, _, rfl, p, C, _, _, _, _, rfl, FA.ob, T.cl, hC, nf (by decide +kernel) (by decide +kernel) (by decide +kernel) (by decide +kernel), _, rfl, _, rfl, p, C, _, _, _, _, rfl, FA.ob, T.cl, hC, nf (by decide +kernel) (by decide +kernel) (by decide +kernel) (by decide +kernel), a, i, b, -1000000, 1000000, rfl, kd, h1, h0, e3 hv hu', fun ⟨n, e, n0, n1⟩ => ?_⟩
    subst e
    obtain ⟨l, rfl⟩ : ∃ g, v = .str g := by
      cases v <;> first | exact ⟨_, rfl⟩ | cases hv
    obtain ⟨r, rfl⟩ : ∃ g, u = .str g := by
      cases u <;> first | exact ⟨_, rfl⟩ | cases hu'
    obtain ⟨x, hx⟩ := Option.isSome_iff_exists.mp (show (lget st.adv l).isSome = true from hv)
    obtain ⟨y, hy⟩ := Option.isSome_iff_exists.mp (show (lget st.adv r).isSome = true from hu')
    obtain ⟨q1, q2⟩ := k l r n x y rfl rfl rfl n0 n1 hx hy
    have gl : ∀ {g : Str} {m : Int}, lget st.adv g = some m → DGet H o.dA (.str g) (some (.int m)) := fun {g m} hm => by
      have e : valV (enc cA st.adv) (Sum.inr g : Key) = some (.int m) := by
        rw [show valV (enc cA st.adv) (Sum.inr g : Key) = (lget st.adv g).map V.int from enc_get cA_inj st.adv g, hm]
        rfl
      rw [← e]
      exact DGet.k (k := Sum.inr g) FA.da
    refine ⟨_, rfl, p, C, _, _, _, rfl, FA.ob, T.cl, T.nA, fflds_adv _ _, _, rfl, o.dA, .int x, rfl, gl hx, _, rfl, _, _, rfl, rfl, _, _, rfl, rfl, _, rfl, ?_⟩
    refine ite2 (fun hb => ?_) (fun hb => ?_)
    · have hb' := of_decide_eq_true hb
      exact iteT ⟨_, rfl, _, rfl, fun d hd => q1 (.inl hb') d hd⟩
    · have hb' : ¬ x + n < 0 := fun z => hb (decide_eq_true z)
      refine ⟨_, rfl, p, C, _, _, _, rfl, FA.ob, T.cl, T.nA, fflds_adv _ _, _, rfl, o.dA, .int y, rfl, gl hy, _, rfl, _, _, rfl, rfl, _, _, rfl, rfl, _, rfl, ?_⟩
      refine ite2 (fun hc => ?_) (fun hc => ?_)
      · have hc' := of_decide_eq_true hc
        exact ⟨_, rfl, _, rfl, fun d hd => q1 (.inr hc') d hd⟩
      · have hc' : ¬ y + n < 0 := fun z => hc (decide_eq_true z)
        obtain ⟨hlen, kQ⟩ := q2 (by omega) (by omega)
        refine ⟨_, rfl, p, _, _, rfl, FA.ob, nf (by decide +kernel) (by decide +kernel) (by decide +kernel) (by decide +kernel), _, rfl, _, rfl, by show 2 ≤ sizeLine; decide, fun q hq => ?_⟩
        have s1 : Same H (upd H q (.tup [.str l, .str r])) := same_upd hq
        have F1 := FA.sm s1
        refine ⟨_, rfl, rfl, _, rfl, ?_⟩
        rw [dec_int]
        have fin : ∀ (z : V), z = ov (kx n) → spWrK C ([.ref p, .ref q, z] ++ []) (upd H q (.tup [.str l, .str r])) (fun x H1 => [x].length ≤ sizeLine ∧ ∀ l, H1 l = none → Q (.ref l) (upd H1 l (.lst [x]))) E0 := fun z hz => by
          refine ⟨p, q, (l, r), kx n, o, st, past, by rw [hz]; rfl, F1, upd_same, hlen, fun H3 t3 ht3 kf F3 hrec => ⟨by show 1 ≤ sizeLine; decide, fun l3 hl3 => ?_⟩⟩
          have kf' : KeepF p o H H3 := (KeepF.same s1).trans kf
          have hlH : H l3 = none := by
            cases e : H l3 with
            | none => rfl
            | some u =>
              have e2 := s1 _ _ e
              obtain ⟨ls, hp, _⟩ := F3.dp
              by_cases c1 : l3 = p
              · rw [c1, F3.ob] at hl3; cases hl3
              · by_cases c2 : l3 = o.dA
                · rw [c2, F3.da] at hl3; cases hl3
                · by_cases c3 : l3 = o.dN
                  · rw [c3, F3.dn] at hl3; cases hl3
                  · by_cases c4 : l3 = o.dP
                    · rw [c4, hp] at hl3; cases hl3
                    · rw [kf _ _ e2 c1 c2 c3 c4] at hl3; cases hl3
          exact kQ _ l3 hlH (kf'.trans (KeepF.same (same_upd hl3))) (F3.sm (same_upd hl3)) ⟨[t3], upd_same, .cons (RecAt.sm (fun _ _ => same_upd hl3 _ _) hrec) .nil⟩
        by_cases n00 : n = 0
        · rw [show (n == 0) = true from beq_iff_eq.mpr n00]
          exact iteT (fin .non (by unfold kx; rw [if_pos n00]; rfl))
        · rw [show (n == 0) = false from beq_eq_false_iff_ne.mpr n00]
          exact iteF ⟨_, rfl, fin (.int n) (by unfold kx; rw [if_neg n00]; rfl)⟩
end
/-! ### Font.__init__, every step accepted -/
def advOf (fa : AdvL) (g : Str) : Int := (lget fa g).getD 0
def keysA (fa : AdvL) : List Str := (fa.map (·.1)).mergeSort (PySem.W.dataLe false kRank)
def keysK (fk : KrnL) : List (Str × Str) := (fk.map (·.1)).mergeSort (PySem.W.dataLe false kPlace)
def stA (fa : AdvL) (b : Int) (i : Nat) : FSt := ((keysA fa).take i).foldl (fun st g => setA st g (some (advOf fa g))) ⟨[], [], b⟩
def stK (fk : KrnL) (st : FSt) (i : Nat) : FSt := ((keysK fk).take i).foldl (fun st g => setK st g (kx (kernOf fk g))) st
def StepA (st : FSt) (g : Str) (n : Int) : Prop := nameB g = true ∧ 0 ≤ n ∧ n ≤ 1000000 ∧ (g.length ≤ 1 ∨ missing st g = none) ∧ roomless st g = false ∧ Wide st g n ∧ (setA st g (some n)).adv.length ≤ 1000 ∧ (∀ e ∈ st.adv, e.1.length ≤ 1000)
def StepK (st : FSt) (g : Str × Str) (n : Int) : Prop := -1000000 ≤ n ∧ n ≤ 1000000 ∧ ∃ x y, lget st.adv g.1 = some x ∧ lget st.adv g.2 = some y ∧ 0 ≤ x + n ∧ 0 ≤ y + n ∧ (setK st g (kx n)).krn.length ≤ 1000
/-- a face that the constructor accepts, and the font's state then -/
structure Face (fa : AdvL) (fk : KrnL) (b : Int) : Prop where
  b0 : 0 ≤ b
  b1 : b ≤ 1000000
  la : fa.length ≤ 1000
  lk : fk.length ≤ 1000
  ln : ∀ e ∈ fa, e.1.length ≤ 1000
  sa : ∀ i g, (keysA fa)[i]? = some g → StepA (stA fa b i) g (advOf fa g)
  sk : ∀ i g, (keysK fk)[i]? = some g → StepK (stK fk (stA fa b fa.length) i) g (kernOf fk g)
def endSt (fa : AdvL) (fk : KrnL) (b : Int) : FSt := stK fk (stA fa b fa.length) fk.length
def KrnArg (H : Hp) (v : V) (fk : KrnL) : Prop := (∃ k, v = .ref k ∧ H k = some (.dT (enc cK fk))) ∨ (v = .non ∧ fk = [])
def spFont (C : Addr) : Sp := fun vs H Q _ => ∃ (p dx a : Addr) (kv : V) (fa : AdvL) (fk : KrnL) (b : Int), vs = [.ref p, .ref a, kv, .int b] ∧ H p = some (.ins C dx []) ∧ H a = some (.dK (enc cA fa)) ∧ KrnArg H kv fk ∧ Face fa fk b ∧
  ∀ H' (o : Own), o.dx = dx → (∀ c u, H c = some u → c ≠ p → H' c = some u) → H o.dA = none → H o.dN = none → H o.dP = none → FontAt C H' p o (endSt fa fk b) [] → Q .non H'
theorem sort_place (xs : List (Addr × (Str × Str))) : (xs.mergeSort (PySem.W.dataLe false fun x => kPlace x.2)).map (·.2) = (xs.map (·.2)).mergeSort (PySem.W.dataLe false kPlace) := List.map_mergeSort fun a _ b _ => rfl
section
variable {P : Program} {w : World} {K : PySem.W.Frag} {mg : Str → Option Value} {base : Heap} {C CI fE fW fBt fWr fHas fLen CU fEU fPl fPP CT CG CO : Addr}
abbrev sInit : Stmt := inClass (top 29) 4
theorem scInit : FnScope ["self", "advances", "kerns", "blank", "glyph", "pairs", "left", "right"] ["self", "advances", "kerns", "blank"] (defScope sInit) := ⟨rfl, rfl, rfl, by decide +kernel, rfl, by decide +kernel, by decide +kernel⟩
theorem ok_font {f fB fA fK : Addr} {fd fdB fdA fdK : FuncData} {t0 : Tok} (F : FunD K "__init__" "Font.__init__" (defArgs sInit) (defBody sInit) (defScope sInit) [.non] [("blank", .int 250)] f fd) (T : TxF K mg C CI fE fW fBt fWr) (U : TxH K mg C fHas fLen CU fEU fPl)
    (mB : mg "BLANK" = some (.int 250 t0)) (pp : mg "pair_place" = some (.ref fPP)) (GP : KeyStr P w K mg base fPl kRank) (GQ : KeyPair P w K mg base fPP kPlace)
    (GB : FnOk P w K mg base (L2.CX P w) 4 fB fdB ["self", "advance"] (spPutB K C CI)) (bB : Binds K fdB ["self", "advance"] []) (eB : Meth K C "_put_blank" fB)
    (GA : FnOk P w K mg base (L2.CX P w) 6 fA fdA ["self", "glyph", "advance"] (spPutA K C CI CU CT CG)) (bA : Binds K fdA ["self", "glyph", "advance"] []) (eA : Meth K C "_put_advance" fA)
    (GK : FnOk P w K mg base (L2.CX P w) 4 fK fdK ["self", "left", "right", "kern"] (spPutK K C CI CU CO)) (bK : Binds K fdK ["self", "left", "right", "kern"] []) (eK : Meth K C "_put_kern" fK) : FnOk P w K mg base (L2.CX P w) 7 f fd ["self", "advances", "kerns", "blank"] (spFont C) := by
  refine F.ok scInit (fun vs H Q E h => ?_) (fun cdv A outer s H vs Q E hr h => ?_)
  · obtain ⟨p, dx, a, kv, fa, fk, b, rfl, _⟩ := h
    rfl
  · obtain ⟨p, dx, a, kv, fa, fk, b, rfl, hp, ha, hk, FC, kQ⟩ := h
    have nd := scInit.nd
    have hu := hu_of hr
    refine ⟨_, pss_cons (ps_fld (pv 0) pe_dnewK rfl) (pss_cons (ps_fld (pv 0) pe_dnewT rfl) (pss_cons (ps_fld (pv 0) (pe_glob (v := .int 250) (by rfl) mB ⟨_, rfl⟩) rfl) (pss_cons (ps_fld (pv 0) (pe_lst pa_nil) rfl)
      (pss_cons (ps_expr (pe_meth (pv 0) T.cl eB GB (hr.mono (by decide)) bB .nil (passes_call (takes_of rfl rfl rfl rfl) (fun _ _ _ _ h => h)) (pa_cons (pv 3) pa_nil)))
      (pss_cons (ps_for (passes_of rfl) rfl (pi_list (pe_callBK (cr_sortedK (f := fPl) (val := V.str) (ok := fun _ _ x => x.length ≤ 1000) (k := kRank) rfl (hr.mono (by decide))) (by rfl) U.mSorted (by decide +kernel) (pa_cons (pe_callTy (call_list_dK rfl) (by rfl) U.mList (by decide +kernel) (pa_cons (pv 1) pa_nil)) pa_nil) (pk_cons (pe_glob (v := .ref fPl) (by rfl) U.pl rfl) pk_nil)))
        (pg_name (i := 4) nd rfl (Or.inl rfl)) (pss_one (ps_expr (pe_meth (pv 0) T.cl eA GA hr bA .nil (passes_call (takes_of rfl rfl rfl rfl) (fun _ _ _ _ h => h)) (pa_cons (pv 4) (pa_cons (pe_dget hu (pv 1) (pv 4) (fun _ _ => rfl)) pa_nil))))))
      (C8.pss_cut (ps_set (i := 5) nd rfl (Or.inl rfl) (pe_ifExp (pt_cmp (pc_isN (pv 2))) pe_dnewT (pv 2)))
      (pss_one (ps_for (passes_of rfl) rfl (pi_list (pe_callBK (cr_sortedK (f := fPP) (val := fun x => V.ref x.1) (ok := fun hp _ x => ∃ t1 t2, PyProof.Rows.IsTup hp x.1 #[.str x.2.1 t1, .str x.2.2 t2]) (k := fun x : Addr × (Str × Str) => kPlace x.2) rfl (hr.mono (by decide))) (by rfl) U.mSorted (by decide +kernel) (pa_cons (pe_callTy (call_list_dT rfl) (by rfl) U.mList (by decide +kernel) (pa_cons (pv 5) pa_nil)) pa_nil) (pk_cons (pe_glob (v := .ref fPP) (by rfl) pp rfl) pk_nil)))
        (pg_tup rfl (pgs_cons (pg_name (i := 6) nd rfl (Or.inl rfl)) (pgs_cons (pg_name (i := 7) nd rfl (Or.inl rfl)) pgs_nil)))
        (pss_one (ps_expr (pe_meth (pv 0) T.cl eK GK (hr.mono (by decide)) bK .nil (passes_call (takes_of rfl rfl rfl rfl) (fun _ _ _ _ h => h)) (pa_cons (pv 6) (pa_cons (pv 7) (pa_cons (pe_dget hu (pv 5) (pe_tup (pa_cons (pv 6) (pa_cons (pv 7) pa_nil))) (fun _ _ => rfl)) pa_nil)))))))))))))), ?_⟩
    have h1000 : (4 : Nat) < 1000 := by decide
    refine fun dA hA => ⟨_, rfl, p, C, dx, [], rfl, (upd_ne (fresh_of hA hp)).trans hp, T.cl, T.nA, (by show 0 < 1000; decide), ?_⟩
    obtain ⟨H1, e1⟩ : ∃ H1, H1 = upd (upd H dA (.dK [])) p (.ins C dx (putF "_advances" (.ref dA) [])) := ⟨_, rfl⟩
    rw [← e1]
    refine fun dN hN => ?_
    have p1 : H1 p = some (.ins C dx (putF "_advances" (.ref dA) [])) := by rw [e1]; exact upd_same
    refine ⟨_, rfl, p, C, dx, _, rfl, (upd_ne (fresh_of hN p1)).trans p1, T.cl, T.nN, (by show 1 < 1000; decide), ?_⟩
    obtain ⟨H2, e2⟩ : ∃ H2, H2 = upd (upd H1 dN (.dT [])) p (.ins C dx (putF "_kerns" (.ref dN) (putF "_advances" (.ref dA) []))) := ⟨_, rfl⟩
    rw [← e2]
    have p2 : H2 p = some (.ins C dx (putF "_kerns" (.ref dN) (putF "_advances" (.ref dA) []))) := by rw [e2]; exact upd_same
    refine ⟨_, rfl, p, C, dx, _, rfl, p2, T.cl, T.nB, (by show 2 < 1000; decide), ?_⟩
    obtain ⟨H3, e3⟩ : ∃ H3, H3 = upd H2 p (.ins C dx (putF "_blank" (.int 250) (putF "_kerns" (.ref dN) (putF "_advances" (.ref dA) [])))) := ⟨_, rfl⟩
    rw [← e3]
    have p3 : H3 p = some (.ins C dx (putF "_blank" (.int 250) (putF "_kerns" (.ref dN) (putF "_advances" (.ref dA) [])))) := by rw [e3]; exact upd_same
    refine ⟨by show 0 ≤ sizeLine; decide, fun dP hP => ?_⟩
    refine ⟨_, rfl, p, C, dx, _, rfl, (upd_ne (fresh_of hP p3)).trans p3, T.cl, T.nP, (by show 3 < 1000; decide), ?_⟩
    obtain ⟨o, eo⟩ : ∃ o : Own, o = ⟨dx, dA, dN, dP⟩ := ⟨_, rfl⟩
    have eff : putF "_past" (.ref dP) (putF "_blank" (.int 250) (putF "_kerns" (.ref dN) (putF "_advances" (.ref dA) []))) = fflds o 250 := by
      rw [eo]
      exact fflds_make ⟨dx, dA, dN, dP⟩ 250
    rw [eff]
    obtain ⟨H4, e4⟩ : ∃ H4, H4 = upd (upd H3 dP (.lst [])) p (.ins C dx (fflds o 250)) := ⟨_, rfl⟩
    rw [← e4]
    have pA : p ≠ dA := fresh_of hA hp
    have pN : p ≠ dN := fresh_of hN p1
    have pP : p ≠ dP := fresh_of hP p3
    have A1 : H1 dA = some (.dK []) := by rw [e1, upd_ne (Ne.symm pA), upd_same]
    have AN : dA ≠ dN := fresh_of hN A1
    have A2 : H2 dA = some (.dK []) := by rw [e2, upd_ne (Ne.symm pA), upd_ne AN, A1]
    have A3 : H3 dA = some (.dK []) := by rw [e3, upd_ne (Ne.symm pA), A2]
    have AP : dA ≠ dP := fresh_of hP A3
    have N2 : H2 dN = some (.dT []) := by rw [e2, upd_ne (Ne.symm pN), upd_same]
    have N3 : H3 dN = some (.dT []) := by rw [e3, upd_ne (Ne.symm pN), N2]
    have NP : dN ≠ dP := fresh_of hP N3
    have A4 : H4 dA = some (.dK []) := by rw [e4, upd_ne (Ne.symm pA), upd_ne AP, A3]
    have N4 : H4 dN = some (.dT []) := by rw [e4, upd_ne (Ne.symm pN), upd_ne NP, N3]
    have P4 : H4 dP = some (.lst []) := by rw [e4, upd_ne (Ne.symm pP), upd_same]
    have F4 : FontAt C H4 p o ⟨[], [], 250⟩ [] := by
      subst eo
      exact ⟨by rw [e4]; exact upd_same, A4, N4, ⟨[], P4, .nil, fun x hx => by cases hx⟩, Nat.zero_le _, Nat.zero_le _, Nat.zero_le _⟩
    have HN : H dN = none := by
      rw [e1] at hN
      exact noneU (noneU hN)
    have HP : H dP = none := by
      rw [e3, e2, e1] at hP
      exact noneU (noneU (noneU (noneU (noneU hP))))
    have st4 : ∀ c u, H c = some u → c ≠ p → H4 c = some u := fun c u e hc => by
      rw [e4, upd_ne hc, upd_ne (fresh_of HP e), e3, upd_ne hc, e2, upd_ne hc, upd_ne (fresh_of HN e), e1, upd_ne hc, upd_ne (fresh_of hA e), e]
    refine ⟨_, rfl, p, _, _, rfl, F4.ob, fflds_no _ _ (by decide +kernel) (by decide +kernel) (by decide +kernel) (by decide +kernel), _, rfl, ?_⟩
    refine ⟨p, .int b, true, false, o, ⟨[], [], 250⟩, [], rfl, F4, Kd.int, fun _ => ⟨b, rfl⟩, fun h => (by cases h), fun hn => absurd ⟨b, rfl, FC.b0, FC.b1⟩ hn, fun n en _ _ H5 l hl5 kf5 F5 _ => ?_⟩
    have en' : n = b := (V.int.inj en).symm
    subst en'
    have oA : o.dA = dA := by rw [eo]
    have oN : o.dN = dN := by rw [eo]
    have oP : o.dP = dP := by rw [eo]
    have keepH : ∀ c u, H c = some u → c ≠ p → c ≠ o.dA ∧ c ≠ o.dN ∧ c ≠ o.dP := fun c u e _ => by
      rw [oA, oN, oP]
      exact ⟨fresh_of hA e, fresh_of HN e, fresh_of HP e⟩
    have ap : a ≠ p := fun z => by rw [z, hp] at ha; cases ha
    obtain ⟨aA, aN, aP⟩ := keepH a _ ha ap
    have a5 : H5 a = some (.dK (enc cA fa)) := kf5 _ _ (st4 _ _ ha ap) ap aA aN aP
    refine ⟨_, rfl, a, _, rfl, a5, fun q hq => ?_⟩
    have kmap : (enc cA fa).map (fun kv => kV kv.1) = (fa.map (·.1)).map V.str := by
      unfold enc
      rw [List.map_map, List.map_map]
      rfl
    rw [kmap]
    refine ⟨q, fa.map (·.1), rfl, rfl, SqL.of upd_same, keyFn_str GP (fun x hx => ?_), fun L hL => ⟨L, rfl, ⟨_, SqL.of upd_same⟩, ?_⟩⟩
    · obtain ⟨e, he, rfl⟩ := List.mem_map.mp hx
      exact FC.ln e he
    obtain ⟨HL, eL⟩ : ∃ HL, HL = upd (upd H5 q (.lst ((fa.map (·.1)).map V.str))) L (.lst ((keysA fa).map V.str)) := ⟨_, rfl⟩
    show ∃ W : Nat → Nat → St → Hp → Prop, (∃ m, W 0 m _ (upd (upd H5 q (.lst ((fa.map (·.1)).map V.str))) L (.lst ((keysA fa).map V.str)))) ∧ _
    rw [← eL]
    have s5L : Same H5 HL := by
      rw [eL]
      exact (same_upd hq).trans (same_upd hL)
    have FL := F5.sm s5L
    have LL : HL L = some (.lst ((keysA fa).map V.str)) := by rw [eL]; exact upd_same
    have L5 : H5 L = none := noneU hL
    have LP : L ≠ o.dP := fun z => by
      obtain ⟨ls, hp5, _⟩ := F5.dp
      rw [z, hp5] at L5
      cases L5
    have aL : HL a = some (.dK (enc cA fa)) := s5L _ _ a5
    refine for_list (K := K) (a := L) (xs := (keysA fa).map V.str) (fun i σ H' => (∃ u w x y : Option V, σ = [some (.ref p), some (.ref a), some kv, some (.int n), u, w, x, y]) ∧ KeepF p o HL H' ∧ FontAt C H' p o (stA fa n i) [])
      ⟨⟨none, none, none, none, rfl⟩, KeepF.refl, FL⟩ (fun i σ H' _ ⟨_, kf, _⟩ => SqL.of (FL.keepL kf LL LP)) ?_ ?_
    · rintro i x σ H' hx ⟨⟨u, w', x', y', rfl⟩, kf, F'⟩
      rw [List.getElem?_map, Option.map_eq_some_iff] at hx
      obtain ⟨g, hg, rfl⟩ := hx
      obtain ⟨c1, c2, c3, c4, c5, c6, c7, c8⟩ := FC.sa i g hg
      have hgm : g ∈ fa.map (·.1) := List.mem_mergeSort.mp (List.mem_of_getElem? hg)
      obtain ⟨m, hm⟩ := lget_of_mem hgm
      have em : advOf fa g = m := by
        unfold advOf
        rw [hm]
        rfl
      have hgl : g.length ≤ 1000 := by
        obtain ⟨e, he, rfl⟩ := List.mem_map.mp hgm
        exact FC.ln e he
      rw [em] at c2 c3 c6 c7
      have hst : stA fa n (i + 1) = setA (stA fa n i) g (some m) := by
        unfold stA
        rw [foldl_take _ _ hg, em]
      refine ⟨_, rfl, p, _, _, rfl, F'.ob, fflds_no _ _ (by decide +kernel) (by decide +kernel) (by decide +kernel) (by decide +kernel), _, rfl, _, rfl, _, rfl, a, .int m, rfl, ?_, ?_⟩
      · have e : valV (enc cA fa) (Sum.inr g : Key) = some (.int m) := by
          rw [show valV (enc cA fa) (Sum.inr g : Key) = (lget fa g).map V.int from enc_get cA_inj fa g, hm]
          rfl
        rw [← e]
        exact DGet.k (k := Sum.inr g) (kf _ _ aL ap aA aN aP)
      · refine ⟨p, .str g, .int m, true, true, false, o, stA fa n i, [], rfl, F', Ks.str, IsS.str, fun g' e => (by cases e; exact hgl), Kd.int, fun _ => ⟨m, rfl⟩, fun h => (by cases h), c8, fun hn => (by rw [show nameV (.str g) = true from c1] at hn; cases hn), fun _ hn => absurd ⟨m, rfl, c2, c3⟩ hn, ?_⟩
        rintro g' m' eg _ em' _ _
        cases eg
        cases em'
        refine ⟨fun hl1 c hc => ?_, fun _ => ⟨fun hro => (by rw [c5] at hro; cases hro), fun _ => ⟨c6, c7, fun H2 l2 hl2 kf2 F2 _ => ⟨⟨_, _, _, _, rfl⟩, kf.trans kf2, ?_⟩⟩⟩⟩
        · rcases c4 with c4 | c4
          · omega
          · rw [c4] at hc; cases hc
        · rw [hst]
          exact F2
    · rintro σ H6 ⟨⟨u, w', x', y', rfl⟩, kf6, F6⟩
      have hkl : (keysA fa).length = fa.length := by
        unfold keysA
        rw [List.length_mergeSort, List.length_map]
      rw [List.length_map, hkl] at F6
      have st6 : ∀ c u, H c = some u → c ≠ p → H6 c = some u := fun c u e hc => by
        obtain ⟨cA', cN', cP'⟩ := keepH c u e hc
        exact kf6 _ _ (s5L _ _ (kf5 _ _ (st4 _ _ e hc) hc cA' cN' cP')) hc cA' cN' cP'
      refine ⟨fun σ' H' => ∃ (k : Addr) (u x' y' : Option V), σ' = [some (.ref p), some (.ref a), some kv, some (.int n), u, some (.ref k), x', y'] ∧ k ≠ p ∧ k ≠ o.dA ∧ k ≠ o.dN ∧ k ≠ o.dP ∧ H' k = some (.dT (enc cK fk)) ∧ FontAt C H' p o (stA fa n fa.length) [] ∧ (∀ c u, H c = some u → c ≠ p → H' c = some u), ?_, ?_⟩
      · refine ⟨_, rfl, _, rfl, ?_⟩
        rcases hk with ⟨k, rfl, hk⟩ | ⟨rfl, rfl⟩
        · have kp : k ≠ p := fun z => by rw [z, hp] at hk; cases hk
          obtain ⟨kA, kN, kP⟩ := keepH k _ hk kp
          refine iteF ⟨_, rfl, k, _, _, _, rfl, kp, kA, kN, kP, st6 _ _ hk kp, F6, st6⟩
        · refine iteT (fun d hd => ?_)
          have ob6 := F6.ob
          have da6 := F6.da
          have dn6 := F6.dn
          obtain ⟨ls6, dp6, _⟩ := F6.dp
          refine ⟨d, _, _, _, rfl, fun z => ?_, fun z => ?_, fun z => ?_, fun z => ?_, upd_same, F6.sm (same_upd hd), fun c u e hc => same_upd hd _ _ (st6 c u e hc)⟩
          · rw [z, ob6] at hd; cases hd
          · rw [z, da6] at hd; cases hd
          · rw [z, dn6] at hd; cases hd
          · rw [z, dp6] at hd; cases hd
      rintro σ' H6 ⟨k, u, x', y', rfl, kp, kA, kN, kP, k6, F6, st6⟩
      refine ⟨_, rfl, k, _, rfl, .inl k6, fun q2 bs hq2 hk2 => ?_⟩
      obtain ⟨xs, e1', e2', e3'⟩ := keys_pairs hk2
      rw [e1']
      refine ⟨q2, xs, rfl, rfl, SqL.of upd_same, keyFn_pair GQ (fun x hx => (same_upd hq2) _ _ (e3' x hx)), fun L2 hL2 => ⟨L2, rfl, ⟨_, SqL.of upd_same⟩, ?_⟩⟩
      have hss := sort_place xs
      rw [e2'] at hss
      generalize hys : xs.mergeSort (PySem.W.dataLe false fun x => kPlace x.2) = ys at hss hL2 ⊢
      have hyx : ∀ y ∈ ys, y ∈ xs := fun y hy => by rw [← hys] at hy; exact List.mem_mergeSort.mp hy
      obtain ⟨H7, e7⟩ : ∃ H7, H7 = upd (upd H6 q2 (.lst (xs.map fun x => V.ref x.1))) L2 (.lst (ys.map fun x => V.ref x.1)) := ⟨_, rfl⟩
      show ∃ W : Nat → Nat → St → Hp → Prop, (∃ m, W 0 m _ (upd (upd H6 q2 (.lst (xs.map fun x => V.ref x.1))) L2 (.lst (ys.map fun x => V.ref x.1)))) ∧ _
      rw [← e7]
      have s67 : Same H6 H7 := by
        rw [e7]
        exact (same_upd hq2).trans (same_upd hL2)
      have F7 := F6.sm s67
      have LL2 : H7 L2 = some (.lst (ys.map fun x => V.ref x.1)) := by rw [e7]; exact upd_same
      have L26 : H6 L2 = none := noneU hL2
      have LP2 : L2 ≠ o.dP := fun z => by
        obtain ⟨ls, hp6, _⟩ := F6.dp
        rw [z, hp6] at L26
        cases L26
      have k7 : H7 k = some (.dT (enc cK fk)) := s67 _ _ k6
      refine for_list (K := K) (a := L2) (xs := ys.map fun x => V.ref x.1) (fun i σ H' => (∃ u x y : Option V, σ = [some (.ref p), some (.ref a), some kv, some (.int n), u, some (.ref k), x, y]) ∧ KeepF p o H7 H' ∧ FontAt C H' p o (stK fk (stA fa n fa.length) i) [])
        ⟨⟨_, _, _, rfl⟩, KeepF.refl, F7⟩ (fun i σ H' _ ⟨_, kf, _⟩ => SqL.of (F7.keepL kf LL2 LP2)) ?_ ?_
      · rintro i x σ H' hx ⟨⟨u, x', y', rfl⟩, kf, F'⟩
        rw [List.getElem?_map, Option.map_eq_some_iff] at hx
        obtain ⟨y, hy, rfl⟩ := hx
        have hym : y ∈ ys := List.mem_of_getElem? hy
        have hky : (keysK fk)[i]? = some y.2 := by
          unfold keysK
          rw [← hss, List.getElem?_map, hy]
          rfl
        obtain ⟨c2, c3, vx, vy, hx1, hy1, n1, n2, hlen⟩ := FC.sk i y.2 hky
        have hgm : y.2 ∈ fk.map (·.1) := by rw [← e2']; exact List.mem_map.mpr ⟨y, hyx y hym, rfl⟩
        obtain ⟨m, hm⟩ := lget_of_mem hgm
        have em : kernOf fk y.2 = m := by
          unfold kernOf
          rw [hm]
          rfl
        rw [em] at c2 c3 n1 n2 hlen
        have hst : stK fk (stA fa n fa.length) (i + 1) = setK (stK fk (stA fa n fa.length) i) y.2 (kx m) := by
          unfold stK
          rw [foldl_take _ _ hky, em]
        have hy7 : H7 y.1 = some (.tup [.str y.2.1, .str y.2.2]) := s67 _ _ (e3' y (hyx y hym))
        have hyt : H' y.1 = some (.tup [.str y.2.1, .str y.2.2]) := F7.keepT kf hy7
        refine ⟨y.1, _, rfl, SqT.of hyt, rfl, _, _, rfl, _, _, rfl, rfl, ?_⟩
        refine ⟨_, rfl, p, _, _, rfl, F'.ob, fflds_no _ _ (by decide +kernel) (by decide +kernel) (by decide +kernel) (by decide +kernel), _, rfl, _, rfl, _, rfl, _, rfl, _, rfl, by show 2 ≤ sizeLine; decide, fun z hz => ?_⟩
        have kz : KeepF p o H' (upd H' z (.tup [.str y.2.1, .str y.2.2])) := KeepF.same (same_upd hz)
        have Fz := F'.sm (same_upd (o := .tup [.str y.2.1, .str y.2.2]) hz)
        have kk7 : upd H' z (.tup [.str y.2.1, .str y.2.2]) k = some (.dT (enc cK fk)) := kz _ _ (kf _ _ k7 kp kA kN kP) kp kA kN kP
        refine ⟨k, .int m, rfl, ?_, ?_⟩
        · have e : valV (enc cK fk) (cK y.2) = some (.int m) := by
            rw [enc_get cK_inj fk y.2, hm]
            rfl
          rw [← e]
          exact DGet.t (k := cK y.2) kk7 upd_same
        · refine ⟨p, .str y.2.1, .str y.2.2, .int m, true, true, true, false, o, stK fk (stA fa n fa.length) i, [], rfl, Fz, Ks.str, IsS.str, Ks.str, IsS.str, Kd.int, fun _ => ⟨m, rfl⟩, fun h => (by cases h), fun hn => ?_, fun _ hn => ?_, fun _ _ hn => absurd ⟨m, rfl, c2, c3⟩ hn, ?_⟩
          · rw [show knownV (stK fk (stA fa n fa.length) i) (.str y.2.1) = true from by show (lget _ y.2.1).isSome = true; rw [hx1]; rfl] at hn
            cases hn
          · rw [show knownV (stK fk (stA fa n fa.length) i) (.str y.2.2) = true from by show (lget _ y.2.2).isSome = true; rw [hy1]; rfl] at hn
            cases hn
          · rintro l' r' m' vx' vy' el er em' _ _ hx' hy'
            cases el
            cases er
            cases em'
            rw [hx1] at hx'
            rw [hy1] at hy'
            cases hx'
            cases hy'
            refine ⟨fun hb => (by omega), fun _ _ => ⟨hlen, fun H8 q8 hq8 kf8 F8 _ => ⟨⟨_, _, _, rfl⟩, (kf.trans kz).trans kf8, ?_⟩⟩⟩
            rw [hst]
            exact F8
      · rintro σ H8 ⟨_, kf8, F8⟩
        have hkl2 : ys.length = fk.length := by
          have := congrArg List.length e2'
          rw [List.length_map, List.length_map] at this
          rw [← hys, List.length_mergeSort, this]
        rw [List.length_map, hkl2] at F8
        refine kQ H8 o (by rw [eo]) (fun c u e hc => ?_) (by rw [oA]; exact hA) (by rw [oN]; exact HN) (by rw [oP]; exact HP) F8
        obtain ⟨cA', cN', cP'⟩ := keepH c u e hc
        exact kf8 _ _ (s67 _ _ (st6 _ _ e hc)) hc cA' cN' cP'
end
section
variable {X : Cx} {C : Addr} {bmB : List Value} {B newId initId : String}
/-- X() -/
theorem pmk_own0 {x : Str} {p pos : Pos} (F : ExcBaseFacts B newId initId bmB) (q : PySem.W.excIn X.K C bmB newId = true) (gC : X.mg x = some (.ref C)) (kC : PySem.W.keepIn X.K (.ref C) = true) (r : Raises X (.ref C)) (hg : Gl X x)
    (hdb : (x == ("__debug__" : Str)) = false := by decide) : PMk X (.Call (.Name x p) [] [] pos) (fun _ H Q => Q (.ref C) none H) := by
  intro pins s σ H Q I h
  refine wpAny_Call_Name_kw (ld_glob I hg gC ?_ hdb)
  refine PySem.W.callWith_K0 I.kIn kC ?_
  show wpAny _ _ (call (.ref C) []) _ _ _
  obtain ⟨bm, N, nm, qn, bs, hdct, sn, sub, ab, col, dd, k0, k1, k2, k3, k5, mN, hC, hN, hni, T⟩ := exc_obj I.kIn q
  refine wpAny_call_exc_subT F T hC hN hni (fun h' e hm => ?_) (by show 0 ≤ sizeLine; omega)
  exact mk_of I hm r h (I.hok.gone hm.new)
end
def bmVE : List Value := [.type "ValueError", .type "Exception", .type "BaseException", .type "object"]
/-- an own error without a field -/
structure Err0 (K : PySem.W.Frag) (mg : Str → Option Value) (x : Str) (C : Addr) : Prop where
  g : mg x = some (.ref C)
  xP : PySem.W.excIn K C bmVE "ValueError.__new__" = true
  exC : PySem.W.subIn K (.ref C) (.type "BaseException") = some true
  tyC : PySem.W.typeIn K (.ref C) = some (.type "type")
  kC : PySem.W.keepIn K (.ref C) = true
/-! ### _law_plain -/
/-- isinstance(e, c), e the caught error without fields -/
def rIsN (K : PySem.W.Frag) (a : Addr) (cls : Value) (d : Option Addr) : List V → Hp → VK → Prop := fun xs H Q => ∃ (c : V) (cv : Value) (b : Bool) (D : Addr), xs = [.ref a, c] ∧ cls = .ref D ∧ d = none ∧ ExcC K D ∧ ClsV c cv ∧ PySem.W.kitOne K (.ref D) cv = some b ∧ Q (.bl b) H
theorem call_isN {X : Cx} {a : Addr} {cls : Value} {d : Option Addr} {oe : Obj} {pn : List (Addr × Obj)} (hz : Zc cls d oe) (hf : ∃ vs, oe.data = .fields vs) : CallR (X.suite a ((a, oe) :: pn)) (.builtin "isinstance") (rIsN X.K a cls d) := by
  intro pins s σ H xs us Q I r h
  obtain ⟨c, cv, b, D, rfl, rfl, rfl, C, hcv, e, q⟩ := h
  exact call_isE C hz hf pins s σ H _ us Q I r ⟨c, cv, b, rfl, fun u h => hcv.eq h, e, q⟩
/-- in a suite, the reading without the suite -/
theorem op_notInS {X : Cx} {a : Addr} {q : List (Addr × Obj)} : OpR (X.suite a q) (compareOp .NotIn) (rIn X.K true) := op_notIn_seq
theorem op_eqDS {X : Cx} {a : Addr} {q : List (Addr × Obj)} (hu : X.A.units + 64 < cLine) : OpR (X.suite a q) (compareOp .Eq) (rEqD X.K) := op_eqD (X := X.suite a q) hu
theorem pe_appendS {X : Cx} {a : Addr} {q : List (Addr × Obj)} {o e : Expr} {to te : TE} {apos cpos : Pos} (ho : PE (X.suite a q) o to) (he : PE (X.suite a q) e te) (hs : starEach [e] X.env = (false, eval e X.env) :: starEach [] X.env := by rfl)
    (hbase : attributeBase o "append" X.env (eval o X.env) = eval o X.env := by rfl)
    (hfew : ((backTo cpos (starEach [e] X.env)).all (fun x => !x.1) && (backToKw cpos (keywordEach [] X.env)).all (fun x => x.1.isSome)
      && decide (([e]).length + ([] : List Keyword).length + (if ([] : List Keyword).isEmpty then 0 else 1) < 30)) = true := by rfl) (hline : (apos.endLine == cpos.line) = true := by rfl) :
    PE (X.suite a q) (.Call (.Attribute o "append" apos) [e] [] cpos) (tBM X.K "list" rAppend to (tCons te tNil)) :=
  pe_bm PySem.F.plainAttrs_list PySem.F.slot_list_append PySem.F.type_list_append mt_append ho (pa_cons he pa_nil hs) hbase hfew hline hs
section
variable {X : Cx} {CX : CXT} {k : Nat} {f C : Addr} {fd : FuncData} {ps : List Str} {sp : Sp} {E : L2.St → XK} {m : Str} {pos apos : Pos} {o : Expr} {ta : TE}
/-- o.m(), wished for at the caller's slots -/
def tMethS0 (C : Addr) (m : Str) (sp : Sp) (E : L2.St → XK) (ta : TE) : TE := fun σ H Q => ta σ H fun x H1 => ∃ a dx fs, x = .ref a ∧ H1 a = some (.ins C dx fs) ∧ fs.lookup m = none ∧ sp [x] H1 Q (E σ)
theorem pe_methS0 {pl : Sem Bool} (he : PE X o ta) (c : Cls X.K C) (hm : Meth X.K C m f) (F : FnOk X.prog X.w X.K X.mg X.base CX k f fd ps sp) (hr : Room k X.A) (hb : Binds X.K fd ps []) (hx : ∀ σ, PassesAt CX X σ (E σ))
    (ht : eval (.Call (.Attribute o m apos) [] [] pos) X.env = (do
      let ov ← eval o X.env
      standAt apos.atName
      let (f, first) ← holding [ov] (getMethod ov m pl)
      callWith pos f first (backTo pos (starEach [] X.env)) (backToKw pos (keywordEach [] X.env))) := by rfl) :
    PE X (.Call (.Attribute o m apos) [] [] pos) (tMethS0 C m sp E ta) := by
  refine ⟨fun pins s σ H Q I h => ?_⟩
  refine PySem.W.methodCall_KW (pl := pl) (thn (he.run pins s σ H _ I h) fun u s1 ⟨x, H1, I1, rx, a, dx, fs, ex, ea, l, q⟩ => ?_) ht
  subst ex
  obtain rfl : u = Value.ref a := rx
  refine getmeth_ok I1 ea c hm l ?_
  exact PySem.W.callWith_K0 (first := [.ref a]) I1.kIn hm.kp (run_fnS (us := [.ref a]) (vs := [.ref a]) F hr hb (hx σ) I1 (.cons rfl .nil) q)
end
def st0 : FSt := ⟨[], [], 250⟩
theorem face0 : Face [] [] 250 := ⟨by decide, by decide, by decide, by decide, fun e h => (by cases h), fun i g h => (by simp [keysA] at h), fun i g h => (by simp [keysK] at h)⟩
theorem end0 : endSt [] [] 250 = st0 := by simp [endSt, stK, stA, keysA, keysK, st0]
/-- undo of a font without changes -/
def spUndo0 (C CN : Addr) : Sp := fun vs H _ E => ∃ (p : Addr) (o : Own) (st : FSt), vs = [.ref p] ∧ FontAt C H p o st [] ∧ E (.ref CN) none H
section
variable {P : Program} {w : World} {K : PySem.W.Frag} {mg : Str → Option Value} {base : Heap} {C CI fE fW fBt fWr CN : Addr}
abbrev sUndo : Stmt := inClass (top 29) 28
theorem scUndo : FnScope ["self"] ["self"] (defScope sUndo) := ⟨rfl, rfl, rfl, by decide +kernel, rfl, by decide +kernel, by decide +kernel⟩
theorem ok_undo0 {f : Addr} {fd : FuncData} (F : Fun K "undo" "Font.undo" sUndo f fd) (T : TxF K mg C CI fE fW fBt fWr) (N0 : Err0 K mg "NothingToUndo" CN) : FnOk P w K mg base (L2.CX P w) 3 f fd ["self"] (spUndo0 C CN) := by
  refine F.okX scUndo (fun vs H Q E h => by obtain ⟨p, o, st, rfl, _⟩ := h; rfl) (fun cdv A outer s H vs Q E hr h => ?_)
  obtain ⟨p, o, st, rfl, FA, kE⟩ := h
  obtain ⟨ls, hp, hP, hP2⟩ := FA.dp
  refine ⟨_, pss_cons (ps_if (pt_cmpR op_eq (pe_callB call_len_seq (by rfl) T.len PySem.boot_len (pa_cons (pe_fld (pv 0) rfl) pa_nil)) pe_int (nomark _))
      (pss_one (ps_raise rfl (takes_of rfl rfl rfl rfl) (pmk_own0 PySem.F.excBase_ValueError N0.xP N0.g N0.kC (raises_own N0.exC N0.tyC) (by rfl)))) pss_nil) pss_no, ?_⟩
  refine ⟨_, rfl, p, C, _, _, _, rfl, FA.ob, T.cl, T.nP, fflds_past _ _, o.dP, _, rfl, .inl (SqL.of hp), rfl, _, rfl, ?_⟩
  rw [dec_int]
  cases hP
  exact iteT kE
/-- a font without glyphs -/
def Empty (C : Addr) (H : Hp) (p : Addr) : Prop := ∃ o : Own, FontAt C H p o st0 []
theorem Empty.sm {C : Addr} {H H' : Hp} {p : Addr} (s : Same H H') : Empty C H p → Empty C H' p := fun ⟨o, h⟩ => ⟨o, h.sm s⟩
theorem made_fresh {H : Hp} {j dj : Addr} {o : HO} (hj : H j = none) (_ : H dj = none) (ne : dj ≠ j) : (upd H dj o) j = none := (upd_ne (Ne.symm ne)).trans hj
/-- Font({}) -/
theorem mk_font0 {C x dx d : Addr} {H : Hp} {R : Hp → Prop} (hd : H d = none) (hx : (upd H d (.dK [])) x = none) (hdx : (upd H d (.dK [])) dx = none) (ne : dx ≠ x) (k : ∀ H', Same H H' → Empty C H' x → R H') :
    spFont C (.ref x :: ([.ref d] ++ [.non, .int 250])) (upd (upd (upd H d (.dK [])) dx (.own x)) x (.ins C dx [])) (fun v H2 => v = .non ∧ R H2) E0 := by
  have e0 : (upd H d (.dK [])) d = some (.dK []) := upd_same
  refine ⟨x, dx, d, .non, [], [], 250, rfl, upd_same, ?_, .inr ⟨rfl, rfl⟩, face0, fun H' o ho keep hA hN hP FA => ⟨rfl, ?_⟩⟩
  · rw [upd_ne (ne_of_none e0 hx), upd_ne (ne_of_none e0 hdx)]
    exact e0
  · rw [end0] at FA
    refine k H' (fun a u e => ?_) ⟨o, FA⟩
    have e1 : (upd H d (.dK [])) a = some u := (upd_ne (ne_of_none e hd)).trans e
    refine keep a u ?_ (ne_of_none e1 hx)
    rw [upd_ne (ne_of_none e1 hx), upd_ne (ne_of_none e1 hdx)]
    exact e1
/-- a joined reader of two fonts without glyphs; what raises of it -/
def spJoin0 (C CJ : Addr) (JE : Hp → Addr → Prop) : Sp := fun vs H Q _ => ∃ p dx a b : Addr, vs = [.ref p, .ref a, .ref b] ∧ H p = some (.ins CJ dx []) ∧ Empty C H a ∧ Empty C H b ∧ ∀ H', JE H' p → Q .non H'
def spWorst0 (CN : Addr) (JE : Hp → Addr → Prop) : Sp := fun vs H _ E => ∃ p : Addr, vs = [.ref p] ∧ JE H p ∧ ∀ H', E (.ref CN) none H'
abbrev sPlain : Stmt := top 70
theorem scPlain : FnScope ["_law_way", "_law_e", "_law_plain_here", "_law_others"] ["_law_way"] (defScope sPlain) := ⟨rfl, rfl, rfl, by decide +kernel, rfl, by decide +kernel, by decide +kernel⟩
theorem ok_plain {LV lj lw : Nat} {f fU fQ fJ fWR CJ C0 C1 C2 C3 C4 C5 C6 C7 C8 C9 C10 C11 C12 C13 C14 C15 C16 C17 C18 : Addr} {fd fdU fdQ fdJ fdWR : FuncData} {dsQ : List Value} {JE : Hp → Addr → Prop} (F : Fun K "_law_plain" "_law_plain" sPlain f fd) (mIs : mg "isinstance" = none) (mVE : mg "ValueError" = none)
    (cl : Cls K C) (mU : Meth K C "undo" fU) (GU : FnOk P w K mg base (L2.CX P w) 3 fU fdU ["self"] (spUndo0 C C16)) (bU : Binds K fdU ["self"] [])
    (MQ : Mk K C fQ) (mgF : mg "Font" = some (.ref C)) (GQ : FnOk P w K mg base (L2.CX P w) 7 fQ fdQ ["self", "advances", "kerns", "blank"] (spFont C)) (bQ : Binds K fdQ ["self", "advances", "kerns", "blank"] dsQ) (vQ : Vals [V.non, .int 250] dsQ)
    (MJ : Mk K CJ fJ) (mgJ : mg "Joined" = some (.ref CJ)) (GJ : FnOk P w K mg base CX0 lj fJ fdJ ["self", "first", "second"] (spJoin0 C CJ JE)) (bJ : Binds K fdJ ["self", "first", "second"] [])
    (aWR : At K mg "worst_rate" fWR) (GWR : FnOk P w K mg base (L2.CX P w) lw fWR fdWR ["joined"] (spWorst0 C17 JE)) (bWR : Binds K fdWR ["joined"] []) (hLV : 8 ≤ LV ∧ lj + 1 ≤ LV ∧ lw ≤ LV)
    (g0 : mg "InvalidGlyph" = some (.ref C0)) (g1 : mg "InvalidNumber" = some (.ref C1)) (g2 : mg "UnknownGlyph" = some (.ref C2)) (g3 : mg "TooMany" = some (.ref C3)) (g4 : mg "Overlap" = some (.ref C4)) (g5 : mg "InUse" = some (.ref C5)) (g6 : mg "DeedRefused" = some (.ref C6)) (g7 : mg "InvalidLine" = some (.ref C7)) (g8 : mg "UnknownLetter" = some (.ref C8)) (g9 : mg "InvalidState" = some (.ref C9)) (g10 : mg "InvalidText" = some (.ref C10)) (g11 : mg "Contradiction" = some (.ref C11)) (g12 : mg "NameTaken" = some (.ref C12)) (g13 : mg "UnknownName" = some (.ref C13)) (g14 : mg "UnknownKind" = some (.ref C14)) (g15 : mg "InvalidOptions" = some (.ref C15)) (g16 : mg "NothingToUndo" = some (.ref C16)) (g17 : mg "NoCommonLetters" = some (.ref C17)) (g18 : mg "FontError" = some (.ref C18))
    (x16 : ExcC K C16) (m16 : (cls19 C0 C1 C2 C3 C4 C5 C6 C7 C8 C9 C10 C11 C12 C13 C14 C15 C16 C17 C18).map (PySem.W.kitOne K (.ref C16)) = ([false, false, false, false, false, false, false, false, false, false, false, false, false, false, false, false, true, false, true] : List Bool).map some) (v16 : PySem.W.kitOne K (.ref C16) (.type "ValueError") = some true) (s16 : PySem.W.exmOne K (.ref C16) (.ref C18) = some true)
    (x17 : ExcC K C17) (m17 : (cls19 C0 C1 C2 C3 C4 C5 C6 C7 C8 C9 C10 C11 C12 C13 C14 C15 C16 C17 C18).map (PySem.W.kitOne K (.ref C17)) = ([false, false, false, false, false, false, false, false, false, false, false, false, false, false, false, false, false, true, true] : List Bool).map some) (v17 : PySem.W.kitOne K (.ref C17) (.type "ValueError") = some true) (s17 : PySem.W.exmOne K (.ref C17) (.ref C18) = some true)
    : FnOk P w K mg base CX0 (LV + 1) f fd ["_law_way"] spPlain := by
  refine F.ok scPlain (fun vs H Q E h => by obtain ⟨way, rfl, _⟩ := h; rfl) (fun cdv A outer s H vs Q E hr h => ?_)
  obtain ⟨way, rfl, w0, w1, k⟩ := h
  have nd := scPlain.nd
  have hrQ : Room 8 _ := hr.mono (j := 8) (by omega)
  have hr3 : Room 3 _ := hr.mono (j := 3) (by omega)
  have hrJ : Room (lj + 1) _ := hr.mono (j := lj + 1) (by omega)
  have hrW : Room lw _ := hr.mono (j := lw) (by omega)
  refine ⟨_, pss_cons (ps_try_manyA rfl rfl nd (fun W pn xe tk _ => pss_cons (ps_if (pt_cmpR op_eq (pv 0) pe_int (nomark _)) (pss_one (ps_expr (pe_methS0 (pe_make MQ GQ hrQ (by rfl) mgF bQ vQ passL (pa_cons pe_dnewK pa_nil)) cl mU GU hr3 bU (fun σ => passAt tk σ)))) pss_nil) (pss_one (ps_if (pt_cmpR op_eq (pv 0) pe_int (nomark _)) (pss_one (ps_expr (pe_callS GWR hrW (by rfl) aWR.g aWR.k bWR (fun σ => passAt tk σ) (pa_cons (pe_make MJ GJ hrJ (by rfl) mgJ bJ .nil pass0 (pa_cons (pe_make MQ GQ hrQ (by rfl) mgF bQ vQ passL (pa_cons pe_dnewK pa_nil)) (pa_cons (pe_make MQ GQ hrQ (by rfl) mgF bQ vQ passL (pa_cons pe_dnewK pa_nil)) pa_nil))) pa_nil)))) pss_nil))) (.cons (i := 1) ⟨rfl, by decide, Or.inl g18⟩ rfl rfl (fun a oe cls d pn hz hf => by exact (pss_cons (ps_set (i := 2) nd rfl (Or.inl rfl) (pe_lst (pa_cons (pe_callB (call_isN hz hf) (by rfl) mIs (by decide +kernel) (pa_cons (pv 1) (pa_cons (pe_glob (v := .ref C16) (by rfl) g16 rfl) pa_nil))) (pa_cons (pe_callB (call_isN hz hf) (by rfl) mIs (by decide +kernel) (pa_cons (pv 1) (pa_cons (pe_glob (v := .ref C17) (by rfl) g17 rfl) pa_nil))) pa_nil)))) (pss_cons (ps_set (i := 3) nd rfl (Or.inl rfl) (pe_lst (pa_cons (pe_callB (call_isN hz hf) (by rfl) mIs (by decide +kernel) (pa_cons (pv 1) (pa_cons (pe_glob (v := .ref C0) (by rfl) g0 rfl) pa_nil))) (pa_cons (pe_callB (call_isN hz hf) (by rfl) mIs (by decide +kernel) (pa_cons (pv 1) (pa_cons (pe_glob (v := .ref C1) (by rfl) g1 rfl) pa_nil))) (pa_cons (pe_callB (call_isN hz hf) (by rfl) mIs (by decide +kernel) (pa_cons (pv 1) (pa_cons (pe_glob (v := .ref C2) (by rfl) g2 rfl) pa_nil))) pa_nil))))) (pss_cons (ps_set (i := 3) nd rfl (Or.inl rfl) (pe_op op_cat (pv 3) (pe_lst (pa_cons (pe_callB (call_isN hz hf) (by rfl) mIs (by decide +kernel) (pa_cons (pv 1) (pa_cons (pe_glob (v := .ref C3) (by rfl) g3 rfl) pa_nil))) (pa_cons (pe_callB (call_isN hz hf) (by rfl) mIs (by decide +kernel) (pa_cons (pv 1) (pa_cons (pe_glob (v := .ref C4) (by rfl) g4 rfl) pa_nil))) (pa_cons (pe_callB (call_isN hz hf) (by rfl) mIs (by decide +kernel) (pa_cons (pv 1) (pa_cons (pe_glob (v := .ref C5) (by rfl) g5 rfl) pa_nil))) pa_nil)))))) (pss_cons (ps_expr (pe_appendS (pv 3) (pe_callB (call_isN hz hf) (by rfl) mIs (by decide +kernel) (pa_cons (pv 1) (pa_cons (pe_glob (v := .ref C6) (by rfl) g6 rfl) pa_nil))))) (pss_cons (ps_set (i := 3) nd rfl (Or.inl rfl) (pe_op op_cat (pv 3) (pe_lst (pa_cons (pe_callB (call_isN hz hf) (by rfl) mIs (by decide +kernel) (pa_cons (pv 1) (pa_cons (pe_glob (v := .ref C7) (by rfl) g7 rfl) pa_nil))) (pa_cons (pe_callB (call_isN hz hf) (by rfl) mIs (by decide +kernel) (pa_cons (pv 1) (pa_cons (pe_glob (v := .ref C8) (by rfl) g8 rfl) pa_nil))) (pa_cons (pe_callB (call_isN hz hf) (by rfl) mIs (by decide +kernel) (pa_cons (pv 1) (pa_cons (pe_glob (v := .ref C9) (by rfl) g9 rfl) pa_nil))) pa_nil)))))) (pss_cons (ps_set (i := 3) nd rfl (Or.inl rfl) (pe_op op_cat (pv 3) (pe_lst (pa_cons (pe_callB (call_isN hz hf) (by rfl) mIs (by decide +kernel) (pa_cons (pv 1) (pa_cons (pe_glob (v := .ref C10) (by rfl) g10 rfl) pa_nil))) (pa_cons (pe_callB (call_isN hz hf) (by rfl) mIs (by decide +kernel) (pa_cons (pv 1) (pa_cons (pe_glob (v := .ref C11) (by rfl) g11 rfl) pa_nil))) (pa_cons (pe_callB (call_isN hz hf) (by rfl) mIs (by decide +kernel) (pa_cons (pv 1) (pa_cons (pe_glob (v := .ref C12) (by rfl) g12 rfl) pa_nil))) pa_nil)))))) (pss_cons (ps_set (i := 3) nd rfl (Or.inl rfl) (pe_op op_cat (pv 3) (pe_lst (pa_cons (pe_callB (call_isN hz hf) (by rfl) mIs (by decide +kernel) (pa_cons (pv 1) (pa_cons (pe_glob (v := .ref C13) (by rfl) g13 rfl) pa_nil))) (pa_cons (pe_callB (call_isN hz hf) (by rfl) mIs (by decide +kernel) (pa_cons (pv 1) (pa_cons (pe_glob (v := .ref C14) (by rfl) g14 rfl) pa_nil))) (pa_cons (pe_callB (call_isN hz hf) (by rfl) mIs (by decide +kernel) (pa_cons (pv 1) (pa_cons (pe_glob (v := .ref C15) (by rfl) g15 rfl) pa_nil))) pa_nil)))))) (pss_one (ps_ret (pe_and (pe_cmpR (op_eqDS hr.units) (pv 2) (pe_lst (pa_cons (pe_cmpR op_eq (pv 0) pe_int (nomark _)) (pa_cons (pe_cmpR op_eq (pv 0) pe_int (nomark _)) pa_nil))) (nomark _)) (pe_and (pe_callB (call_isN hz hf) (by rfl) mIs (by decide +kernel) (pa_cons (pv 1) (pa_cons (pe_bltn (v := .ty "ValueError") (by rfl) mVE (by decide +kernel) rfl) pa_nil))) (pe_one (pe_cmpR op_notInS pe_bl (pv 3) (by rfl))))))))))))))) .nil)) (pss_one (ps_ret pe_bl)), ?_⟩
  rcases (show way = 0 ∨ way = 1 by omega) with rfl | rfl
  · refine ⟨_, rfl, rfl, _, rfl, ?_⟩
    rw [dec_int]
    refine iteT fun d hd x dx hx hdx ne => mk_font0 hd hx hdx ne fun H1 s1 em => ?_
    obtain ⟨o, FA⟩ := em
    refine ⟨x, o.dx, _, rfl, FA.ob, fflds_no _ _ (by decide +kernel) (by decide +kernel) (by decide +kernel) (by decide +kernel), x, o, st0, rfl, FA, ?_⟩
    refine ⟨true, s16, fun _ a ha => ?_, fun q => Bool.noConfusion q⟩
    refine ⟨_, rfl, .ref C16, .ref C16, true, C16, rfl, rfl, rfl, x16, .own C16, bs19 m16 (i := 16) rfl rfl, ⟨_, rfl, .ref C17, .ref C17, false, C16, rfl, rfl, rfl, x16, .own C17, bs19 m16 (i := 17) rfl rfl, ⟨by show 2 ≤ sizeLine; rw [sizeLine_eq]; decide, fun p0 h0 => ?_⟩⟩⟩
    refine ⟨_, rfl, .ref C0, .ref C0, false, C16, rfl, rfl, rfl, x16, .own C0, bs19 m16 (i := 0) rfl rfl, ⟨_, rfl, .ref C1, .ref C1, false, C16, rfl, rfl, rfl, x16, .own C1, bs19 m16 (i := 1) rfl rfl, ⟨_, rfl, .ref C2, .ref C2, false, C16, rfl, rfl, rfl, x16, .own C2, bs19 m16 (i := 2) rfl rfl, ⟨by show 3 ≤ sizeLine; rw [sizeLine_eq]; decide, fun q0 g0 => ?_⟩⟩⟩⟩
    have P0 := same_upd (o := HO.lst [V.bl false, V.bl false, V.bl false]) g0 _ _ (upd_same (H := H1) (a := p0) (o := HO.lst [V.bl true, V.bl false]))
    refine ⟨_, rfl, ?_⟩
    refine ⟨_, rfl, .ref C3, .ref C3, false, C16, rfl, rfl, rfl, x16, .own C3, bs19 m16 (i := 3) rfl rfl, ⟨_, rfl, .ref C4, .ref C4, false, C16, rfl, rfl, rfl, x16, .own C4, bs19 m16 (i := 4) rfl rfl, ⟨_, rfl, .ref C5, .ref C5, false, C16, rfl, rfl, rfl, x16, .own C5, bs19 m16 (i := 5) rfl rfl, ⟨by show 3 ≤ sizeLine; rw [sizeLine_eq]; decide, fun r1 u1 => ?_⟩⟩⟩⟩
    have Q1 := same_upd (o := HO.lst [V.bl false, V.bl false, V.bl false]) u1 _ _ P0
    refine ⟨q0, r1, [V.bl false, V.bl false, V.bl false], _, rfl, rfl, same_upd u1 _ _ upd_same, upd_same, (by show 3 + 3 ≤ sizeLine; rw [sizeLine_eq]; decide), fun q1 g1 => ?_⟩
    have P1 := same_upd (o := HO.lst ([V.bl false, V.bl false, V.bl false] ++ [V.bl false, V.bl false, V.bl false])) g1 _ _ Q1
    refine ⟨_, rfl, .inl ⟨rfl, _, SqL.of upd_same⟩, ⟨_, rfl, .ref C6, .ref C6, false, C16, rfl, rfl, rfl, x16, .own C6, bs19 m16 (i := 6) rfl rfl, q1, [V.bl false, V.bl false, V.bl false, V.bl false, V.bl false, V.bl false], _, rfl, rfl, upd_same, (by show 6 < sizeLine; rw [sizeLine_eq]; decide), ?_⟩⟩
    have nz : p0 ≠ q1 := ne_of_none Q1 g1
    have PA := (upd_ne (o := HO.lst [V.bl false, V.bl false, V.bl false, V.bl false, V.bl false, V.bl false, V.bl false]) nz).trans P1
    refine ⟨_, rfl, ?_⟩
    refine ⟨_, rfl, .ref C7, .ref C7, false, C16, rfl, rfl, rfl, x16, .own C7, bs19 m16 (i := 7) rfl rfl, ⟨_, rfl, .ref C8, .ref C8, false, C16, rfl, rfl, rfl, x16, .own C8, bs19 m16 (i := 8) rfl rfl, ⟨_, rfl, .ref C9, .ref C9, false, C16, rfl, rfl, rfl, x16, .own C9, bs19 m16 (i := 9) rfl rfl, ⟨by show 3 ≤ sizeLine; rw [sizeLine_eq]; decide, fun r2 u2 => ?_⟩⟩⟩⟩
    have Q2 := same_upd (o := HO.lst [V.bl false, V.bl false, V.bl false]) u2 _ _ PA
    refine ⟨q1, r2, [V.bl false, V.bl false, V.bl false, V.bl false, V.bl false, V.bl false, V.bl false], _, rfl, rfl, same_upd u2 _ _ upd_same, upd_same, (by show 7 + 3 ≤ sizeLine; rw [sizeLine_eq]; decide), fun q2 g2 => ?_⟩
    have P2 := same_upd (o := HO.lst ([V.bl false, V.bl false, V.bl false, V.bl false, V.bl false, V.bl false, V.bl false] ++ [V.bl false, V.bl false, V.bl false])) g2 _ _ Q2
    refine ⟨_, rfl, ?_⟩
    refine ⟨_, rfl, .ref C10, .ref C10, false, C16, rfl, rfl, rfl, x16, .own C10, bs19 m16 (i := 10) rfl rfl, ⟨_, rfl, .ref C11, .ref C11, false, C16, rfl, rfl, rfl, x16, .own C11, bs19 m16 (i := 11) rfl rfl, ⟨_, rfl, .ref C12, .ref C12, false, C16, rfl, rfl, rfl, x16, .own C12, bs19 m16 (i := 12) rfl rfl, ⟨by show 3 ≤ sizeLine; rw [sizeLine_eq]; decide, fun r3 u3 => ?_⟩⟩⟩⟩
    have Q3 := same_upd (o := HO.lst [V.bl false, V.bl false, V.bl false]) u3 _ _ P2
    refine ⟨q2, r3, [V.bl false, V.bl false, V.bl false, V.bl false, V.bl false, V.bl false, V.bl false, V.bl false, V.bl false, V.bl false], _, rfl, rfl, same_upd u3 _ _ upd_same, upd_same, (by show 10 + 3 ≤ sizeLine; rw [sizeLine_eq]; decide), fun q3 g3 => ?_⟩
    have P3 := same_upd (o := HO.lst ([V.bl false, V.bl false, V.bl false, V.bl false, V.bl false, V.bl false, V.bl false, V.bl false, V.bl false, V.bl false] ++ [V.bl false, V.bl false, V.bl false])) g3 _ _ Q3
    refine ⟨_, rfl, ?_⟩
    refine ⟨_, rfl, .ref C13, .ref C13, false, C16, rfl, rfl, rfl, x16, .own C13, bs19 m16 (i := 13) rfl rfl, ⟨_, rfl, .ref C14, .ref C14, false, C16, rfl, rfl, rfl, x16, .own C14, bs19 m16 (i := 14) rfl rfl, ⟨_, rfl, .ref C15, .ref C15, false, C16, rfl, rfl, rfl, x16, .own C15, bs19 m16 (i := 15) rfl rfl, ⟨by show 3 ≤ sizeLine; rw [sizeLine_eq]; decide, fun r4 u4 => ?_⟩⟩⟩⟩
    have Q4 := same_upd (o := HO.lst [V.bl false, V.bl false, V.bl false]) u4 _ _ P3
    refine ⟨q3, r4, [V.bl false, V.bl false, V.bl false, V.bl false, V.bl false, V.bl false, V.bl false, V.bl false, V.bl false, V.bl false, V.bl false, V.bl false, V.bl false], _, rfl, rfl, same_upd u4 _ _ upd_same, upd_same, (by show 13 + 3 ≤ sizeLine; rw [sizeLine_eq]; decide), fun q4 g4 => ?_⟩
    have P4 := same_upd (o := HO.lst ([V.bl false, V.bl false, V.bl false, V.bl false, V.bl false, V.bl false, V.bl false, V.bl false, V.bl false, V.bl false, V.bl false, V.bl false, V.bl false] ++ [V.bl false, V.bl false, V.bl false])) g4 _ _ Q4
    refine ⟨_, rfl, _, rfl, rfl, _, rfl, rfl, by show 2 ≤ sizeLine; rw [sizeLine_eq]; decide, fun e he => ?_⟩
    refine ⟨_, _, .lst (SqL.of (same_upd he _ _ P4)) (.cons (.bl _) (.cons (.bl _) .nil)), .lst (SqL.of upd_same) (.cons (.bl _) (.cons (.bl _) .nil)), rfl, rfl, true, by rfl, iteT ?_⟩
    refine ⟨_, rfl, .ty "ValueError", _, true, C16, rfl, rfl, rfl, x16, .ty "ValueError", v16, true, rfl, iteT ?_⟩
    exact ⟨_, rfl, q4, [V.bl false, V.bl false, V.bl false, V.bl false, V.bl false, V.bl false, V.bl false, V.bl false, V.bl false, V.bl false, V.bl false, V.bl false, V.bl false, V.bl false, V.bl false, V.bl false], rfl, .inl (SqL.of (same_upd he _ _ upd_same)), rfl, rfl, k _⟩
  · refine ⟨_, rfl, rfl, _, rfl, ?_⟩
    rw [dec_int]
    refine iteF ⟨_, rfl, rfl, _, rfl, ?_⟩
    rw [dec_int]
    refine iteT fun d hd x dx hx hdx ne => mk_font0 hd hx hdx ne fun H0 s0 em0 => ?_
    refine fun d2 hd2 y dy hy hdy ne2 => mk_font0 hd2 hy hdy ne2 fun H2 s2 em2 => ?_
    refine fun j dj hj hdj ne3 => ⟨j, dj, x, y, rfl, upd_same, (em0.sm s2).sm ((same_upd hdj).trans (same_upd (made_fresh hj hdj ne3))), em2.sm ((same_upd hdj).trans (same_upd (made_fresh hj hdj ne3))), fun H1 je => ⟨rfl, ?_⟩⟩
    refine ⟨j, rfl, je, fun H1 => ?_⟩
    refine ⟨true, s17, fun _ a ha => ?_, fun q => Bool.noConfusion q⟩
    refine ⟨_, rfl, .ref C16, .ref C16, false, C17, rfl, rfl, rfl, x17, .own C16, bs19 m17 (i := 16) rfl rfl, ⟨_, rfl, .ref C17, .ref C17, true, C17, rfl, rfl, rfl, x17, .own C17, bs19 m17 (i := 17) rfl rfl, ⟨by show 2 ≤ sizeLine; rw [sizeLine_eq]; decide, fun p0 h0 => ?_⟩⟩⟩
    refine ⟨_, rfl, .ref C0, .ref C0, false, C17, rfl, rfl, rfl, x17, .own C0, bs19 m17 (i := 0) rfl rfl, ⟨_, rfl, .ref C1, .ref C1, false, C17, rfl, rfl, rfl, x17, .own C1, bs19 m17 (i := 1) rfl rfl, ⟨_, rfl, .ref C2, .ref C2, false, C17, rfl, rfl, rfl, x17, .own C2, bs19 m17 (i := 2) rfl rfl, ⟨by show 3 ≤ sizeLine; rw [sizeLine_eq]; decide, fun q0 g0 => ?_⟩⟩⟩⟩
    have P0 := same_upd (o := HO.lst [V.bl false, V.bl false, V.bl false]) g0 _ _ (upd_same (H := H1) (a := p0) (o := HO.lst [V.bl false, V.bl true]))
    refine ⟨_, rfl, ?_⟩
    refine ⟨_, rfl, .ref C3, .ref C3, false, C17, rfl, rfl, rfl, x17, .own C3, bs19 m17 (i := 3) rfl rfl, ⟨_, rfl, .ref C4, .ref C4, false, C17, rfl, rfl, rfl, x17, .own C4, bs19 m17 (i := 4) rfl rfl, ⟨_, rfl, .ref C5, .ref C5, false, C17, rfl, rfl, rfl, x17, .own C5, bs19 m17 (i := 5) rfl rfl, ⟨by show 3 ≤ sizeLine; rw [sizeLine_eq]; decide, fun r1 u1 => ?_⟩⟩⟩⟩
    have Q1 := same_upd (o := HO.lst [V.bl false, V.bl false, V.bl false]) u1 _ _ P0
    refine ⟨q0, r1, [V.bl false, V.bl false, V.bl false], _, rfl, rfl, same_upd u1 _ _ upd_same, upd_same, (by show 3 + 3 ≤ sizeLine; rw [sizeLine_eq]; decide), fun q1 g1 => ?_⟩
    have P1 := same_upd (o := HO.lst ([V.bl false, V.bl false, V.bl false] ++ [V.bl false, V.bl false, V.bl false])) g1 _ _ Q1
    refine ⟨_, rfl, .inl ⟨rfl, _, SqL.of upd_same⟩, ⟨_, rfl, .ref C6, .ref C6, false, C17, rfl, rfl, rfl, x17, .own C6, bs19 m17 (i := 6) rfl rfl, q1, [V.bl false, V.bl false, V.bl false, V.bl false, V.bl false, V.bl false], _, rfl, rfl, upd_same, (by show 6 < sizeLine; rw [sizeLine_eq]; decide), ?_⟩⟩
    have nz : p0 ≠ q1 := ne_of_none Q1 g1
    have PA := (upd_ne (o := HO.lst [V.bl false, V.bl false, V.bl false, V.bl false, V.bl false, V.bl false, V.bl false]) nz).trans P1
    refine ⟨_, rfl, ?_⟩
    refine ⟨_, rfl, .ref C7, .ref C7, false, C17, rfl, rfl, rfl, x17, .own C7, bs19 m17 (i := 7) rfl rfl, ⟨_, rfl, .ref C8, .ref C8, false, C17, rfl, rfl, rfl, x17, .own C8, bs19 m17 (i := 8) rfl rfl, ⟨_, rfl, .ref C9, .ref C9, false, C17, rfl, rfl, rfl, x17, .own C9, bs19 m17 (i := 9) rfl rfl, ⟨by show 3 ≤ sizeLine; rw [sizeLine_eq]; decide, fun r2 u2 => ?_⟩⟩⟩⟩
    have Q2 := same_upd (o := HO.lst [V.bl false, V.bl false, V.bl false]) u2 _ _ PA
    refine ⟨q1, r2, [V.bl false, V.bl false, V.bl false, V.bl false, V.bl false, V.bl false, V.bl false], _, rfl, rfl, same_upd u2 _ _ upd_same, upd_same, (by show 7 + 3 ≤ sizeLine; rw [sizeLine_eq]; decide), fun q2 g2 => ?_⟩
    have P2 := same_upd (o := HO.lst ([V.bl false, V.bl false, V.bl false, V.bl false, V.bl false, V.bl false, V.bl false] ++ [V.bl false, V.bl false, V.bl false])) g2 _ _ Q2
    refine ⟨_, rfl, ?_⟩
    refine ⟨_, rfl, .ref C10, .ref C10, false, C17, rfl, rfl, rfl, x17, .own C10, bs19 m17 (i := 10) rfl rfl, ⟨_, rfl, .ref C11, .ref C11, false, C17, rfl, rfl, rfl, x17, .own C11, bs19 m17 (i := 11) rfl rfl, ⟨_, rfl, .ref C12, .ref C12, false, C17, rfl, rfl, rfl, x17, .own C12, bs19 m17 (i := 12) rfl rfl, ⟨by show 3 ≤ sizeLine; rw [sizeLine_eq]; decide, fun r3 u3 => ?_⟩⟩⟩⟩
    have Q3 := same_upd (o := HO.lst [V.bl false, V.bl false, V.bl false]) u3 _ _ P2
    refine ⟨q2, r3, [V.bl false, V.bl false, V.bl false, V.bl false, V.bl false, V.bl false, V.bl false, V.bl false, V.bl false, V.bl false], _, rfl, rfl, same_upd u3 _ _ upd_same, upd_same, (by show 10 + 3 ≤ sizeLine; rw [sizeLine_eq]; decide), fun q3 g3 => ?_⟩
    have P3 := same_upd (o := HO.lst ([V.bl false, V.bl false, V.bl false, V.bl false, V.bl false, V.bl false, V.bl false, V.bl false, V.bl false, V.bl false] ++ [V.bl false, V.bl false, V.bl false])) g3 _ _ Q3
    refine ⟨_, rfl, ?_⟩
    refine ⟨_, rfl, .ref C13, .ref C13, false, C17, rfl, rfl, rfl, x17, .own C13, bs19 m17 (i := 13) rfl rfl, ⟨_, rfl, .ref C14, .ref C14, false, C17, rfl, rfl, rfl, x17, .own C14, bs19 m17 (i := 14) rfl rfl, ⟨_, rfl, .ref C15, .ref C15, false, C17, rfl, rfl, rfl, x17, .own C15, bs19 m17 (i := 15) rfl rfl, ⟨by show 3 ≤ sizeLine; rw [sizeLine_eq]; decide, fun r4 u4 => ?_⟩⟩⟩⟩
    have Q4 := same_upd (o := HO.lst [V.bl false, V.bl false, V.bl false]) u4 _ _ P3
    refine ⟨q3, r4, [V.bl false, V.bl false, V.bl false, V.bl false, V.bl false, V.bl false, V.bl false, V.bl false, V.bl false, V.bl false, V.bl false, V.bl false, V.bl false], _, rfl, rfl, same_upd u4 _ _ upd_same, upd_same, (by show 13 + 3 ≤ sizeLine; rw [sizeLine_eq]; decide), fun q4 g4 => ?_⟩
    have P4 := same_upd (o := HO.lst ([V.bl false, V.bl false, V.bl false, V.bl false, V.bl false, V.bl false, V.bl false, V.bl false, V.bl false, V.bl false, V.bl false, V.bl false, V.bl false] ++ [V.bl false, V.bl false, V.bl false])) g4 _ _ Q4
    refine ⟨_, rfl, _, rfl, rfl, _, rfl, rfl, by show 2 ≤ sizeLine; rw [sizeLine_eq]; decide, fun e he => ?_⟩
    refine ⟨_, _, .lst (SqL.of (same_upd he _ _ P4)) (.cons (.bl _) (.cons (.bl _) .nil)), .lst (SqL.of upd_same) (.cons (.bl _) (.cons (.bl _) .nil)), rfl, rfl, true, by rfl, iteT ?_⟩
    refine ⟨_, rfl, .ty "ValueError", _, true, C17, rfl, rfl, rfl, x17, .ty "ValueError", v17, true, rfl, iteT ?_⟩
    exact ⟨_, rfl, q4, [V.bl false, V.bl false, V.bl false, V.bl false, V.bl false, V.bl false, V.bl false, V.bl false, V.bl false, V.bl false, V.bl false, V.bl false, V.bl false, V.bl false, V.bl false, V.bl false], rfl, .inl (SqL.of (same_upd he _ _ upd_same)), rfl, rfl, k _⟩
end
/-! ### fonts without glyphs: letters -/
theorem pts_no {X : Cx} {cs : List Expr} : PTs X cs (fun _ _ _ => False) := ⟨fun _ _ _ _ _ _ h => h.elim⟩
theorem pe_no {X : Cx} {e : Expr} : PE X e (fun _ _ _ => False) := ⟨fun _ _ _ _ _ _ h => h.elim⟩
theorem glyphs0 : glyphsOf st0 = [] := by simp [glyphsOf, st0]
/-- a comprehension over an empty list -/
theorem lc_none {K : PySem.W.Frag} {q : Addr} {g : TG} {tt : TT} {te : TE} {vs : List Nat} {σ : L2.St} {H1 : Hp} {D : Addr} {Qd : Hp → Prop} (hq : H1 q = some (.lst [])) (hD : H1 D = none) (k : Qd (upd H1 D (.lst []))) :
    ∃ W : Nat → Nat → Hp → Prop, (∃ m, W 0 m (upd H1 D (.lst []))) ∧ ∀ i m H, W i m H →
      ((Itl K q).stop i H ∧ Qd H) ∨ ((Itl K q).go i H ∧ ∃ Nx : Hp → Prop, (∀ H', Nx H' → ∃ m', m' < m ∧ W (i + 1) m' H') ∧ ∀ x H', (Itl K q).yld i H x H' → g x (wipe σ vs) H' fun σ2 H2 => wipe σ2 vs = wipe σ vs ∧ tt σ2 H2 fun b H3 =>
        if b = true then te σ2 H3 fun y H4 => ∃ acc, H4 D = some (.lst acc) ∧ acc.length < sizeLine ∧ Nx (upd H4 D (.lst (acc ++ [y]))) else Nx H3) := by
  have hDn : D ≠ q := fun z => by rw [z, hq] at hD; cases hD
  refine lc_list (K := K) (a := q) (xs := []) (fun _ H' => H' = upd H1 D (.lst [])) rfl (fun i H' _ e => by rw [e]; exact SqL.of ((upd_ne (Ne.symm hDn)).trans hq)) (fun i x H' hx => by simp at hx) (fun H' e => by rw [e]; exact k)
def spLett0 (C : Addr) : Sp := fun vs H Q _ => ∃ p : Addr, vs = [.ref p] ∧ Empty C H p ∧ ∀ H' D, Same H H' → H D = none → H' D = some (.lst []) → Q (.ref D) H'
section
variable {P : Program} {w : World} {K : PySem.W.Frag} {mg : Str → Option Value} {base : Heap} {C CI fE fW fBt fWr : Addr}
abbrev sLett : Stmt := inClass (top 29) 17
theorem scLett : FnScope ["self", "glyph"] ["self"] (defScope sLett) := ⟨rfl, rfl, rfl, by decide +kernel, rfl, by decide +kernel, by decide +kernel⟩
theorem ok_lett0 {f fG : Addr} {fd fdG : FuncData} (F : Fun K "letters" "Font.letters" sLett f fd) (T : TxF K mg C CI fE fW fBt fWr) (GG : FnOk P w K mg base CX0 2 fG fdG ["self"] (spGlyphs C)) (bG : Binds K fdG ["self"] []) (mG : Meth K C "glyphs" fG) : FnOk P w K mg base CX0 3 f fd ["self"] (spLett0 C) := by
  refine F.ok scLett (fun vs H Q E h => by obtain ⟨p, rfl, _⟩ := h; rfl) (fun cdv A outer s H vs Q E hr h => ?_)
  obtain ⟨p, rfl, ⟨o, FA⟩, k⟩ := h
  have nd := scLett.nd
  refine ⟨_, pss_one (ps_ret (pe_lc (own := [("glyph", 1)]) (g := gName 1) (tt := fun _ _ _ => False) (te := tVar 1) rfl nd (pi_list (pe_meth0 (pv 0) T.cl mG GG hr bG .nil pass0))
      (blkOk_by (N := ["self", "glyph"]) (sc := defScope sLett) (by decide +kernel))
      (fun _ _ _ _ _ => pg_name (i := 1) nd rfl (Or.inl rfl))
      (fun _ _ _ _ _ => pts_no)
      (fun _ _ _ _ _ => pv 1))), ?_⟩
  refine ⟨_, rfl, p, _, _, rfl, FA.ob, fflds_no _ _ (by decide +kernel) (by decide +kernel) (by decide +kernel) (by decide +kernel), p, o, st0, [], rfl, FA, fun e he => (by cases he), fun H1 q s01 hq hq1 => ⟨q, rfl, ⟨_, SqL.of hq1⟩, fun D hD => ?_⟩⟩
  have hDH : H D = none := by
    cases e : H D with
    | none => rfl
    | some u => rw [s01 _ _ e] at hD; cases hD
  have hq2 : H1 q = some (.lst []) := by
    have e := hq1
    rw [show (List.map (fun x => x.1) st0.adv).mergeSort (PySem.W.dataLe false kRank) = [] from glyphs0] at e
    exact e
  refine lc_none (K := K) (g := gName 1) (tt := fun _ _ _ => False) (te := tVar 1) (vs := [1]) (σ := L2.start ["self", "glyph"] [.ref p]) hq2 hD ?_
  exact k _ D (s01.trans (same_upd hD)) hDH upd_same
end
/-! ### {k: v for a in l for b in m} where l has no items -/
section
variable {X : Cx} {kx vx t1 e1 t2 e2 : Expr} {f1 f2 : List Expr} {sc : Scope} {pos : Pos}
/-- one turn of the outer loop begins with the iterator -/
theorem outer_turn (it acc : Value) (env : Env) : ∃ go : Value → Sem Fin, compTurn (.DictComp kx vx [⟨t1, e1, f1, 0⟩, ⟨t2, e2, f2, 0⟩] sc pos) 0 it acc env =
      (standAt e1.pos >>= fun _ => pyNext it >>= fun r => match r with | none => pure (.done .next) | some v => go v) := ⟨_, rfl⟩
/-- no item: the outer loop is over with its first look -/
theorem outer_over {P : Program} {w : World} {A : Around} {R : Result → Shared → Prop} {s : Shared} {it acc : Value} {env : Env} (h : wpAny (model P w) A (pyNext it) (fun r s1 => r = none ∧ R (.ok .next) s1) (fun _ _ => False) s) :
    codeAny (model P w) A (.compLoop (.DictComp kx vx [⟨t1, e1, f1, 0⟩, ⟨t2, e2, f2, 0⟩] sc pos) 0 it acc env) R s := by
  obtain ⟨go, turn⟩ := outer_turn (kx := kx) (vx := vx) (t1 := t1) (e1 := e1) (t2 := t2) (e2 := e2) (f1 := f1) (f2 := f2) (sc := sc) (pos := pos) it acc env
  refine codeAny_loop rfl (fun _ s1 => s1 = s) (fun n s1 e => ?_) 0 rfl
  subst e
  have first : ∀ E, wpAny (model P w) A (compTurn (.DictComp kx vx [⟨t1, e1, f1, 0⟩, ⟨t2, e2, f2, 0⟩] sc pos) 0 it acc env) (fun f s2 => f = .done .next ∧ R (.ok .next) s2) E s1 := fun E => by
    rw [turn]
    refine wpAny_bind (wpAny_standAt (wpAny_bind (wpAny_mono h (fun r s2 z => ?_) fun _ _ z => z.elim)))
    rw [z.1]
    exact wpAny_pure ⟨rfl, z.2⟩
  exact wpAny_noted (wpAny_mono (first _) (fun f s2 z => by rw [z.1]; exact z.2) fun _ _ z => z)
/-- the reading: the iterator is at its end from the start; a new empty dict -/
def tDcE (wi : TI) : TE := fun σ H Q => wi σ H fun J H1 => ∀ D, H1 D = none → J.stop 0 (upd H1 D (.dK [])) ∧ Q (.ref D) (upd H1 D (.dK []))
theorem pe_dcE {own : List (Str × Nat)} {wi : TI} (hc : X.calm = true) (hN : X.N.Nodup) (hi : PI X t1 e1 wi) (ok : BlkOk X.N X.env.scope sc own) (hs : ∀ x, foldedSetIterable e1 X.env x = pure x := by intro _; rfl) :
    PE X (.DictComp kx vx [⟨t1, e1, f1, 0⟩, ⟨t2, e2, f2, 0⟩] sc pos) (tDcE wi) := by
  constructor
  intro pins s σ H Q I h
  rw [arm_eval_DictComp]
  have cells : ∀ y ∈ sc.names, y.2 = .free → ∃ c, X.env.cells.lookup y.1 = some c := fun y hy e => I.ok.has _ (ok.free y hy e)
  refine wpAny_comprehension_free (use := none) rfl hs (closure_ok cells) ok.kind (fun y hy e => (ok.uniq y hy).trans (by rw [e])) (wpAny_mono (hi.run pins s σ H _ I h) (fun v1 s1 told => wpAny_mono told (fun v2 s2 got => ?_) fun _ _ z => z) fun _ _ z => z)
  obtain ⟨it, fp, tn, J, H2, rfl, I2, T, begun, foot, q⟩ := got
  -- the new dict stands at the heap's end, the block's variables behind it
  obtain ⟨over, done⟩ := q s2.heap.objs.size (I2.hok.fresh (Nat.le_refl _))
  have low : ∀ b ∈ fp, b < s2.heap.objs.size := fun b hb => let ⟨_, e, _⟩ := T.obj _ _ begun b hb; Heap.lt_size e
  have keepD : ∀ b o, s2.heap.get? b = some o → (s2.heap.push { cls := .type "dict", data := .dict #[] }).get? b = some o := fun _ _ e => Heap.get?_push_of_some _ e
  have I3 : Inv X pins σ (upd H2 s2.heap.objs.size (.dK [])) { s2 with heap := s2.heap.push { cls := .type "dict", data := .dict #[] } } := I2.laid (t' := s2.toks) keepD (Nat.le_refl _) (dk_empty s2.heap I2.big)
  have foot3 : ∀ b ∈ fp, FpOk X pins (upd H2 s2.heap.objs.size (.dK [])) b ∧ b < (s2.heap.push { cls := .type "dict", data := .dict #[] }).objs.size := fun b hb => by
    refine ⟨⟨(upd_ne (Nat.ne_of_lt (low b hb))).trans (foot b hb).1, (foot b hb).2⟩, ?_⟩
    rw [Heap.size_push]
    exact Nat.lt_succ_of_lt (low b hb)
  have B := block_start I3 ok hN foot3
  have begun4 : tn 0 (pushCells ((s2.heap.push { cls := .type "dict", data := .dict #[] }).push { cls := .type "dict", data := .dict #[] }) sc.names) :=
    T.keep _ _ _ begun fun b _ o e => pushCells_keeps _ _ _ _ (Heap.get?_push_of_some _ (keepD _ _ e))
  -- the block's own context
  let s3 : Shared := { s2 with heap := s2.heap.push { cls := .type "dict", data := .dict #[] } }
  let Y : Cx := X.blk s3 (upd H2 s2.heap.objs.size (.dK [])) sc (compEnvC sc (cellsFrom (s3.heap.objs.size + 1) sc.names (cloFrom X.env.cells sc.names [])) s3.heap.objs.size X.env) fp
  have still : ∀ b ∈ fp, FpOk Y [] (upd H2 s2.heap.objs.size (.dK [])) b := fun b hb =>
    ⟨(foot3 b hb).1.1, (B.ok.exf b hb).1, B.ok.exfs b hb, .inl hb, fun x c e => (B.ok.exf b hb).2 x c e, fun p hp => (List.not_mem_nil (show p ∈ ([] : List (Addr × Obj)) from hp)).elim⟩
  have look := T.done Y rfl rfl rfl hc 0 [] _ _ _ (fun _ _ => False) B still begun4 over
  have all := outer_over (kx := kx) (vx := vx) (t1 := t1) (e1 := e1) (t2 := t2) (e2 := e2) (f1 := f1) (f2 := f2) (sc := sc) (pos := pos) (acc := .ref s2.heap.objs.size) (env := Y.env)
    (R := compPost (model X.prog X.w) X.A X.xe none (EP X pins σ Q) (.ref s2.heap.objs.size) s3.heap.objs.size) (wpAny_mono look (fun r s6 z => ⟨z.1, ?_⟩) fun _ _ z => z)
  · exact wpAny_newObj_type (newEnv_comp (codeAny_compStart_dict all (T.self X.A 0 _ _ _ begun4 all)))
  obtain ⟨_, I6⟩ := z
  have I7 : Inv X pins σ (upd H2 s2.heap.objs.size (.dK [])) s6 := I3.call' (ch := fp) I6.os I6.base I6.hok I6.bare fun b hb => let ⟨⟨_, g1, g2, g3, g4, g5⟩, _⟩ := foot3 b hb; ⟨g3, g1, g4, g5⟩
  obtain ⟨m, ns, _⟩ := I6.loc
  refine ⟨m, ns, fun h7 sb => ?_⟩
  obtain ⟨f0, f1', f2', f3', f4', f5'⟩ := I3.fpOk (Nat.le_refl _) I6.free
  exact ⟨.ref s2.heap.objs.size, _, I7.turned (t' := s6.toks) (fun b o hb e => (sb.2 b hb).trans e) f0 f1' f3' f4' f5', rfl, done⟩
end
/-! ### beginnings of a font without ligatures -/
def spBeg0 (C : Addr) : Sp := fun vs H Q _ => ∃ p : Addr, vs = [.ref p] ∧ Empty C H p ∧ ∀ H' D, Same H H' → H D = none → H' D = some (.dK []) → Q (.ref D) H'
section
variable {P : Program} {w : World} {K : PySem.W.Frag} {mg : Str → Option Value} {base : Heap} {C : Addr}
abbrev sBeg : Stmt := top 41
theorem scBeg : FnScope ["font", "ligature", "size"] ["font"] (defScope sBeg) := ⟨rfl, rfl, rfl, by decide +kernel, rfl, by decide +kernel, by decide +kernel⟩
theorem ok_beg0 {f fG pL : Addr} {fd fdG : FuncData} (F : Fun K "beginnings" "beginnings" sBeg f fd) (cl : Cls K C) (hp : PropOf K C "ligatures" pL fG) (GL : FnOk P w K mg base CX0 3 fG fdG ["self"] (spLigs C)) (bL : Binds K fdG ["self"] []) : FnOk P w K mg base CX0 5 f fd ["font"] (spBeg0 C) := by
  refine F.ok scBeg (fun vs H Q E h => by obtain ⟨p, rfl, _⟩ := h; rfl) (fun cdv A outer s H vs Q E hr h => ?_)
  obtain ⟨p, rfl, ⟨o, FA⟩, k⟩ := h
  have nd := scBeg.nd
  refine ⟨_, pss_one (ps_ret (pe_dcE (own := [("ligature", 1), ("size", 2)]) rfl nd (pi_list (pe_prop (pv 0) cl hp GL hr bL .nil pass0 rfl))
      (blkOk_by (N := ["font", "ligature", "size"]) (sc := defScope sBeg) (by decide +kernel)))), ?_⟩
  refine ⟨_, rfl, p, _, _, rfl, FA.ob, p, o, st0, [], rfl, FA, fun e he => (by cases he), fun H1 q s01 hq hq1 => ⟨q, rfl, ⟨_, SqL.of hq1⟩, fun D hD => ?_⟩⟩
  have hq2 : H1 q = some (.lst []) := by
    have e := hq1
    rw [show glyphsOf st0 = [] from glyphs0] at e
    exact e
  have hDq : q ≠ D := ne_of_none hq2 hD
  have hDH : H D = none := by
    cases e : H D with
    | none => rfl
    | some u => rw [s01 _ _ e] at hD; cases hD
  refine ⟨?_, k _ D (s01.trans (same_upd hD)) hDH upd_same⟩
  exact ⟨[], SqL.of ((upd_ne hDq).trans hq2), Nat.le_refl _⟩
end
/-! ### no glyphs -/
def spRow0 : Sp := fun vs H Q _ => ∃ f : Addr, vs = [.ref f, .str ""] ∧ ∀ D, H D = none → Q (.ref D) (upd H D (.lst []))
def spAdd0 : Sp := fun vs H Q _ => ∃ (f D : Addr) (z : Str), vs = [.ref f, .str z, .ref D] ∧ H D = some (.lst []) ∧ Q (.int 0) H
section
variable {P : Program} {w : World} {K : PySem.W.Frag} {mg : Str → Option Value} {base : Heap}
abbrev sRow0 : Stmt := top 36
theorem scRow0 : FnScope ["font", "text", "glyphs", "start", "glyph"] ["font", "text"] (defScope sRow0) := ⟨rfl, rfl, rfl, by decide +kernel, rfl, by decide +kernel, by decide +kernel⟩
theorem ok_row0 {f : Addr} {fd : FuncData} (F : Fun K "glyph_row" "glyph_row" sRow0 f fd) (mL : mg "len" = none) : FnOk P w K mg base CX0 1 f fd ["font", "text"] spRow0 := by
  refine F.ok scRow0 (fun vs H Q E h => by obtain ⟨p, rfl, _⟩ := h; rfl) (fun cdv A outer s H vs Q E hr h => ?_)
  obtain ⟨p, rfl, k⟩ := h
  have nd := scRow0.nd
  refine ⟨_, pss_cons (ps_set (i := 2) nd rfl (Or.inl rfl) (pe_lst pa_nil)) (pss_cons (ps_set (i := 3) nd rfl (Or.inl rfl) pe_int)
    (pss_cons (ps_while PassesOwn.never (pt_cmpR op_lt (pv 3) (pe_callB call_len_str (by rfl) mL PySem.boot_len (pa_cons (pv 1) pa_nil)) (nomark _)) pss_no) (pss_one (ps_ret (pv 2))))), ?_⟩
  refine ⟨by show 0 ≤ sizeLine; rw [sizeLine_eq]; decide, fun D hD => ?_⟩
  refine ⟨fun _ σ H' => σ = [some (.ref p), some (.str ""), some (.ref D), some (.int 0), none] ∧ H' = upd H D (.lst []), ⟨0, rfl, rfl⟩, ?_⟩
  rintro m σ H' ⟨rfl, rfl⟩
  refine ⟨_, rfl, _, rfl, "", rfl, by show 0 ≤ sizeLine; rw [sizeLine_eq]; decide, _, _, rfl, rfl, _, rfl, ?_⟩
  exact iteF ⟨_, rfl, k D hD⟩
abbrev sAdd0 : Stmt := top 37
theorem scAdd0 : FnScope ["font", "last", "glyphs", "total", "left", "glyph"] ["font", "last", "glyphs"] (defScope sAdd0) := ⟨rfl, rfl, rfl, by decide +kernel, rfl, by decide +kernel, by decide +kernel⟩
theorem ok_add0 {f : Addr} {fd : FuncData} (F : Fun K "added_width" "added_width" sAdd0 f fd) : FnOk P w K mg base CX0 1 f fd ["font", "last", "glyphs"] spAdd0 := by
  refine F.ok scAdd0 (fun vs H Q E h => by obtain ⟨p, D, z, rfl, _⟩ := h; rfl) (fun cdv A outer s H vs Q E hr h => ?_)
  obtain ⟨p, D, z, rfl, hD, k⟩ := h
  have nd := scAdd0.nd
  refine ⟨_, pss_cons (ps_set (i := 3) nd rfl (Or.inl rfl) pe_int) (pss_cons (ps_set (i := 4) nd rfl (Or.inl rfl) (pv 1))
    (pss_cons (ps_for PassesOwn.never rfl (pi_list (pv 2)) (pg_name (i := 5) nd rfl (Or.inl rfl)) pss_no) (pss_one (ps_ret (pv 3))))), ?_⟩
  refine ⟨_, rfl, _, rfl, D, rfl, ⟨_, SqL.of hD⟩, for_list (K := K) (a := D) (xs := []) (g := gName 5) (tb := fun _ _ _ => False) (fun i σ H' => σ = [some (.ref p), some (.str z), some (.ref D), some (.int 0), some (.str z), none] ∧ H' = H) ⟨rfl, rfl⟩ (fun i σ H' _ ⟨_, e⟩ => by rw [e]; exact SqL.of hD) ?_ ?_⟩
  · intro j y σ H' hj
    simp at hj
  · rintro σ H' ⟨rfl, rfl⟩
    exact ⟨_, rfl, k⟩
end
/-! ### a stepper of a font without glyphs -/
def stf (f b d : Addr) : List (Str × V) := putF "_decided" (.ref d) (putF "_begun" (.ref b) (putF "_font" (.ref f) []))
theorem stf_font (f b d : Addr) : (stf f b d).lookup ("_font" : Str) = some (.ref f) := by
  unfold stf
  rw [lookup_putF, if_neg (by decide +kernel), lookup_putF, if_neg (by decide +kernel), lookup_putF, if_pos rfl]
def StepAt (CS C : Addr) (H : Hp) (p f : Addr) : Prop := ∃ dx b d : Addr, H p = some (.ins CS dx (stf f b d)) ∧ Empty C H f ∧ H b = some (.dK []) ∧ H d = some (.dK [])
theorem StepAt.sm {CS C p f : Addr} {H H' : Hp} (s : Same H H') : StepAt CS C H p f → StepAt CS C H' p f := fun ⟨dx, b, d, h1, h2, h3, h4⟩ => ⟨dx, b, d, s _ _ h1, h2.sm s, s _ _ h3, s _ _ h4⟩
/-- a font without glyphs stays where another instance's fields change -/
theorem empty_ins {C CS p dx fo : Addr} {fs : List (Str × V)} {H H' : Hp} (hp : H p = some (.ins CS dx fs)) (he : Empty C H fo) (k : ∀ a u, H a = some u → a ≠ p → H' a = some u) (hf : fo ≠ p := by first | assumption | (intro z; exact absurd z (by assumption))) : Empty C H' fo := by
  obtain ⟨o, F⟩ := he
  obtain ⟨ls, h1, h2, h3⟩ := F.dp
  refine ⟨o, ⟨k _ _ F.ob hf, k _ _ F.da (fun z => ?_), k _ _ F.dn (fun z => ?_), ?_, F.small⟩⟩
  · have e := F.da; rw [z, hp] at e; cases e
  · have e := F.dn; rw [z, hp] at e; cases e
  · cases h2
    refine ⟨[], k _ _ h1 (fun z => ?_), .nil, h3⟩
    have e := h1; rw [z, hp] at e; cases e
structure TxS (K : PySem.W.Frag) (CS : Addr) : Prop where
  cl : Cls K CS
  nF : NoAttr K CS "_font"
  nB : NoAttr K CS "_begun"
  nD : NoAttr K CS "_decided"
def spStp0 (CS C : Addr) : Sp := fun vs H Q _ => ∃ p dx f : Addr, vs = [.ref p, .ref f] ∧ H p = some (.ins CS dx []) ∧ Empty C H f ∧ f ≠ p ∧ ∀ H', (∀ a u, H a = some u → a ≠ p → H' a = some u) → StepAt CS C H' p f → Q .non H'
def spFin0 (K : PySem.W.Frag) (CS C : Addr) : Sp := fun vs H Q _ => ∃ p a fo : Addr, vs = [.ref p, .ref a] ∧ StepAt CS C H p fo ∧ SqT K H a [.str "", .str ""] ∧ ∀ H' t D, Same H H' → H' t = some (.tup [.ref D, .int 0]) → Q (.ref t) H'
section
variable {P : Program} {w : World} {K : PySem.W.Frag} {mg : Str → Option Value} {base : Heap} {CS C : Addr}
abbrev sFin0 : Stmt := inClass (top 40) 2
theorem scFin0 : FnScope ["self", "state", "last", "pending", "glyphs"] ["self", "state"] (defScope sFin0) := ⟨rfl, rfl, rfl, by decide +kernel, rfl, by decide +kernel, by decide +kernel⟩
theorem ok_fin0 {f fR fA : Addr} {fd fdR fdA : FuncData} (F : Fun K "finish" "Stepper.finish" sFin0 f fd) (T : TxS K CS) (aR : At K mg "glyph_row" fR) (GR : FnOk P w K mg base CX0 1 fR fdR ["font", "text"] spRow0) (bR : Binds K fdR ["font", "text"] [])
    (aA : At K mg "added_width" fA) (GA : FnOk P w K mg base CX0 1 fA fdA ["font", "last", "glyphs"] spAdd0) (bA : Binds K fdA ["font", "last", "glyphs"] []) : FnOk P w K mg base CX0 2 f fd ["self", "state"] (spFin0 K CS C) := by
  refine F.ok scFin0 (fun vs H Q E h => by obtain ⟨p, a, fo, rfl, _⟩ := h; rfl) (fun cdv A outer s H vs Q E hr h => ?_)
  obtain ⟨p, a, fo, rfl, ⟨dx, b, d, hp, he, hb, hd⟩, ht, k⟩ := h
  have nd := scFin0.nd
  refine ⟨_, pss_cons (ps_asg (pv 1) (pg_tup rfl (pgs_cons (pg_name (i := 2) nd rfl (.inl rfl)) (pgs_cons (pg_name (i := 3) nd rfl (.inl rfl)) pgs_nil))))
    (pss_cons (ps_set (i := 4) nd rfl (Or.inl rfl) (pe_call GR hr (by rfl) aR.g aR.k bR .nil pass0 (pa_cons (pe_fld (pv 0) rfl) (pa_cons (pv 3) pa_nil))))
    (pss_one (ps_ret (pe_tup (pa_cons (pv 4) (pa_cons (pe_call GA hr (by rfl) aA.g aA.k bA .nil pass0 (pa_cons (pe_fld (pv 0) rfl) (pa_cons (pv 2) (pa_cons (pv 4) pa_nil)))) pa_nil)))))), ?_⟩
  refine ⟨_, rfl, a, _, rfl, ht, rfl, _, _, rfl, _, _, rfl, rfl, ?_⟩
  refine ⟨_, rfl, p, CS, dx, _, _, rfl, hp, T.cl, T.nF, stf_font _ _ _, _, rfl, fo, rfl, fun D hD => ?_⟩
  have s1 : Same H (upd H D (.lst [])) := same_upd hD
  refine ⟨_, rfl, _, rfl, p, CS, dx, _, _, rfl, s1 _ _ hp, T.cl, T.nF, stf_font _ _ _, _, rfl, _, rfl, fo, D, "", rfl, upd_same, ?_⟩
  refine ⟨by show 2 ≤ sizeLine; rw [sizeLine_eq]; decide, fun t hT => ?_⟩
  exact k _ t D (s1.trans (same_upd hT)) upd_same
abbrev sStp0 : Stmt := inClass (top 40) 0
theorem scStp0 : FnScope ["self", "font"] ["self", "font"] (defScope sStp0) := ⟨rfl, rfl, rfl, by decide +kernel, rfl, by decide +kernel, by decide +kernel⟩
theorem ok_stp0 {f fB : Addr} {fd fdB : FuncData} (F : Fun K "__init__" "Stepper.__init__" sStp0 f fd) (T : TxS K CS) (aB : At K mg "beginnings" fB) (GB : FnOk P w K mg base CX0 5 fB fdB ["font"] (spBeg0 C)) (bB : Binds K fdB ["font"] []) : FnOk P w K mg base CX0 6 f fd ["self", "font"] (spStp0 CS C) := by
  refine F.ok scStp0 (fun vs H Q E h => by obtain ⟨p, dx, f, rfl, _⟩ := h; rfl) (fun cdv A outer s H vs Q E hr h => ?_)
  obtain ⟨p, dx, fo, rfl, hp, he, hf, k⟩ := h
  refine ⟨_, pss_cons (ps_fld (pv 0) (pv 1) rfl) (pss_cons (ps_fld (pv 0) (pe_call GB hr (by rfl) aB.g aB.k bB .nil pass0 (pa_cons (pv 1) pa_nil)) rfl) (pss_one (ps_fld (pv 0) pe_dnewK rfl))), ?_⟩
  refine ⟨_, rfl, _, rfl, p, CS, dx, _, rfl, hp, T.cl, T.nF, (by show 0 < 1000; decide), ?_⟩
  obtain ⟨H1, e1⟩ : ∃ H1, H1 = upd H p (.ins CS dx (putF "_font" (.ref fo) [])) := ⟨_, rfl⟩
  rw [← e1]
  have k1 : ∀ a u, H a = some u → a ≠ p → H1 a = some u := fun a u e n => by rw [e1, upd_ne n]; exact e
  have p1 : H1 p = some (.ins CS dx (putF "_font" (.ref fo) [])) := by rw [e1]; exact upd_same
  have em1 : Empty C H1 fo := empty_ins hp he k1
  refine ⟨_, rfl, fo, rfl, em1, fun H2 D s2 nD hD => ?_⟩
  refine ⟨_, rfl, p, CS, dx, _, rfl, s2 _ _ p1, T.cl, T.nB, (by show 1 < 1000; decide), ?_⟩
  obtain ⟨H3, e3⟩ : ∃ H3, H3 = upd H2 p (.ins CS dx (putF "_begun" (.ref D) (putF "_font" (.ref fo) []))) := ⟨_, rfl⟩
  rw [← e3]
  have k3 : ∀ a u, H2 a = some u → a ≠ p → H3 a = some u := fun a u e n => by rw [e3, upd_ne n]; exact e
  have p3 : H3 p = some (.ins CS dx (putF "_begun" (.ref D) (putF "_font" (.ref fo) []))) := by rw [e3]; exact upd_same
  have em3 : Empty C H3 fo := empty_ins (s2 _ _ p1) (em1.sm s2) k3
  have Dp : D ≠ p := fun z => by rw [z, p1] at nD; cases nD
  have hD3 : H3 D = some (.dK []) := k3 _ _ hD Dp
  refine fun D2 hD2 => ?_
  have s4 : Same H3 (upd H3 D2 (.dK [])) := same_upd hD2
  refine ⟨_, rfl, p, CS, dx, _, rfl, s4 _ _ p3, T.cl, T.nD, (by show 2 < 1000; decide), ?_⟩
  have D2p : D2 ≠ p := fun z => by rw [z, p3] at hD2; cases hD2
  have k5 : ∀ a u, (upd H3 D2 (.dK [])) a = some u → a ≠ p → (upd (upd H3 D2 (.dK [])) p (.ins CS dx (stf fo D D2))) a = some u := fun a u e n => by rw [upd_ne n]; exact e
  exact k _ (fun a u e n => k5 _ _ (s4 _ _ (k3 _ _ (s2 _ _ (k1 _ _ e n)) n)) n) ⟨dx, D, D2, upd_same, empty_ins (s4 _ _ p3) (em3.sm s4) k5, k5 _ _ (s4 _ _ hD3) Dp, k5 _ _ upd_same D2p⟩
end
/-! ### Joined._number_of: the first state -/
def spNum0 (CJ : Addr) : Sp := fun vs H Q _ => ∃ (p dx a q n s g : Addr) (fs : List (Str × V)) (ks : List Key), vs = [.ref p, .ref a, .ref q] ∧ H p = some (.ins CJ dx fs) ∧ fs.lookup ("_numbers" : Str) = some (.ref n) ∧ fs.lookup ("_states" : Str) = some (.ref s) ∧ fs.lookup ("_origins" : Str) = some (.ref g) ∧
  H n = some (.dT []) ∧ H s = some (.lst []) ∧ H g = some (.lst []) ∧ s ≠ g ∧ H a = some (.tup (ks.map kV)) ∧ Q (.int 0) (upd (upd (upd H n (.dT [(ks, .int 0)])) s (.lst [.ref a])) g (.lst [.ref q]))
structure TxJ (K : PySem.W.Frag) (CJ : Addr) : Prop where
  cl : Cls K CJ
  nN : NoAttr K CJ "_numbers"
  nS : NoAttr K CJ "_states"
  nO : NoAttr K CJ "_origins"
section
variable {P : Program} {w : World} {K : PySem.W.Frag} {mg : Str → Option Value} {base : Heap} {CJ : Addr}
abbrev sNum0 : Stmt := inClass (top 43) 12
theorem scNum0 : FnScope ["self", "state", "origin"] ["self", "state", "origin"] (defScope sNum0) := ⟨rfl, rfl, rfl, by decide +kernel, rfl, by decide +kernel, by decide +kernel⟩
theorem ok_num0 {f : Addr} {fd : FuncData} (F : Fun K "_number_of" "Joined._number_of" sNum0 f fd) (T : TxJ K CJ) (mL : mg "len" = none) : FnOk P w K mg base CX0 1 f fd ["self", "state", "origin"] (spNum0 CJ) := by
  refine F.ok scNum0 (fun vs H Q E h => by obtain ⟨p, dx, a, q, n, s, g, fs, ks, rfl, _⟩ := h; rfl) (fun cdv A outer s0 H vs Q E hr h => ?_)
  obtain ⟨p, dx, a, q, n, s, g, fs, ks, rfl, hp, l1, l2, l3, hn, hs, hg, sg, ha, k⟩ := h
  have hu := hu_of hr
  refine ⟨_, pss_cons (ps_if (pt_cmp (pc_dnotin hu (pv 1) (pe_fld (pv 0) rfl)))
      (pss_cons (ps_dput hu (pe_fld (pv 0) rfl) (pv 1) (pe_callB call_len_seq (by rfl) mL PySem.boot_len (pa_cons (pe_fld (pv 0) rfl) pa_nil)) rfl)
      (pss_cons (ps_expr (pe_bm PySem.F.plainAttrs_list PySem.F.slot_list_append PySem.F.type_list_append mt_append (pe_fld (pv 0) rfl) (pa_cons (pv 1) pa_nil)))
      (pss_one (ps_expr (pe_bm PySem.F.plainAttrs_list PySem.F.slot_list_append PySem.F.type_list_append mt_append (pe_fld (pv 0) rfl) (pa_cons (pv 2) pa_nil)))))) pss_nil)
    (pss_one (ps_ret (pe_dget hu (pe_fld (pv 0) rfl) (pv 1) (fun _ _ => rfl)))), ?_⟩
  have pn : p ≠ n := fun z => by rw [z, hn] at hp; cases hp
  have pS : p ≠ s := fun z => by rw [z, hs] at hp; cases hp
  have pg : p ≠ g := fun z => by rw [z, hg] at hp; cases hp
  have an : a ≠ n := fun z => by rw [z, hn] at ha; cases ha
  have as : a ≠ s := fun z => by rw [z, hs] at ha; cases ha
  have ag : a ≠ g := fun z => by rw [z, hg] at ha; cases ha
  have ns : n ≠ s := fun z => by rw [z, hs] at hn; cases hn
  have ng : n ≠ g := fun z => by rw [z, hg] at hn; cases hn
  refine ⟨_, rfl, _, rfl, p, CJ, dx, _, _, rfl, hp, T.cl, T.nN, l1, n, none, rfl, DGet.t hn ha, true, rfl, iteT ?_⟩
  refine ⟨_, rfl, p, CJ, dx, _, _, rfl, hp, T.cl, T.nS, l2, s, _, rfl, .inl (SqL.of hs), ?_⟩
  refine ⟨_, rfl, p, CJ, dx, _, _, rfl, hp, T.cl, T.nN, l1, _, rfl, n, upd H n (.dT [(ks, .int 0)]), rfl, DPut.t hn ha (by show 0 < sizeLine; rw [sizeLine_eq]; decide), ?_⟩
  have hp1 : (upd H n (.dT [(ks, V.int 0)])) p = some (.ins CJ dx fs) := (upd_ne pn).trans hp
  have hs1 : (upd H n (.dT [(ks, V.int 0)])) s = some (.lst []) := (upd_ne (Ne.symm ns)).trans hs
  refine ⟨_, rfl, p, CJ, dx, _, _, rfl, hp1, T.cl, T.nS, l2, .inl ⟨rfl, _, SqL.of hs1⟩, _, rfl, s, _, _, rfl, rfl, hs1, by show 0 < sizeLine; rw [sizeLine_eq]; decide, ?_⟩
  have hp2 : (upd (upd H n (.dT [(ks, V.int 0)])) s (.lst [.ref a])) p = some (.ins CJ dx fs) := (upd_ne pS).trans hp1
  have hg2 : (upd (upd H n (.dT [(ks, V.int 0)])) s (.lst [.ref a])) g = some (.lst []) := (upd_ne (Ne.symm sg)).trans ((upd_ne (Ne.symm ng)).trans hg)
  refine ⟨_, rfl, p, CJ, dx, _, _, rfl, hp2, T.cl, T.nO, l3, .inl ⟨rfl, _, SqL.of hg2⟩, _, rfl, g, _, _, rfl, rfl, hg2, by show 0 < sizeLine; rw [sizeLine_eq]; decide, ?_⟩
  have hp3 := (upd_ne (o := HO.lst [.ref q]) pg).trans hp2
  have hn3 : (upd (upd (upd H n (.dT [(ks, V.int 0)])) s (.lst [.ref a])) g (.lst [.ref q])) n = some (.dT [(ks, .int 0)]) := (upd_ne ng).trans ((upd_ne ns).trans upd_same)
  have ha3 : (upd (upd (upd H n (.dT [(ks, V.int 0)])) s (.lst [.ref a])) g (.lst [.ref q])) a = some (.tup (ks.map kV)) := (upd_ne ag).trans ((upd_ne as).trans ((upd_ne an).trans ha))
  refine ⟨_, rfl, p, CJ, dx, _, _, rfl, hp3, T.cl, T.nN, l1, _, rfl, n, .int 0, rfl, ?_, k⟩
  have d := DGet.t hn3 ha3
  rw [valV_pos rfl] at d
  exact d
end
/-! ### a dict with one entry whose key is a tuple, tracked or the module's own -/
/-- d holds v at the tuple ks, the key's object at b -/
def oneO (P : Program) (w : World) (d b : Addr) (ks : List Key) (v : V) : HO := .ext fun h => ∃ (u : Value) (o : Obj) (ep : Nat), RelV v u ∧ h.get? d = some o ∧ o.ExactDict ∧ o.data = .dict #[entryOfKey (tupleKind (mixKind P w)) (ks, b, u)] ep
theorem oneO_ne {P : Program} {w : World} {d b : Addr} {ks : List Key} {v : V} {u : HO} (h : ∀ φ, u ≠ .ext φ) : oneO P w d b ks v ≠ u := fun z => h _ z.symm
section
variable {X : Cx} {pins : List (Addr × Obj)} {σ : L2.St} {H : Hp} {s : Shared} {d b c : Addr} {ks : List Key} {v : V}
theorem one_ok {P : Program} {w : World} {h : Heap} {u : Value} {o : Obj} {ep : Nat} (r : RelV v u) (e : h.get? d = some o) (x : o.ExactDict) (y : o.data = .dict #[entryOfKey (tupleKind (mixKind P w)) (ks, b, u)] ep) : ObjOk P w H h d (oneO P w d b ks v) :=
  ⟨⟨u, o, ep, r, e, x, y⟩, ⟨o, e⟩, fun _ _ ⟨u, o, ep, r, e, x, y⟩ k => ⟨u, o, ep, r, k _ e, x, y⟩⟩
/-- a tuple that is read is a key -/
theorem key_any (I : Inv X pins σ H s) (h : SqT X.K H b (ks.map kV)) : (tupleKind (mixKind X.prog X.w)).is s.heap ks b := by
  obtain ⟨its, r, ⟨o, e, c, n, dt⟩, _⟩ := I.tuple h
  exact ⟨o, its.toArray, n, e, c, dt, by simpa using items_are r⟩
theorem one_at (I : Inv X pins σ H s) (e : H d = some (oneO X.prog X.w d b ks v)) (h : SqT X.K H b (ks.map kV)) : ∃ u, RelV v u ∧ s.heap.DictOfH (tupleKind (mixKind X.prog X.w)) d [(ks, b, u)] := by
  obtain ⟨⟨u, o, ep, r, e1, x, y⟩, _⟩ := I.hok d _ e
  exact ⟨u, r, o, _, ep, e1, x, y, rfl, fun z hz => by rw [List.mem_singleton.mp hz]; exact key_any I h, by simp⟩
/-- the empty one -/
theorem none_at (I : Inv X pins σ H s) (e : H d = some (.dT [])) : (d == sysModules) = false ∧ s.heap.DictOfH (tupleKind (mixKind X.prog X.w)) d [] := by
  obtain ⟨_, y, xs, r, dd⟩ := dt_of I.hok e
  cases r
  exact ⟨y, dd⟩
end
section
variable {X : Cx} {o i value : Expr} {pos pos' : Pos} {td ty tv : TE}
/-- y not in d, d empty -/
def tNotIn0 (K : PySem.W.Frag) (ty td : TE) : TE := fun σ H Q => ty σ H fun y H1 => td σ H1 fun x H2 => ∃ (d b : Addr) (ks : List Key), x = .ref d ∧ y = .ref b ∧ H2 d = some (.dT []) ∧ SqT K H2 b (ks.map kV) ∧ Q (.bl true) H2
theorem pc_notin0 (hu : X.A.units + 1 < cLine) (hi : PE X i ty) (ho : PE X o td) : PC X .NotIn i o (tNotIn0 X.K ty td) := by
  refine ⟨fun pins s σ H Q I h => thn (hi.run pins s σ H _ I h) fun iv s1 ⟨y, H1, I1, ry, q1⟩ => thn (ho.run pins s1 σ H1 _ I1 q1) fun dv s2 ⟨x, H2, I2, rx, q2⟩ => ?_⟩
  obtain ⟨d, b, ks, rfl, rfl, e, hk, q⟩ := q2
  cases rx
  cases ry
  obtain ⟨z, dd⟩ := none_at I2 e
  exact PyProof.Rows.wpAny_notIn_heap (tupleKind_room_in1 hu) (key_any I2 hk) z dd ⟨.bl true, H2, I2.tok _, rfl, q⟩
/-- d[y] = v, d empty -/
def sPut1 (P : Program) (w : World) (K : PySem.W.Frag) (td ty tv : TE) : TS := fun D σ H => tv σ H fun v H1 => td σ H1 fun x H2 => ty σ H2 fun y H3 => ∃ (d b : Addr) (ks : List Key), x = .ref d ∧ y = .ref b ∧ H3 d = some (.dT []) ∧ SqT K H3 b (ks.map kV) ∧ D.nx σ (upd H3 d (oneO P w d b ks v))
theorem ps_put1 (hu : X.A.units + 1 < cLine) (ho : PE X o td) (hi : PE X i ty) (hv : PE X value tv) (hs : swapsWith value (some (.Subscript o i pos')) pos.line X.env = pure false) :
    PS X (.Assign [.Subscript o i pos'] value pos) (sPut1 X.prog X.w X.K td ty tv) := by
  refine ⟨fun pins s σ H D I h => wpAny_Assign_Subscript (thn (hv.run pins s σ H _ I h) fun r s1 ⟨v, H1, I1, rv, q1⟩ => thn (ho.run pins s1 σ H1 _ I1 q1) fun dv s2 ⟨x, H2, I2, rx, q2⟩ => thn (hi.run pins s2 σ H2 _ I2 q2) fun iv s3 ⟨y, H3, I3, ry, q3⟩ => ?_) hs⟩
  obtain ⟨d, b, ks, rfl, rfl, e, hk, q⟩ := q3
  cases rx
  cases ry
  obtain ⟨_, dd⟩ := none_at I3 e
  refine wpAny_setItem_heap (hsz := Nat.zero_le _) (tupleKind_room_in1 hu) (key_any I3 hk) dd fun h' dd' same => ?_
  obtain ⟨o', es, ep, e1, x1, y1, all, _, _⟩ := dd'
  have es1 : es = #[entryOfKey (tupleKind (mixKind X.prog X.w)) (ks, b, r)] := by
    apply Array.toList_inj.mp
    rw [all]
    rfl
  subst es1
  exact ⟨σ, _, d_write I3 (by rw [e]; trivial) same ⟨o', e1⟩ (one_ok rv e1 x1 y1), q⟩
/-- d[y], the one entry's key equal to y -/
def tGet1 (P : Program) (w : World) (K : PySem.W.Frag) (td ty : TE) : TE := fun σ H Q => td σ H fun x H1 => ty σ H1 fun y H2 => ∃ (d b c : Addr) (ks : List Key) (v : V), x = .ref d ∧ y = .ref c ∧ H2 d = some (oneO P w d b ks v) ∧ SqT K H2 b (ks.map kV) ∧ SqT K H2 c (ks.map kV) ∧ Q v H2
theorem pe_get1 (hu : X.A.units + 1 < cLine) (ho : PE X o td) (hi : PE X i ty) (hs : NoSl i) : PE X (.Subscript o i pos) (tGet1 X.prog X.w X.K td ty) := by
  refine ⟨fun pins s σ H Q I h => subD_of PySem.F.slot_dict_getitem.lookup hs (thn (ho.run pins s σ H _ I h) fun dv s1 ⟨x, H1, I1, rx, q1⟩ => thn (hi.run pins s1 σ H1 _ I1 q1) fun iv s2 ⟨y, H2, I2, ry, q2⟩ => ?_)⟩
  obtain ⟨d, b, c, ks, v, rfl, rfl, e, hb, hc, q⟩ := q2
  cases rx
  cases ry
  obtain ⟨u, r, dd⟩ := one_at I2 e hb
  exact ⟨dd.typeIs, wpAny_getItem_heap (tupleKind_room_in1 hu) (key_any I2 hc) dd (p := (b, u)) (by simp [atKey]) ⟨v, H2, I2.tok _, r, q⟩⟩
/-- a target that is never stored to -/
theorem pg_no {t : Expr} : PG X t (fun _ _ _ _ => False) := ⟨fun _ _ _ _ _ _ _ _ _ h => h.elim⟩
/-- a dict comprehension over an empty list -/
theorem dc_none {K : PySem.W.Frag} {q : Addr} {g : TG} {tt : TT} {tk tv : TE} {vs : List Nat} {σ : L2.St} {H1 : Hp} {D : Addr} {Qd : Hp → Prop} (hq : H1 q = some (.lst [])) (hD : H1 D = none) (k : Qd (upd H1 D (.dK []))) :
    ∃ W : Nat → Nat → Hp → Prop, (∃ m, W 0 m (upd H1 D (.dK []))) ∧ ∀ i m H, W i m H → ((Itl K q).stop i H ∧ Qd H) ∨ ((Itl K q).go i H ∧ ∃ Nx : Hp → Prop, (∀ H', Nx H' → ∃ m', m' < m ∧ W (i + 1) m' H') ∧ ∀ x H', (Itl K q).yld i H x H' →
      g x (wipe σ vs) H' fun σ2 H2 => wipe σ2 vs = wipe σ vs ∧ tt σ2 H2 fun b H3 => if b = true then tk σ2 H3 fun y H4 => tv σ2 H4 fun z H5 => ∃ kvs k, y = kV k ∧ H5 D = some (.dK kvs) ∧ kvs.length < sizeLine ∧ Nx (upd H5 D (.dK (putK kvs k z))) else Nx H3) := by
  refine ⟨fun i _ H => i = 0 ∧ H = upd H1 D (.dK []), ⟨0, rfl, rfl⟩, ?_⟩
  rintro _ m _ ⟨rfl, rfl⟩
  exact .inl ⟨⟨[], SqL.of ((upd_ne (ne_of_none hq hD)).trans hq), Nat.le_refl _⟩, k⟩
end
/-! ### Side of a font without glyphs, no letters -/
def sdf (st en : Addr) : List (Str × V) := putF "_ends" (.ref en) (putF "_steps" (.ref st) [])
theorem sdf_steps (st en : Addr) : (sdf st en).lookup ("_steps" : Str) = some (.ref st) := by
  unfold sdf
  rw [lookup_putF, if_neg (by decide +kernel), lookup_putF, if_pos rfl]
theorem sdf_ends (st en : Addr) : (sdf st en).lookup ("_ends" : Str) = some (.ref en) := by
  unfold sdf
  rw [lookup_putF, if_pos rfl]
abbrev K2 : List Key := [.inr "", .inr ""]
/-- the end of the empty text is known -/
def SideAt (P : Program) (w : World) (K : PySem.W.Frag) (CD : Addr) (H : Hp) (p : Addr) : Prop := ∃ dx st en b : Addr, H p = some (.ins CD dx (sdf st en)) ∧ H en = some (oneO P w en b K2 (.int 0)) ∧ SqT K H b [.str "", .str ""]
structure TxD (K : PySem.W.Frag) (mg : Str → Option Value) (CD bT : Addr) : Prop where
  cl : Cls K CD
  nS : NoAttr K CD "_steps"
  nE : NoAttr K CD "_ends"
  mT : mg "START" = some (.ref bT)
  sT : ∀ H, SqT K H bT [.str "", .str ""]
  mL : mg "len" = none
def spSide0 (P : Program) (w : World) (K : PySem.W.Frag) (CD C : Addr) : Sp := fun vs H Q _ => ∃ p dx f l : Addr, vs = [.ref p, .ref f, .ref l] ∧ H p = some (.ins CD dx []) ∧ Empty C H f ∧ f ≠ p ∧ H l = some (.lst []) ∧
  ∀ H', (∀ a u, H a = some u → a ≠ p → H' a = some u) → SideAt P w K CD H' p → Q .non H'
/-- a comprehension whose iterator is at its end from the start -/
theorem lc_stop {J : It} {g : TG} {tt : TT} {te : TE} {vs : List Nat} {σ : L2.St} {H1 : Hp} {D : Addr} {Qd : Hp → Prop} (st : J.stop 0 (upd H1 D (.lst []))) (k : Qd (upd H1 D (.lst []))) :
    ∃ W : Nat → Nat → Hp → Prop, (∃ m, W 0 m (upd H1 D (.lst []))) ∧ ∀ i m H, W i m H →
      (J.stop i H ∧ Qd H) ∨ (J.go i H ∧ ∃ Nx : Hp → Prop, (∀ H', Nx H' → ∃ m', m' < m ∧ W (i + 1) m' H') ∧ ∀ x H', J.yld i H x H' → g x (wipe σ vs) H' fun σ2 H2 => wipe σ2 vs = wipe σ vs ∧ tt σ2 H2 fun b H3 =>
        if b = true then te σ2 H3 fun y H4 => ∃ acc, H4 D = some (.lst acc) ∧ acc.length < sizeLine ∧ Nx (upd H4 D (.lst (acc ++ [y]))) else Nx H3) :=
  ⟨fun i _ H => i = 0 ∧ H = upd H1 D (.lst []), ⟨0, rfl, rfl⟩, by rintro _ m _ ⟨rfl, rfl⟩; exact .inl ⟨st, k⟩⟩
/-- what stands apart from one instance keeps the stepper -/
theorem StepAt.ins {CS CD C x p dx f : Addr} {fs : List (Str × V)} {H H' : Hp} (s : StepAt CS C H x f) (hp : H p = some (.ins CD dx fs)) (k : ∀ a u, H a = some u → a ≠ p → H' a = some u) (hx : x ≠ p) (hf : f ≠ p) : StepAt CS C H' x f := by
  obtain ⟨dx2, b, d, h1, h2, h3, h4⟩ := s
  refine ⟨dx2, b, d, k _ _ h1 hx, empty_ins hp h2 k, k _ _ h3 fun z => ?_, k _ _ h4 fun z => ?_⟩
  · rw [z, hp] at h3; cases h3
  · rw [z, hp] at h4; cases h4
section
variable {P : Program} {w : World} {K : PySem.W.Frag} {mg : Str → Option Value} {base : Heap} {CD CS C bT : Addr}
abbrev sSide : Stmt := inClass (top 44) 0
theorem scSide : FnScope ["self", "font", "letters", "stepper", "ahead", "state"] ["self", "font", "letters"] (defScope sSide) := ⟨rfl, rfl, rfl, by decide +kernel, rfl, by decide +kernel, by decide +kernel⟩
theorem ok_side0 {f fS fF : Addr} {fd fdS fdF : FuncData} (F : Fun K "__init__" "Side.__init__" sSide f fd) (T : TxD K mg CD bT) (TS : TxS K CS) (MS : Mk K CS fS) (mgS : mg "Stepper" = some (.ref CS)) (GS : FnOk P w K mg base CX0 6 fS fdS ["self", "font"] (spStp0 CS C)) (bS : Binds K fdS ["self", "font"] [])
    (mF : Meth K CS "finish" fF) (GF : FnOk P w K mg base CX0 2 fF fdF ["self", "state"] (spFin0 K CS C)) (bF : Binds K fdF ["self", "state"] []) : FnOk P w K mg base CX0 8 f fd ["self", "font", "letters"] (spSide0 P w K CD C) := by
  refine F.ok scSide (fun vs H Q E h => by obtain ⟨p, dx, fo, l, rfl, _⟩ := h; rfl) (fun cdv A outer s H vs Q E hr h => ?_)
  obtain ⟨p, dx, fo, l, rfl, hp, em, hf, hl, k⟩ := h
  have nd := scSide.nd
  have hu := hu_of hr
  have hr2 : Room 2 _ := hr.mono (j := 2) (by decide)
  refine ⟨_, pss_cons (ps_set (i := 3) nd rfl (Or.inr rfl) (pe_make MS GS hr (by rfl) mgS bS .nil pass0 (pa_cons (pv 1) pa_nil)))
    (pss_cons (ps_fld (pv 0) pe_dnewT rfl) (pss_cons (ps_fld (pv 0) pe_dnewT rfl)
    (pss_cons (ps_set (i := 4) nd rfl (Or.inl rfl) (pe_lst (pa_cons (pe_glob (v := .ref bT) (by rfl) T.mT rfl) pa_nil)))
    (pss_one (ps_while PassesOwn.never (pt_cmpR op_gt (pe_callB call_len_seq (by rfl) T.mL PySem.boot_len (pa_cons (pv 4) pa_nil)) pe_int (nomark _))
      (pss_cons (ps_set (i := 5) nd rfl (Or.inr rfl) (pe_bm0 PySem.F.plainAttrs_list PySem.F.slot_list_pop PySem.F.type_list_pop mt_pop (pv 4)))
      (pss_one (ps_if (pt_cmp (pc_notin0 hu (pv 5) (pe_fld (pv 0) rfl)))
        (pss_cons (ps_put1 hu (pe_fld (pv 0) rfl) (pv 5) (pe_dc (own := []) (g := fun _ _ _ _ => False) (tt := fun _ _ _ => False) (tk := fun _ _ _ => False) (tv := fun _ _ _ => False) rfl nd (pi_list (pv 2)) (blkOk_by (N := ["self", "font", "letters", "stepper", "ahead", "state"]) (sc := defScope sSide) (by decide +kernel))
          (fun _ _ _ _ _ => pg_no) (fun _ _ _ _ _ => pts_no) (fun _ _ _ _ _ => pe_no) (fun _ _ _ _ _ => pe_no)) rfl)
        (pss_cons (ps_put1 hu (pe_fld (pv 0) rfl) (pv 5) (pe_ix ix_tup (pe_meth (pv 3) TS.cl mF GF hr2 bF .nil pass0 (pa_cons (pv 5) pa_nil)) pe_int (fun _ _ => rfl)) rfl)
        (pss_one (ps_expr (pe_bm PySem.F.plainAttrs_list PySem.F.slot_list_extend PySem.F.type_list_extend mt_extend (pv 4) (pa_cons (pe_lock (pe_lc (own := []) (g := fun _ _ _ _ => False) (tt := fun _ _ _ => False) (te := fun _ _ _ => False) rfl nd
          (pi_values (pe_get1 hu (pe_fld (pv 0) rfl) (pv 5) (fun _ _ => rfl))) (blkOk_by (N := ["self", "font", "letters", "stepper", "ahead", "state"]) (sc := defScope sSide) (by decide +kernel)) (fun _ _ _ _ _ => pg_no) (fun _ _ _ _ _ => pts_no) (fun _ _ _ _ _ => pe_no))) pa_nil)))))) pss_nil)))))))), ?_⟩
  -- stepper
  refine ⟨_, rfl, fun x dx2 hx hdx ne => ⟨x, dx2, fo, rfl, upd_same, ?_, ?_, fun H1 k1 SA => ⟨rfl, ?_⟩⟩⟩
  · exact em.sm ((same_upd hdx).trans (same_upd (by rw [upd_ne (Ne.symm ne)]; exact hx)))
  · obtain ⟨o, FA⟩ := em
    exact ne_of_none FA.ob hx
  have B1 : ∀ a u, H a = some u → H1 a = some u := fun a u e => k1 a u (by rw [upd_ne (ne_of_none e hx), upd_ne (ne_of_none e hdx)]; exact e) (ne_of_none e hx)
  have xp : x ≠ p := Ne.symm (ne_of_none hp hx)
  -- the two dicts
  refine fun st hst => ⟨_, rfl, p, CD, dx, _, rfl, same_upd hst _ _ (B1 _ _ hp), T.cl, T.nS, (by show 0 < 1000; decide), ?_⟩
  have stp : st ≠ p := Ne.symm (ne_of_none (B1 _ _ hp) hst)
  generalize e3 : upd (upd H1 st (.dT [])) p (.ins CD dx (putF "_steps" (.ref st) [])) = H3
  have p3 : H3 p = some (.ins CD dx (putF "_steps" (.ref st) [])) := by rw [← e3]; exact upd_same
  have st3 : H3 st = some (.dT []) := by rw [← e3, upd_ne stp]; exact upd_same
  have B3 : ∀ a u, H1 a = some u → a ≠ p → H3 a = some u := fun a u e n => by rw [← e3, upd_ne n]; exact same_upd hst _ _ e
  refine fun en hen => ⟨_, rfl, p, CD, dx, _, rfl, same_upd hen _ _ p3, T.cl, T.nE, (by show 1 < 1000; decide), ?_⟩
  have enp : en ≠ p := Ne.symm (ne_of_none p3 hen)
  have sten : st ≠ en := ne_of_none st3 hen
  generalize e5 : upd (upd H3 en (.dT [])) p (.ins CD dx (putF "_ends" (.ref en) (putF "_steps" (.ref st) []))) = H5
  have p5 : H5 p = some (.ins CD dx (sdf st en)) := by rw [← e5]; exact upd_same
  have st5 : H5 st = some (.dT []) := by rw [← e5, upd_ne stp]; exact same_upd hen _ _ st3
  have en5 : H5 en = some (.dT []) := by rw [← e5, upd_ne enp]; exact upd_same
  have B5 : ∀ a u, H1 a = some u → a ≠ p → H5 a = some u := fun a u e n => by rw [← e5, upd_ne n]; exact same_upd hen _ _ (B3 _ _ e n)
  have nst : ∀ a u, H1 a = some u → a ≠ st := fun a u e => ne_of_none e hst
  have nen : ∀ a u, H1 a = some u → a ≠ p → a ≠ en := fun a u e n => ne_of_none (B3 _ _ e n) hen
  -- the list
  refine ⟨by show 1 ≤ sizeLine; rw [sizeLine_eq]; decide, fun a ha => ?_⟩
  have pa : p ≠ a := ne_of_none p5 ha
  have sta : st ≠ a := ne_of_none st5 ha
  have ena : en ≠ a := ne_of_none en5 ha
  have na : ∀ b u, H1 b = some u → b ≠ p → b ≠ a := fun b u e n => ne_of_none (B5 _ _ e n) ha
  generalize e6 : upd H5 a (.lst [.ref bT]) = H6
  have s56 : Same H5 H6 := e6 ▸ same_upd ha
  have a6 : H6 a = some (.lst [.ref bT]) := by rw [← e6]; exact upd_same
  refine ⟨fun m σ' H' => (m = 1 ∧ σ' = [some (.ref p), some (.ref fo), some (.ref l), some (.ref x), some (.ref a), none] ∧ H' = H6) ∨
    (m = 0 ∧ σ' = [some (.ref p), some (.ref fo), some (.ref l), some (.ref x), some (.ref a), some (.ref bT)] ∧ H' a = some (.lst []) ∧ (∀ b u, H b = some u → b ≠ p → H' b = some u) ∧ SideAt P w K CD H' p), ⟨1, .inl ⟨rfl, rfl, rfl⟩⟩, ?_⟩
  rintro m σ' H' (⟨rfl, rfl, rfl⟩ | ⟨rfl, rfl, ha0, kp, sd⟩)
  rotate_left
  · -- nothing is left
    refine ⟨_, rfl, a, _, rfl, .inl (SqL.of ha0), _, _, rfl, rfl, _, rfl, ?_⟩
    exact iteF (k _ kp sd)
  refine ⟨_, rfl, a, _, rfl, .inl (SqL.of a6), _, _, rfl, rfl, _, rfl, ?_⟩
  refine iteT ⟨fun σ' H' => σ' = [some (.ref p), some (.ref fo), some (.ref l), some (.ref x), some (.ref a), some (.ref bT)] ∧ H' a = some (.lst []) ∧ (∀ b u, H b = some u → b ≠ p → H' b = some u) ∧ SideAt P w K CD H' p, fun σ' H' z => ⟨0, by decide, .inr ⟨rfl, z⟩⟩, ?_⟩
  -- state
  refine ⟨_, rfl, .inl ⟨rfl, _, SqL.of a6⟩, a, _, .ref bT, rfl, rfl, a6, rfl, ?_⟩
  generalize e7 : upd H' a (.lst (List.dropLast [V.ref bT])) = H7
  have a7 : H7 a = some (.lst []) := by rw [← e7]; exact upd_same
  have N7 : ∀ b u, H5 b = some u → b ≠ a → H7 b = some u := fun b u e n => by rw [← e7, upd_ne n]; exact s56 _ _ e
  refine ⟨_, rfl, _, rfl, p, CD, dx, _, _, rfl, N7 _ _ p5 pa, T.cl, T.nS, sdf_steps _ _, st, bT, K2, rfl, rfl, N7 _ _ st5 sta, T.sT _, true, rfl, iteT ?_⟩
  -- the steps
  have lp : l ≠ p := fun z => by rw [z, hp] at hl; cases hl
  have hl7 : H7 l = some (.lst []) := N7 _ _ (B5 _ _ (B1 _ _ hl) lp) (na _ _ (B1 _ _ hl) lp)
  refine ⟨_, rfl, l, rfl, ⟨_, SqL.of hl7⟩, fun D hD => dc_none (K := K) (g := fun _ _ _ _ => False) (tt := fun _ _ _ => False) (tk := fun _ _ _ => False) (tv := fun _ _ _ => False) (vs := []) (σ := [some (.ref p), some (.ref fo), some (.ref l), some (.ref x), some (.ref a), some (.ref bT)]) hl7 hD ?_⟩
  have s78 : Same H7 (upd H7 D (.dK [])) := same_upd hD
  refine ⟨_, rfl, p, CD, dx, _, _, rfl, s78 _ _ (N7 _ _ p5 pa), T.cl, T.nS, sdf_steps _ _, _, rfl, st, bT, K2, rfl, rfl, s78 _ _ (N7 _ _ st5 sta), T.sT _, ?_⟩
  have Dst : D ≠ st := Ne.symm (ne_of_none (N7 _ _ st5 sta) hD)
  let H9 : Hp := upd (upd H7 D (.dK [])) st (oneO P w st bT K2 (.ref D))
  have N9 : ∀ b u, H7 b = some u → b ≠ st → H9 b = some u := fun b u e n => (upd_ne n).trans (s78 _ _ e)
  have st9 : H9 st = some (oneO P w st bT K2 (.ref D)) := upd_same
  have D9 : H9 D = some (.dK []) := (upd_ne Dst).trans upd_same
  have p9 := N9 _ _ (N7 _ _ p5 pa) (Ne.symm stp)
  have en9 := N9 _ _ (N7 _ _ en5 ena) (Ne.symm sten)
  -- the end
  have fp1 : H1 p = some (.ins CD dx []) := B1 _ _ hp
  have SA9 : StepAt CS C H9 x fo := SA.ins fp1 (fun b u e n => N9 _ _ (N7 _ _ (B5 _ _ e n) (na _ _ e n)) (nst _ _ e)) xp hf
  obtain ⟨dx3, b3, d3, hx9, _⟩ := id SA9
  refine ⟨_, rfl, x, dx3, _, rfl, hx9, ?_, _, rfl, x, bT, fo, rfl, SA9, T.sT _, fun H10 t D2 s910 ht => ?_⟩
  · show (stf fo b3 d3).lookup ("finish" : Str) = none
    unfold stf
    rw [lookup_putF, if_neg (by decide +kernel), lookup_putF, if_neg (by decide +kernel), lookup_putF, if_neg (by decide +kernel)]
    rfl
  refine ⟨t, _, _, _, rfl, rfl, SqT.of ht, atI_nat (xs := [V.ref D2, V.int 0]) (j := 1) (v := .int 0) rfl, ?_⟩
  refine ⟨_, rfl, p, CD, dx, _, _, rfl, s910 _ _ p9, T.cl, T.nE, sdf_ends _ _, _, rfl, en, bT, K2, rfl, rfl, s910 _ _ en9, T.sT _, ?_⟩
  let H11 : Hp := upd H10 en (oneO P w en bT K2 (.int 0))
  have N11 : ∀ b u, H9 b = some u → b ≠ en → H11 b = some u := fun b u e n => (upd_ne n).trans (s910 _ _ e)
  have en11 : H11 en = some (oneO P w en bT K2 (.int 0)) := upd_same
  have Den : D ≠ en := fun z => by rw [z, en9] at D9; cases D9
  have D11 := N11 _ _ D9 Den
  have p11 := N11 _ _ p9 (Ne.symm enp)
  have st11 := N11 _ _ st9 sten
  have a11 : H11 a = some (.lst []) := N11 _ _ (N9 _ _ a7 (Ne.symm sta)) (Ne.symm ena)
  -- nothing more is ahead
  refine ⟨_, rfl, .inl ⟨rfl, _, SqL.of a11⟩, D, .dK [], D11, trivial, fun od => ?_⟩
  have pD : p ≠ D := fun z => by rw [z, D11] at p11; cases p11
  have stD : st ≠ D := Ne.symm Dst
  have aD : a ≠ D := fun z => by rw [z, D11] at a11; cases a11
  let H12 : Hp := upd H11 D (.frz od (.dK []))
  have N12 : ∀ b u, H11 b = some u → b ≠ D → H12 b = some u := fun b u e n => (upd_ne n).trans e
  have D12 : H12 D = some (.frz od (.dK [])) := upd_same
  refine ⟨_, rfl, p, CD, dx, _, _, rfl, N12 _ _ p11 pD, T.cl, T.nS, sdf_steps _ _, _, rfl, st, bT, bT, K2, .ref D, rfl, rfl, N12 _ _ st11 stD, T.sT _, T.sT _, D, od, [], rfl, D12, fun L hL => lc_stop (J := Itd D od []) (g := fun _ _ _ _ => False) (tt := fun _ _ _ => False) (te := fun _ _ _ => False) (vs := []) (σ := [some (.ref p), some (.ref fo), some (.ref l), some (.ref x), some (.ref a), some (.ref bT)]) ⟨(upd_ne (ne_of_none D12 hL)).trans D12, Nat.le_refl _⟩ ?_⟩
  have DL : D ≠ L := ne_of_none D12 hL
  refine ⟨(upd_ne DL).trans D12, ?_⟩
  let H13 : Hp := upd (upd H12 L (.lst [])) D (.dK [])
  have N13 : ∀ b u, H11 b = some u → b ≠ D → H13 b = some u := fun b u e n => (upd_ne n).trans (same_upd hL _ _ (N12 _ _ e n))
  have L13 : H13 L = some (.lst []) := (upd_ne (Ne.symm DL)).trans upd_same
  refine ⟨a, L, [], [], rfl, rfl, N13 _ _ a11 aD, L13, by show 0 ≤ sizeLine; rw [sizeLine_eq]; decide, ?_⟩
  have enD : en ≠ D := Ne.symm Den
  have fin : ∀ b u, H13 b = some u → b ≠ a → (upd H13 a (.lst ([] ++ []))) b = some u := fun b u e n => (upd_ne n).trans e
  refine ⟨rfl, upd_same, fun b u e n => ?_, dx, st, en, bT, fin _ _ (N13 _ _ p11 pD) pa, fin _ _ (N13 _ _ en11 enD) ena, T.sT _⟩
  have b1 := B1 _ _ e
  have b7 := N7 _ _ (B5 _ _ b1 n) (na _ _ b1 n)
  have bD : b ≠ D := ne_of_none b7 hD
  exact fin _ _ (N13 _ _ (N11 _ _ (N9 _ _ b7 (nst _ _ b1)) (nen _ _ b1 n)) bD) (na _ _ b1 n)
end
/-! ### Joined of two fonts without glyphs -/
theorem SideAt.keep {P : Program} {w : World} {K : PySem.W.Frag} {CD p : Addr} {H H' : Hp} (k : ∀ b u, H b = some u → (∀ xs, u ≠ .lst xs) → H' b = some u) : SideAt P w K CD H p → SideAt P w K CD H' p := by
  rintro ⟨dx, st, en, b, h1, h2, h3⟩
  refine ⟨dx, st, en, b, k _ _ h1 (fun _ z => nomatch z), k _ _ h2 (fun _ z => nomatch z), ?_⟩
  rcases h3 with (h3 | ⟨o, h3⟩) | h3
  · exact .inl (.inl (k _ _ h3 (fun _ z => nomatch z)))
  · exact .inl (.inr ⟨o, k _ _ h3 (fun _ z => nomatch z)⟩)
  · exact .inr h3
def spSFin (P : Program) (w : World) (K : PySem.W.Frag) (CD : Addr) : Sp := fun vs H Q _ => ∃ p c : Addr, vs = [.ref p, .ref c] ∧ SideAt P w K CD H p ∧ SqT K H c [.str "", .str ""] ∧ Q (.int 0) H
structure TxJ2 (K : PySem.W.Frag) (CJ : Addr) : Prop extends TxJ K CJ where
  nL : NoAttr K CJ "_letters"
  nT : NoAttr K CJ "_steps"
  nE : NoAttr K CJ "_ends"
def jf (l s n g t e : Addr) : List (Str × V) := putF "_ends" (.ref e) (putF "_steps" (.ref t) (putF "_origins" (.ref g) (putF "_numbers" (.ref n) (putF "_states" (.ref s) (putF "_letters" (.ref l) [])))))
theorem jf_e (l s n g t e : Addr) : (jf l s n g t e).lookup ("_ends" : Str) = some (.ref e) := by
  unfold jf
  rw [lookup_putF, if_pos rfl]
theorem jf_t (l s n g t e : Addr) : (jf l s n g t e).lookup ("_steps" : Str) = some (.ref t) := by
  unfold jf
  rw [lookup_putF, if_neg (by decide +kernel), lookup_putF, if_pos rfl]
theorem jf_g (l s n g t e : Addr) : (jf l s n g t e).lookup ("_origins" : Str) = some (.ref g) := by
  unfold jf
  rw [lookup_putF, if_neg (by decide +kernel), lookup_putF, if_neg (by decide +kernel), lookup_putF, if_pos rfl]
theorem jf_n (l s n g t e : Addr) : (jf l s n g t e).lookup ("_numbers" : Str) = some (.ref n) := by
  unfold jf
  rw [lookup_putF, if_neg (by decide +kernel), lookup_putF, if_neg (by decide +kernel), lookup_putF, if_neg (by decide +kernel), lookup_putF, if_pos rfl]
theorem jf_s (l s n g t e : Addr) : (jf l s n g t e).lookup ("_states" : Str) = some (.ref s) := by
  unfold jf
  rw [lookup_putF, if_neg (by decide +kernel), lookup_putF, if_neg (by decide +kernel), lookup_putF, if_neg (by decide +kernel), lookup_putF, if_neg (by decide +kernel), lookup_putF, if_pos rfl]
theorem jf_l (l s n g t e : Addr) : (jf l s n g t e).lookup ("_letters" : Str) = some (.ref l) := by
  unfold jf
  rw [lookup_putF, if_neg (by decide +kernel), lookup_putF, if_neg (by decide +kernel), lookup_putF, if_neg (by decide +kernel), lookup_putF, if_neg (by decide +kernel), lookup_putF, if_neg (by decide +kernel), lookup_putF, if_pos rfl]
theorem jf_no_number_of (l s n g t e : Addr) : (jf l s n g t e).lookup ("_number_of" : Str) = none := by
  unfold jf
  rw [lookup_putF, if_neg (by decide +kernel), lookup_putF, if_neg (by decide +kernel), lookup_putF, if_neg (by decide +kernel), lookup_putF, if_neg (by decide +kernel), lookup_putF, if_neg (by decide +kernel), lookup_putF, if_neg (by decide +kernel)]
  rfl
theorem jf_no_explore (l s n g t e : Addr) : (jf l s n g t e).lookup ("_explore" : Str) = none := by
  unfold jf
  rw [lookup_putF, if_neg (by decide +kernel), lookup_putF, if_neg (by decide +kernel), lookup_putF, if_neg (by decide +kernel), lookup_putF, if_neg (by decide +kernel), lookup_putF, if_neg (by decide +kernel), lookup_putF, if_neg (by decide +kernel)]
  rfl
def spExpl0 (P : Program) (w : World) (K : PySem.W.Frag) (CJ CD : Addr) : Sp := fun vs H Q _ => ∃ p dx a b l s n g t e q : Addr, vs = [.ref p, .ref a, .ref b] ∧ H p = some (.ins CJ dx (jf l s n g t e)) ∧ H t = some (.lst []) ∧ H s = some (.lst [.ref q]) ∧ H q = some (.tup [.str "", .str "", .str "", .str ""]) ∧
  H l = some (.lst []) ∧ H e = some (.lst []) ∧ t ≠ e ∧ t ≠ l ∧ e ≠ l ∧ SideAt P w K CD H a ∧ SideAt P w K CD H b ∧ ∀ H', H' p = some (.ins CJ dx (jf l s n g t e)) → H' l = some (.lst []) → Q .non H'
/-- what worst_rate asks of it -/
def JoinAt (CJ : Addr) (H : Hp) (p : Addr) : Prop := ∃ (dx l : Addr) (fs : List (Str × V)), H p = some (.ins CJ dx fs) ∧ fs.lookup ("_letters" : Str) = some (.ref l) ∧ H l = some (.lst [])
section
variable {P : Program} {w : World} {K : PySem.W.Frag} {mg : Str → Option Value} {base : Heap} {CJ CD CS C bT : Addr}
abbrev sSFin : Stmt := inClass (top 44) 2
theorem scSFin : FnScope ["self", "state"] ["self", "state"] (defScope sSFin) := ⟨rfl, rfl, rfl, by decide +kernel, rfl, by decide +kernel, by decide +kernel⟩
theorem ok_sfin {f : Addr} {fd : FuncData} (F : Fun K "finish" "Side.finish" sSFin f fd) (T : TxD K mg CD bT) : FnOk P w K mg base CX0 1 f fd ["self", "state"] (spSFin P w K CD) := by
  refine F.ok scSFin (fun vs H Q E h => by obtain ⟨p, c, rfl, _⟩ := h; rfl) (fun cdv A outer s H vs Q E hr h => ?_)
  obtain ⟨p, c, rfl, ⟨dx, st, en, b, h1, h2, h3⟩, hc, k⟩ := h
  refine ⟨_, pss_one (ps_ret (pe_get1 (hu_of hr) (pe_fld (pv 0) rfl) (pv 1) (fun _ _ => rfl))), ?_⟩
  exact ⟨_, rfl, p, CD, dx, _, _, rfl, h1, T.cl, T.nE, sdf_ends _ _, _, rfl, en, b, c, K2, .int 0, rfl, rfl, h2, h3, hc, k⟩
abbrev sExpl : Stmt := inClass (top 43) 11
theorem scExpl : FnScope ["self", "first", "second", "number", "state", "first_state", "second_state", "steps", "letter", "first_after", "first_width", "second_after", "second_width", "after"] ["self", "first", "second"] (defScope sExpl) := ⟨rfl, rfl, rfl, by decide +kernel, rfl, by decide +kernel, by decide +kernel⟩
theorem ok_expl {f fF : Addr} {fd fdF : FuncData} (F : Fun K "_explore" "Joined._explore" sExpl f fd) (T : TxJ2 K CJ) (TD : TxD K mg CD bT) (mF : Meth K CD "finish" fF) (GF : FnOk P w K mg base CX0 1 fF fdF ["self", "state"] (spSFin P w K CD)) (bF : Binds K fdF ["self", "state"] []) :
    FnOk P w K mg base CX0 2 f fd ["self", "first", "second"] (spExpl0 P w K CJ CD) := by
  refine F.ok scExpl (fun vs H Q E h => by obtain ⟨p, dx, a, b, l, s, n, g, t, e, q, rfl, _⟩ := h; rfl) (fun cdv A outer s0 H vs Q E hr h => ?_)
  obtain ⟨p, dx, a, b, l, s, n, g, t, e, q, rfl, hp, ht, hs, hq, hl, he, te, tl, el, sa, sb, k⟩ := h
  have nd := scExpl.nd
  refine ⟨_, pss_one (ps_while PassesOwn.never (pt_cmpR op_lt (pe_callB call_len_seq (by rfl) TD.mL PySem.boot_len (pa_cons (pe_fld (pv 0) rfl) pa_nil)) (pe_callB call_len_seq (by rfl) TD.mL PySem.boot_len (pa_cons (pe_fld (pv 0) rfl) pa_nil)) (nomark _))
    (pss_cons (ps_set (i := 3) nd rfl (Or.inl rfl) (pe_callB call_len_seq (by rfl) TD.mL PySem.boot_len (pa_cons (pe_fld (pv 0) rfl) pa_nil)))
    (pss_cons (ps_set (i := 4) nd rfl (Or.inl rfl) (pe_ix ix_list (pe_fld (pv 0) rfl) (pv 3) (fun _ _ => rfl)))
    (pss_cons (ps_set (i := 5) nd rfl (Or.inl rfl) (pe_slice sl_tup (pv 4) po_none (po_some pe_int)))
    (pss_cons (ps_set (i := 6) nd rfl (Or.inl rfl) (pe_slice sl_tup (pv 4) (po_some pe_int) po_none))
    (pss_cons (ps_set (i := 7) nd rfl (Or.inl rfl) pe_dnewK)
    (pss_cons (ps_for PassesOwn.never rfl (pi_list (pe_fld (pv 0) rfl)) (pg_name (i := 8) nd rfl (Or.inl rfl)) pss_no)
    (pss_cons (ps_expr (pe_bm PySem.F.plainAttrs_list PySem.F.slot_list_append PySem.F.type_list_append mt_append (pe_fld (pv 0) rfl) (pa_cons (pv 7) pa_nil)))
    (pss_one (ps_expr (pe_bm PySem.F.plainAttrs_list PySem.F.slot_list_append PySem.F.type_list_append mt_append (pe_fld (pv 0) rfl) (pa_cons (pe_tup (pa_cons (pe_meth (pv 1) TD.cl mF GF hr bF .nil pass0 (pa_cons (pv 5) pa_nil)) (pa_cons (pe_meth (pv 2) TD.cl mF GF hr bF .nil pass0 (pa_cons (pv 6) pa_nil)) pa_nil))) pa_nil)))))))))))), ?_⟩
  have ts : t ≠ s := ne_of ht hs (by intro z; cases z)
  have es : e ≠ s := ne_of he hs (by intro z; cases z)
  have pt : p ≠ t := ne_of hp ht (by intro z; cases z)
  have pe : p ≠ e := ne_of hp he (by intro z; cases z)
  refine ⟨fun m σ H' => (m = 1 ∧ σ = [some (.ref p), some (.ref a), some (.ref b), none, none, none, none, none, none, none, none, none, none, none] ∧ H' = H) ∨
    (m = 0 ∧ ∃ σr d, σ = some (.ref p) :: σr ∧ H' p = some (.ins CJ dx (jf l s n g t e)) ∧ H' t = some (.lst [.ref d]) ∧ H' s = some (.lst [.ref q]) ∧ H' l = some (.lst [])), ⟨1, .inl ⟨rfl, rfl, rfl⟩⟩, ?_⟩
  rintro m σ H' (⟨rfl, rfl, rfl⟩ | ⟨rfl, σr, d, rfl, hp', ht', hs', hl'⟩)
  rotate_left
  · refine ⟨_, rfl, p, CJ, dx, _, _, rfl, hp', T.cl, T.nT, jf_t _ _ _ _ _ _, t, _, rfl, .inl (SqL.of ht'), ?_⟩
    refine ⟨_, rfl, p, CJ, dx, _, _, rfl, hp', T.cl, T.nS, jf_s _ _ _ _ _ _, s, _, rfl, .inl (SqL.of hs'), _, _, rfl, rfl, _, rfl, ?_⟩
    exact iteF (k _ hp' hl')
  refine ⟨_, rfl, p, CJ, dx, _, _, rfl, hp, T.cl, T.nT, jf_t _ _ _ _ _ _, t, _, rfl, .inl (SqL.of ht), ?_⟩
  refine ⟨_, rfl, p, CJ, dx, _, _, rfl, hp, T.cl, T.nS, jf_s _ _ _ _ _ _, s, _, rfl, .inl (SqL.of hs), _, _, rfl, rfl, _, rfl, ?_⟩
  refine iteT ⟨fun σ H' => ∃ σr d, σ = some (.ref p) :: σr ∧ H' p = some (.ins CJ dx (jf l s n g t e)) ∧ H' t = some (.lst [.ref d]) ∧ H' s = some (.lst [.ref q]) ∧ H' l = some (.lst []), fun σ H' z => ⟨0, by decide, .inr ⟨rfl, z⟩⟩, ?_⟩
  refine ⟨_, rfl, p, CJ, dx, _, _, rfl, hp, T.cl, T.nT, jf_t _ _ _ _ _ _, t, _, rfl, .inl (SqL.of ht), ?_⟩
  refine ⟨_, rfl, p, CJ, dx, _, _, rfl, hp, T.cl, T.nS, jf_s _ _ _ _ _ _, _, rfl, s, _, _, _, rfl, rfl, SqL.of hs, atI_nat (xs := [V.ref q]) (j := 0) (v := .ref q) rfl, ?_⟩
  refine ⟨_, rfl, 2, rfl, q, _, rfl, SqT.of hq, by decide, fun r5 h5 => ?_⟩
  have s1 := same_upd (o := .tup (cutV [V.str "", .str "", .str "", .str ""] none (some 2))) h5
  refine ⟨_, rfl, 2, rfl, q, _, rfl, SqT.of (s1 _ _ hq), by decide, fun r6 h6 => ?_⟩
  have s2 := s1.trans (same_upd (o := .tup (cutV [V.str "", .str "", .str "", .str ""] (some 2) none)) h6)
  refine fun d7 h7 => ?_
  have s3 := s2.trans (same_upd (o := .dK []) h7)
  have c5 : cutV [V.str "", .str "", .str "", .str ""] none (some 2) = [V.str "", .str ""] := by decide
  have c6 : cutV [V.str "", .str "", .str "", .str ""] (some 2) none = [V.str "", .str ""] := by decide
  generalize e3 : upd (upd (upd H' r5 (.tup (cutV [V.str "", .str "", .str "", .str ""] none (some 2)))) r6 (.tup (cutV [V.str "", .str "", .str "", .str ""] (some 2) none))) d7 (.dK []) = H3 at s3
  have r5at : H3 r5 = some (.tup [.str "", .str ""]) := by
    rw [← e3, ← c5]
    exact same_upd h7 _ _ (same_upd h6 _ _ upd_same)
  have r6at : H3 r6 = some (.tup [.str "", .str ""]) := by
    rw [← e3, ← c6]
    exact same_upd h7 _ _ upd_same
  refine ⟨_, rfl, p, CJ, dx, _, _, rfl, s3 _ _ hp, T.cl, T.nL, jf_l _ _ _ _ _ _, l, rfl, ⟨_, SqL.of (s3 _ _ hl)⟩, for_list (K := K) (a := l) (xs := []) (g := gName 8) (tb := fun _ _ _ => False)
    (fun i σ H' => σ = [some (.ref p), some (.ref a), some (.ref b), some (.int 0), some (.ref q), some (.ref r5), some (.ref r6), some (.ref d7), none, none, none, none, none, none] ∧ H' = H3) ⟨rfl, rfl⟩ (fun i σ H' _ ⟨_, z⟩ => by rw [z]; exact SqL.of (s3 _ _ hl)) (fun i x σ H' hi => by simp at hi) ?_⟩
  rintro σ H0 ⟨rfl, rfl⟩
  have t3 := s3 _ _ ht
  refine ⟨_, rfl, p, CJ, dx, _, _, rfl, s3 _ _ hp, T.cl, T.nT, jf_t _ _ _ _ _ _, .inl ⟨rfl, _, SqL.of t3⟩, _, rfl, t, _, _, rfl, rfl, t3, by show 0 < sizeLine; rw [sizeLine_eq]; decide, ?_⟩
  have N4 : ∀ c u, H0 c = some u → (∀ xs, u ≠ .lst xs) → (upd H0 t (.lst ([] ++ [V.ref d7]))) c = some u := fun c u ec nl => (upd_ne (fun z => by rw [z, t3] at ec; cases ec; exact nl _ rfl)).trans ec
  have a4 := (sa.keep (fun c u ec _ => s3 _ _ ec)).keep N4
  have b4 := (sb.keep (fun c u ec _ => s3 _ _ ec)).keep N4
  obtain ⟨dxa, sta, ena, ba, pa, _⟩ := id a4
  obtain ⟨dxb, stb, enb, bb, pb, _⟩ := id b4
  have nof : ∀ st en : Addr, (sdf st en).lookup ("finish" : Str) = none := fun st en => by
    unfold sdf
    rw [lookup_putF, if_neg (by decide +kernel), lookup_putF, if_neg (by decide +kernel)]
    rfl
  have e4 : (upd H0 t (.lst ([] ++ [V.ref d7]))) e = some (.lst []) := (upd_ne (Ne.symm te)).trans (s3 _ _ he)
  refine ⟨_, rfl, p, CJ, dx, _, _, rfl, N4 _ _ (s3 _ _ hp) (fun _ z => nomatch z), T.cl, T.nE, jf_e _ _ _ _ _ _, .inl ⟨rfl, _, SqL.of e4⟩, ?_⟩
  refine ⟨_, rfl, a, dxa, _, rfl, pa, nof _ _, _, rfl, a, r5, rfl, a4, SqT.of (N4 _ _ r5at (fun _ z => nomatch z)), ?_⟩
  refine ⟨_, rfl, b, dxb, _, rfl, pb, nof _ _, _, rfl, b, r6, rfl, b4, SqT.of (N4 _ _ r6at (fun _ z => nomatch z)), by show 2 ≤ sizeLine; rw [sizeLine_eq]; decide, fun r8 h8 => ?_⟩
  have s5 := same_upd (o := .tup [.int 0, .int 0]) h8
  refine ⟨e, _, _, rfl, rfl, s5 _ _ e4, by show 0 < sizeLine; rw [sizeLine_eq]; decide, ?_⟩
  refine ⟨_, d7, rfl, ?_, ?_, ?_, ?_⟩
  · exact (upd_ne pe).trans (s5 _ _ (N4 _ _ (s3 _ _ hp) (fun _ z => nomatch z)))
  · exact (upd_ne te).trans (s5 _ _ upd_same)
  · exact (upd_ne (Ne.symm es)).trans (s5 _ _ ((upd_ne (Ne.symm ts)).trans (s3 _ _ hs)))
  · exact (upd_ne (Ne.symm el)).trans (s5 _ _ ((upd_ne (Ne.symm tl)).trans (s3 _ _ hl)))
end
/-! ### Joined.__init__ of two fonts without glyphs; worst_rate of it -/
theorem empty_ne {C CJ p dx a : Addr} {H : Hp} (e : Empty C H a) (hp : H p = some (.ins CJ dx [])) : a ≠ p := fun z => by
  obtain ⟨o, FA⟩ := e
  have h := FA.ob
  rw [z, hp] at h
  have h2 := Option.some.inj h
  injection h2 with _ _ h3
  have b := fflds_blank o st0.blank
  rw [← h3] at b
  cases b
section
variable {P : Program} {w : World} {K : PySem.W.Frag} {mg : Str → Option Value} {base : Heap} {CJ CD CS C bT CN : Addr}
abbrev sJoin : Stmt := inClass (top 43) 0
theorem scJoin : FnScope ["self", "first", "second"] ["self", "first", "second"] (defScope sJoin) := ⟨rfl, rfl, rfl, by decide +kernel, rfl, by decide +kernel, by decide +kernel⟩
theorem ok_join0 {f fL pL fN fE fD : Addr} {fd fdL fdN fdE fdD : FuncData} (F : Fun K "__init__" "Joined.__init__" sJoin f fd) (T : TxJ2 K CJ) (TD : TxD K mg CD bT) (clF : Cls K C) (pl : PropOf K C "letters" pL fL) (GL : FnOk P w K mg base CX0 3 fL fdL ["self"] (spLett0 C)) (bL : Binds K fdL ["self"] [])
    (mN : Meth K CJ "_number_of" fN) (GN : FnOk P w K mg base CX0 1 fN fdN ["self", "state", "origin"] (spNum0 CJ)) (bN : Binds K fdN ["self", "state", "origin"] []) (mE : Meth K CJ "_explore" fE) (GE : FnOk P w K mg base CX0 2 fE fdE ["self", "first", "second"] (spExpl0 P w K CJ CD)) (bE : Binds K fdE ["self", "first", "second"] [])
    (MD : Mk K CD fD) (mgD : mg "Side" = some (.ref CD)) (GD : FnOk P w K mg base CX0 8 fD fdD ["self", "font", "letters"] (spSide0 P w K CD C)) (bD : Binds K fdD ["self", "font", "letters"] []) : FnOk P w K mg base CX0 10 f fd ["self", "first", "second"] (spJoin0 C CJ (JoinAt CJ)) := by
  refine F.ok scJoin (fun vs H Q E h => by obtain ⟨p, dx, a, b, rfl, _⟩ := h; rfl) (fun cdv A outer s0 H vs Q E hr h => ?_)
  obtain ⟨p, dx, a, b, rfl, hp, ea, eb, k⟩ := h
  have nd := scJoin.nd
  have hr4 : Room 4 _ := hr.mono (j := 4) (by decide)
  have hr2 : Room 2 _ := hr.mono (j := 2) (by decide)
  have hr1 : Room 1 _ := hr.mono (j := 1) (by decide)
  refine ⟨_, pss_cons (ps_fld (pv 0) (pe_lc (own := []) (g := fun _ _ _ _ => False) (tt := fun _ _ _ => False) (te := fun _ _ _ => False) rfl nd (pi_list (pe_prop (pv 1) clF pl GL hr4 bL .nil pass0 rfl)) (blkOk_by (N := ["self", "first", "second"]) (sc := defScope sJoin) (by decide +kernel))
      (fun _ _ _ _ _ => pg_no) (fun _ _ _ _ _ => pts_no) (fun _ _ _ _ _ => pe_no)) rfl)
    (pss_cons (ps_fld (pv 0) (pe_lst pa_nil) rfl) (pss_cons (ps_fld (pv 0) pe_dnewT rfl) (pss_cons (ps_fld (pv 0) (pe_lst pa_nil) rfl) (pss_cons (ps_fld (pv 0) (pe_lst pa_nil) rfl) (pss_cons (ps_fld (pv 0) (pe_lst pa_nil) rfl)
    (pss_cons (ps_expr (pe_meth (pv 0) T.cl mN GN hr1 bN .nil pass0 (pa_cons (pe_op op_catT (pe_glob (v := .ref bT) (by rfl) TD.mT rfl) (pe_glob (v := .ref bT) (by rfl) TD.mT rfl)) (pa_cons (pe_tup (pa_cons pe_int (pa_cons pe_str pa_nil))) pa_nil))))
    (pss_one (ps_expr (pe_meth (pv 0) T.cl mE GE hr2 bE .nil pass0 (pa_cons (pe_make MD GD hr (by rfl) mgD bD .nil pass0 (pa_cons (pv 1) (pa_cons (pe_fld (pv 0) rfl) pa_nil)))
      (pa_cons (pe_make MD GD hr (by rfl) mgD bD .nil pass0 (pa_cons (pv 2) (pa_cons (pe_fld (pv 0) rfl) pa_nil))) pa_nil))))))))))), ?_⟩
  obtain ⟨oa, FA⟩ := id ea
  refine ⟨_, rfl, a, oa.dx, _, rfl, FA.ob, a, rfl, ea, fun H1 D s1 nD hD => ⟨D, rfl, ⟨_, SqL.of hD⟩, fun l hl => lc_stop (J := Itl K D) (g := fun _ _ _ _ => False) (tt := fun _ _ _ => False) (te := fun _ _ _ => False) (vs := []) (σ := [some (.ref p), some (.ref a), some (.ref b)])
    ⟨[], SqL.of ((upd_ne (ne_of_none hD hl)).trans hD), Nat.le_refl _⟩ ?_⟩⟩
  have ap : a ≠ p := empty_ne ea hp
  have bp : b ≠ p := empty_ne eb hp
  have hp1 := s1 _ _ hp
  refine ⟨_, rfl, p, CJ, dx, _, rfl, same_upd hl _ _ hp1, T.cl, T.nL, (by show 0 < 1000; decide), ?_⟩
  have lp : l ≠ p := Ne.symm (ne_of_none hp1 hl)
  generalize eqn2 : upd (upd H1 l (.lst [])) p (.ins CJ dx (putF "_letters" (.ref l) [])) = H2
  have p2 : H2 p = some (.ins CJ dx (putF "_letters" (.ref l) [])) := by rw [← eqn2]; exact upd_same
  have l2 : H2 l = some (.lst []) := by rw [← eqn2, upd_ne lp]; exact upd_same
  have B2 : ∀ c u, H c = some u → c ≠ p → H2 c = some u := fun c u e n => by rw [← eqn2, upd_ne n]; exact same_upd hl _ _ (s1 _ _ e)
  refine ⟨by show 0 ≤ sizeLine; rw [sizeLine_eq]; decide, fun s hs => ⟨_, rfl, p, CJ, dx, _, rfl, same_upd hs _ _ p2, T.cl, T.nS, (by show 1 < 1000; decide), ?_⟩⟩
  have sp : s ≠ p := Ne.symm (ne_of_none p2 hs)
  generalize eqn3 : upd (upd H2 s (.lst [])) p (.ins CJ dx (putF "_states" (.ref s) (putF "_letters" (.ref l) []))) = H3
  have p3 : H3 p = some (.ins CJ dx (putF "_states" (.ref s) (putF "_letters" (.ref l) []))) := by rw [← eqn3]; exact upd_same
  have s3 : H3 s = some (.lst []) := by rw [← eqn3, upd_ne sp]; exact upd_same
  have N3 : ∀ c u, H2 c = some u → c ≠ p → H3 c = some u := fun c u z m => by rw [← eqn3, upd_ne m]; exact same_upd hs _ _ z
  have B3 : ∀ c u, H c = some u → c ≠ p → H3 c = some u := fun c u z m => N3 _ _ (B2 _ _ z m) m
  have l3 := N3 _ _ l2 lp
  have ls : l ≠ s := ne_of_none l2 hs
  refine fun n hn => ⟨_, rfl, p, CJ, dx, _, rfl, same_upd hn _ _ p3, T.cl, T.nN, (by show 2 < 1000; decide), ?_⟩
  have np : n ≠ p := Ne.symm (ne_of_none p3 hn)
  generalize eqn4 : upd (upd H3 n (.dT [])) p (.ins CJ dx (putF "_numbers" (.ref n) (putF "_states" (.ref s) (putF "_letters" (.ref l) [])))) = H4
  have p4 : H4 p = some (.ins CJ dx (putF "_numbers" (.ref n) (putF "_states" (.ref s) (putF "_letters" (.ref l) [])))) := by rw [← eqn4]; exact upd_same
  have n4 : H4 n = some (.dT []) := by rw [← eqn4, upd_ne np]; exact upd_same
  have N4 : ∀ c u, H3 c = some u → c ≠ p → H4 c = some u := fun c u z m => by rw [← eqn4, upd_ne m]; exact same_upd hn _ _ z
  have B4 : ∀ c u, H c = some u → c ≠ p → H4 c = some u := fun c u z m => N4 _ _ (B3 _ _ z m) m
  have l4 := N4 _ _ l3 lp
  have ln : l ≠ n := ne_of_none l3 hn
  have s4 := N4 _ _ s3 sp
  have sn : s ≠ n := ne_of_none s3 hn
  refine ⟨by show 0 ≤ sizeLine; rw [sizeLine_eq]; decide, fun g hg => ⟨_, rfl, p, CJ, dx, _, rfl, same_upd hg _ _ p4, T.cl, T.nO, (by show 3 < 1000; decide), ?_⟩⟩
  have gp : g ≠ p := Ne.symm (ne_of_none p4 hg)
  generalize eqn5 : upd (upd H4 g (.lst [])) p (.ins CJ dx (putF "_origins" (.ref g) (putF "_numbers" (.ref n) (putF "_states" (.ref s) (putF "_letters" (.ref l) []))))) = H5
  have p5 : H5 p = some (.ins CJ dx (putF "_origins" (.ref g) (putF "_numbers" (.ref n) (putF "_states" (.ref s) (putF "_letters" (.ref l) []))))) := by rw [← eqn5]; exact upd_same
  have g5 : H5 g = some (.lst []) := by rw [← eqn5, upd_ne gp]; exact upd_same
  have N5 : ∀ c u, H4 c = some u → c ≠ p → H5 c = some u := fun c u z m => by rw [← eqn5, upd_ne m]; exact same_upd hg _ _ z
  have B5 : ∀ c u, H c = some u → c ≠ p → H5 c = some u := fun c u z m => N5 _ _ (B4 _ _ z m) m
  have l5 := N5 _ _ l4 lp
  have lg : l ≠ g := ne_of_none l4 hg
  have s5 := N5 _ _ s4 sp
  have sg : s ≠ g := ne_of_none s4 hg
  have n5 := N5 _ _ n4 np
  have ng : n ≠ g := ne_of_none n4 hg
  refine ⟨by show 0 ≤ sizeLine; rw [sizeLine_eq]; decide, fun t ht => ⟨_, rfl, p, CJ, dx, _, rfl, same_upd ht _ _ p5, T.cl, T.nT, (by show 4 < 1000; decide), ?_⟩⟩
  have tp : t ≠ p := Ne.symm (ne_of_none p5 ht)
  generalize eqn6 : upd (upd H5 t (.lst [])) p (.ins CJ dx (putF "_steps" (.ref t) (putF "_origins" (.ref g) (putF "_numbers" (.ref n) (putF "_states" (.ref s) (putF "_letters" (.ref l) [])))))) = H6
  have p6 : H6 p = some (.ins CJ dx (putF "_steps" (.ref t) (putF "_origins" (.ref g) (putF "_numbers" (.ref n) (putF "_states" (.ref s) (putF "_letters" (.ref l) [])))))) := by rw [← eqn6]; exact upd_same
  have t6 : H6 t = some (.lst []) := by rw [← eqn6, upd_ne tp]; exact upd_same
  have N6 : ∀ c u, H5 c = some u → c ≠ p → H6 c = some u := fun c u z m => by rw [← eqn6, upd_ne m]; exact same_upd ht _ _ z
  have B6 : ∀ c u, H c = some u → c ≠ p → H6 c = some u := fun c u z m => N6 _ _ (B5 _ _ z m) m
  have l6 := N6 _ _ l5 lp
  have lt : l ≠ t := ne_of_none l5 ht
  have s6 := N6 _ _ s5 sp
  have st : s ≠ t := ne_of_none s5 ht
  have n6 := N6 _ _ n5 np
  have nt : n ≠ t := ne_of_none n5 ht
  have g6 := N6 _ _ g5 gp
  have gt : g ≠ t := ne_of_none g5 ht
  refine ⟨by show 0 ≤ sizeLine; rw [sizeLine_eq]; decide, fun e he => ⟨_, rfl, p, CJ, dx, _, rfl, same_upd he _ _ p6, T.cl, T.nE, (by show 5 < 1000; decide), ?_⟩⟩
  have ep : e ≠ p := Ne.symm (ne_of_none p6 he)
  generalize eqn7 : upd (upd H6 e (.lst [])) p (.ins CJ dx (putF "_ends" (.ref e) (putF "_steps" (.ref t) (putF "_origins" (.ref g) (putF "_numbers" (.ref n) (putF "_states" (.ref s) (putF "_letters" (.ref l) []))))))) = H7
  have p7 : H7 p = some (.ins CJ dx (putF "_ends" (.ref e) (putF "_steps" (.ref t) (putF "_origins" (.ref g) (putF "_numbers" (.ref n) (putF "_states" (.ref s) (putF "_letters" (.ref l) []))))))) := by rw [← eqn7]; exact upd_same
  have e7 : H7 e = some (.lst []) := by rw [← eqn7, upd_ne ep]; exact upd_same
  have N7 : ∀ c u, H6 c = some u → c ≠ p → H7 c = some u := fun c u z m => by rw [← eqn7, upd_ne m]; exact same_upd he _ _ z
  have B7 : ∀ c u, H c = some u → c ≠ p → H7 c = some u := fun c u z m => N7 _ _ (B6 _ _ z m) m
  have l7 := N7 _ _ l6 lp
  have le : l ≠ e := ne_of_none l6 he
  have s7 := N7 _ _ s6 sp
  have se : s ≠ e := ne_of_none s6 he
  have n7 := N7 _ _ n6 np
  have ne : n ≠ e := ne_of_none n6 he
  have g7 := N7 _ _ g6 gp
  have ge : g ≠ e := ne_of_none g6 he
  have t7 := N7 _ _ t6 tp
  have te : t ≠ e := ne_of_none t6 he
  -- the first state
  refine ⟨_, rfl, p, dx, _, rfl, p7, jf_no_number_of l s n g t e, ?_⟩
  refine ⟨bT, bT, _, _, rfl, rfl, TD.sT _, TD.sT _, by simp, by show 4 ≤ sizeLine; rw [sizeLine_eq]; decide, (fun z => nomatch z), fun _ q hq => ?_⟩
  refine ⟨by show 2 ≤ sizeLine; rw [sizeLine_eq]; decide, fun r hr0 => ?_⟩
  have s9 := (same_upd (o := .tup ([V.str "", .str ""] ++ [V.str "", .str ""])) hq).trans (same_upd (o := .tup [.int 0, .str ""]) hr0)
  generalize e9 : upd (upd H7 q (.tup ([V.str "", .str ""] ++ [V.str "", .str ""]))) r (.tup [.int 0, .str ""]) = H9 at s9
  have q9 : H9 q = some (.tup [.str "", .str "", .str "", .str ""]) := by rw [← e9]; exact same_upd hr0 _ _ upd_same
  refine ⟨p, dx, q, r, n, s, g, _, [.inr "", .inr "", .inr "", .inr ""], rfl, s9 _ _ p7, jf_n l s n g t e, jf_s l s n g t e, jf_g l s n g t e, s9 _ _ n7, s9 _ _ s7, s9 _ _ g7, sg, q9, ?_⟩
  generalize e10 : upd (upd (upd H9 n (.dT [([.inr "", .inr "", .inr "", .inr ""], .int 0)])) s (.lst [.ref q])) g (.lst [.ref r]) = H10
  have N10 : ∀ c u, H9 c = some u → c ≠ n → c ≠ s → c ≠ g → H10 c = some u := fun c u z m1 m2 m3 => by rw [← e10, upd_ne m3, upd_ne m2, upd_ne m1]; exact z
  have s10 : H10 s = some (.lst [.ref q]) := by rw [← e10, upd_ne sg]; exact upd_same
  have p10 := N10 _ _ (s9 _ _ p7) (Ne.symm np) (Ne.symm sp) (Ne.symm gp)
  have l10 := N10 _ _ (s9 _ _ l7) ln ls lg
  have t10 := N10 _ _ (s9 _ _ t7) (Ne.symm nt) (Ne.symm st) (Ne.symm gt)
  have e10' := N10 _ _ (s9 _ _ e7) (Ne.symm ne) (Ne.symm se) (Ne.symm ge)
  have qn : q ≠ n := fun z => by rw [z, s9 _ _ n7] at q9; cases q9
  have qs : q ≠ s := fun z => by rw [z, s9 _ _ s7] at q9; cases q9
  have qg : q ≠ g := fun z => by rw [z, s9 _ _ g7] at q9; cases q9
  have q10 := N10 _ _ q9 qn qs qg
  -- what stood at the entry stands, but p
  have new : ∀ c u, H c = some u → c ≠ p → H10 c = some u := fun c u z m => by
    have z2 := B2 _ _ z m
    have z3 := N3 _ _ z2 m
    have z4 := N4 _ _ z3 m
    have z5 := N5 _ _ z4 m
    exact N10 _ _ (s9 _ _ (B7 _ _ z m)) (ne_of_none z3 hn) (ne_of_none z2 hs) (ne_of_none z4 hg)
  have ea10 := empty_ins hp ea new ap
  have eb10 := empty_ins hp eb new bp
  refine ⟨_, rfl, p, dx, _, rfl, p10, jf_no_explore l s n g t e, ?_⟩
  refine ⟨_, rfl, _, rfl, p, CJ, dx, _, _, rfl, p10, T.cl, T.nL, jf_l l s n g t e, fun x dx1 hx hdx nx => ?_⟩
  have u1 : Same H10 (upd (upd H10 dx1 (.own x)) x (.ins CD dx1 [])) := (same_upd hdx).trans (same_upd (by rw [upd_ne (Ne.symm nx)]; exact hx))
  obtain ⟨oa2, FA2⟩ := id ea10
  obtain ⟨ob2, FB2⟩ := id eb10
  refine ⟨x, dx1, a, l, rfl, upd_same, ea10.sm u1, ne_of_none FA2.ob hx, u1 _ _ l10, fun H11 k11 SA => ⟨rfl, ?_⟩⟩
  have N11 : ∀ c u, H10 c = some u → H11 c = some u := fun c u z => k11 _ _ (u1 _ _ z) (ne_of_none z hx)
  refine ⟨_, rfl, _, rfl, p, CJ, dx, _, _, rfl, N11 _ _ p10, T.cl, T.nL, jf_l l s n g t e, fun y dx2 hy hdy ny => ?_⟩
  have u2 : Same H11 (upd (upd H11 dx2 (.own y)) y (.ins CD dx2 [])) := (same_upd hdy).trans (same_upd (by rw [upd_ne (Ne.symm ny)]; exact hy))
  have eb11 : Empty C H11 b := eb10.sm N11
  refine ⟨y, dx2, b, l, rfl, upd_same, eb11.sm u2, ne_of_none (N11 _ _ FB2.ob) hy, u2 _ _ (N11 _ _ l10), fun H12 k12 SB => ⟨rfl, ?_⟩⟩
  have N12 : ∀ c u, H11 c = some u → H12 c = some u := fun c u z => k12 _ _ (u2 _ _ z) (ne_of_none z hy)
  have N : ∀ c u, H10 c = some u → H12 c = some u := fun c u z => N12 _ _ (N11 _ _ z)
  exact ⟨p, dx, x, y, l, s, n, g, t, e, q, rfl, N _ _ p10, N _ _ t10, N _ _ s10, N _ _ q10, N _ _ l10, N _ _ e10', te, Ne.symm lt, Ne.symm le, SA.keep (fun c u z _ => N12 _ _ z), SB, fun H' hp' hl' => k H' ⟨dx, l, _, hp', jf_l l s n g t e, hl'⟩⟩
/-! worst_rate -/
def spJLet (CJ : Addr) : Sp := fun vs H Q _ => ∃ p : Addr, vs = [.ref p] ∧ JoinAt CJ H p ∧ ∀ D, H D = none → Q (.ref D) (upd H D (.lst []))
abbrev sJLet : Stmt := inClass (top 43) 2
theorem scJLet : FnScope ["self"] ["self"] (defScope sJLet) := ⟨rfl, rfl, rfl, by decide +kernel, rfl, by decide +kernel, by decide +kernel⟩
theorem ok_jlet {f : Addr} {fd : FuncData} (F : Fun K "letters" "Joined.letters" sJLet f fd) (T : TxJ2 K CJ) (mL : mg "list" = none) : FnOk P w K mg base CX0 1 f fd ["self"] (spJLet CJ) := by
  refine F.ok scJLet (fun vs H Q E h => by obtain ⟨p, rfl, _⟩ := h; rfl) (fun cdv A outer s H vs Q E hr h => ?_)
  obtain ⟨p, rfl, ⟨dx, l, fs, hp, hl, ll⟩, k⟩ := h
  refine ⟨_, pss_one (ps_ret (pe_callTy call_list_of (by rfl) mL (by decide +kernel) (pa_cons (pe_fld (pv 0) rfl) pa_nil))), ?_⟩
  exact ⟨_, rfl, p, CJ, dx, _, _, rfl, hp, T.cl, T.nL, hl, l, [], rfl, .inl (SqL.of ll), k⟩
def spCom0 (CJ CN : Addr) : Sp := fun vs H _ E => ∃ p : Addr, vs = [.ref p] ∧ JoinAt CJ H p ∧ ∀ H', E (.ref CN) none H'
abbrev sCom : Stmt := top 59
theorem scCom : FnScope ["joined"] ["joined"] (defScope sCom) := ⟨rfl, rfl, rfl, by decide +kernel, rfl, by decide +kernel, by decide +kernel⟩
theorem ok_com0 {f fL pL : Addr} {fd fdL : FuncData} (F : Fun K "check_common" "check_common" sCom f fd) (T : TxJ2 K CJ) (mL : mg "len" = none) (pl : PropOf K CJ "letters" pL fL) (GL : FnOk P w K mg base CX0 1 fL fdL ["self"] (spJLet CJ)) (bL : Binds K fdL ["self"] []) (N0 : Err0 K mg "NoCommonLetters" CN) :
    FnOk P w K mg base (L2.CX P w) 3 f fd ["joined"] (spCom0 CJ CN) := by
  refine F.okX scCom (fun vs H Q E h => by obtain ⟨p, rfl, _⟩ := h; rfl) (fun cdv A outer s H vs Q E hr h => ?_)
  obtain ⟨p, rfl, ja, kE⟩ := h
  obtain ⟨dx, l, fs, hp, hl, ll⟩ := id ja
  refine ⟨_, pss_one (ps_if (pt_cmpR op_eq (pe_callB call_len_seq (by rfl) mL PySem.boot_len (pa_cons (pe_prop (pv 0) T.cl pl GL hr bL .nil pass0 rfl) pa_nil)) pe_int (nomark _))
      (pss_one (ps_raise rfl (takes_of rfl rfl rfl rfl) (pmk_own0 PySem.F.excBase_ValueError N0.xP N0.g N0.kC (raises_own N0.exC N0.tyC) (by rfl)))) pss_nil), ?_⟩
  refine ⟨_, rfl, p, dx, _, rfl, hp, p, rfl, ja, fun D hD => ⟨D, _, rfl, .inl (SqL.of upd_same), rfl, _, rfl, ?_⟩⟩
  rw [dec_int]
  exact iteT (kE _)
abbrev sWorst : Stmt := top 58
theorem scWorst : FnScope ["joined"] ["joined"] (defScope sWorst) := ⟨rfl, rfl, rfl, by decide +kernel, rfl, by decide +kernel, by decide +kernel⟩
theorem ok_worst0 {f fC : Addr} {fd fdC : FuncData} (F : Fun K "worst_rate" "worst_rate" sWorst f fd) (aC : At K mg "check_common" fC) (GC : FnOk P w K mg base (L2.CX P w) 3 fC fdC ["joined"] (spCom0 CJ CN)) (bC : Binds K fdC ["joined"] []) :
    FnOk P w K mg base (L2.CX P w) 4 f fd ["joined"] (spWorst0 CN (JoinAt CJ)) := by
  refine F.okX scWorst (fun vs H Q E h => by obtain ⟨p, rfl, _⟩ := h; rfl) (fun cdv A outer s H vs Q E hr h => ?_)
  obtain ⟨p, rfl, ja, kE⟩ := h
  refine ⟨_, pss_cons (ps_expr (pe_call GC hr (by rfl) aC.g aC.k bC .nil (passes_call (takes_of rfl rfl rfl rfl) (fun _ _ _ _ h => h)) (pa_cons (pv 0) pa_nil))) pss_no, ?_⟩
  exact ⟨_, rfl, p, rfl, ja, kE⟩
end
theorem map19 {K : PySem.W.Frag} {D : Value} {C0 C1 C2 C3 C4 C5 C6 C7 C8 C9 C10 C11 C12 C13 C14 C15 C16 C17 C18 : Addr} {b0 b1 b2 b3 b4 b5 b6 b7 b8 b9 b10 b11 b12 b13 b14 b15 b16 b17 b18 : Bool} (h0 : PySem.W.kitOne K D (.ref C0) = some b0) (h1 : PySem.W.kitOne K D (.ref C1) = some b1) (h2 : PySem.W.kitOne K D (.ref C2) = some b2) (h3 : PySem.W.kitOne K D (.ref C3) = some b3) (h4 : PySem.W.kitOne K D (.ref C4) = some b4) (h5 : PySem.W.kitOne K D (.ref C5) = some b5) (h6 : PySem.W.kitOne K D (.ref C6) = some b6) (h7 : PySem.W.kitOne K D (.ref C7) = some b7) (h8 : PySem.W.kitOne K D (.ref C8) = some b8) (h9 : PySem.W.kitOne K D (.ref C9) = some b9) (h10 : PySem.W.kitOne K D (.ref C10) = some b10) (h11 : PySem.W.kitOne K D (.ref C11) = some b11) (h12 : PySem.W.kitOne K D (.ref C12) = some b12) (h13 : PySem.W.kitOne K D (.ref C13) = some b13) (h14 : PySem.W.kitOne K D (.ref C14) = some b14) (h15 : PySem.W.kitOne K D (.ref C15) = some b15) (h16 : PySem.W.kitOne K D (.ref C16) = some b16) (h17 : PySem.W.kitOne K D (.ref C17) = some b17) (h18 : PySem.W.kitOne K D (.ref C18) = some b18) :
    (cls19 C0 C1 C2 C3 C4 C5 C6 C7 C8 C9 C10 C11 C12 C13 C14 C15 C16 C17 C18).map (PySem.W.kitOne K D) = ([b0, b1, b2, b3, b4, b5, b6, b7, b8, b9, b10, b11, b12, b13, b14, b15, b16, b17, b18] : List Bool).map some := by
  show [PySem.W.kitOne K D (.ref C0), PySem.W.kitOne K D (.ref C1), PySem.W.kitOne K D (.ref C2), PySem.W.kitOne K D (.ref C3), PySem.W.kitOne K D (.ref C4), PySem.W.kitOne K D (.ref C5), PySem.W.kitOne K D (.ref C6), PySem.W.kitOne K D (.ref C7), PySem.W.kitOne K D (.ref C8), PySem.W.kitOne K D (.ref C9), PySem.W.kitOne K D (.ref C10), PySem.W.kitOne K D (.ref C11), PySem.W.kitOne K D (.ref C12), PySem.W.kitOne K D (.ref C13), PySem.W.kitOne K D (.ref C14), PySem.W.kitOne K D (.ref C15), PySem.W.kitOne K D (.ref C16), PySem.W.kitOne K D (.ref C17), PySem.W.kitOne K D (.ref C18)] = _
  rw [h0, h1, h2, h3, h4, h5, h6, h7, h8, h9, h10, h11, h12, h13, h14, h15, h16, h17, h18]
  rfl
/-! ### what the top has written, and the end -/
theorem all_mk {l : PySem.W.OpenLaw} {w : World} {K : PySem.W.Frag} {h : Heap} {mg : Str → Option Value} {fa : Addr} {fW f0 f1 f2 f3 f4 f5 f6 f7 f8 f9 f10 f11 f12 f13 f14 f15 fRQ fREq fB fT fX fLG fLP fLN fLK fLL fIB fBt fWr fPl fPP fNm fQ fHas fLen fGl fAo fPA fPK fPB fKn fCL fCR fCK fWA fWK fLg fU fLt fBg fRo fAdW fSF fSI fNu fSd fSf fEx fJo fJl fCo fWo fZ CQ C pL C0 C1 C2 C3 C4 C5 C6 C7 C8 C9 C10 C11 C12 C13 C14 C15 C16 C17 C18 : Addr} (X : K.In h) (G : h.Ns mainGlobals mg) (hfa : mg "law" = some (.ref fa))
    {odW anW ode0 ane0 ode1 ane1 ode2 ane2 ode3 ane3 ode4 ane4 ode5 ane5 ode6 ane6 ode7 ane7 ode8 ane8 ode9 ane9 ode10 ane10 ode11 ane11 ode12 ane12 ode13 ane13 ode14 ane14 ode15 ane15 odRQ anRQ odREq anREq odB anB odT anT odX anX odLG anLG odLP anLP odLN anLN odLK anLK odLL anLL odIB anIB odBt anBt odWr anWr odPl anPl odPP anPP odNm anNm odQ anQ odHas anHas odLen anLen odGl anGl odAo anAo odPA anPA odPK anPK odPB anPB odKn anKn odCL anCL odCR anCR odCK anCK odWA anWA odWK anWK odLg anLg odU anU odLt anLt odBg anBg odRo anRo odAdW anAdW odSF anSF odSI anSI odNu anNu odSd anSd odSf anSf odEx anEx odJo anJo odJl anJl odCo anCo odWo anWo odZ anZ : Option Addr} {slW sle0 sle1 sle2 sle3 sle4 sle5 sle6 sle7 sle8 sle9 sle10 sle11 sle12 sle13 sle14 sle15 slRQ slREq slB slT slX slLG slLP slLN slLK slLL slIB slBt slWr slPl slPP slNm slQ slHas slLen slGl slAo slPA slPK slPB slKn slCL slCR slCK slWA slWK slLg slU slLt slBg slRo slAdW slSF slSI slNu slSd slSf slEx slJo slJl slCo slWo slZ : Array (Option Value)} {ocW kVW dcW pmW cdW ctW oce0 kVe0 dce0 pme0 cde0 cte0 oce1 kVe1 dce1 pme1 cde1 cte1 oce2 kVe2 dce2 pme2 cde2 cte2 oce3 kVe3 dce3 pme3 cde3 cte3 oce4 kVe4 dce4 pme4 cde4 cte4 oce5 kVe5 dce5 pme5 cde5 cte5 oce6 kVe6 dce6 pme6 cde6 cte6 oce7 kVe7 dce7 pme7 cde7 cte7 oce8 kVe8 dce8 pme8 cde8 cte8 oce9 kVe9 dce9 pme9 cde9 cte9 oce10 kVe10 dce10 pme10 cde10 cte10 oce11 kVe11 dce11 pme11 cde11 cte11 oce12 kVe12 dce12 pme12 cde12 cte12 oce13 kVe13 dce13 pme13 cde13 cte13 oce14 kVe14 dce14 pme14 cde14 cte14 oce15 kVe15 dce15 pme15 cde15 cte15 ocRQ kVRQ dcRQ pmRQ cdRQ ctRQ ocREq kVREq dcREq pmREq cdREq ctREq ocB kVB dcB pmB cdB ctB ocT kVT dcT pmT cdT ctT ocX kVX dcX pmX cdX ctX ocLG kVLG dcLG pmLG cdLG ctLG ocLP kVLP dcLP pmLP cdLP ctLP ocLN kVLN dcLN pmLN cdLN ctLN ocLK kVLK dcLK pmLK cdLK ctLK ocLL kVLL dcLL pmLL cdLL ctLL ocIB kVIB dcIB pmIB cdIB ctIB ocBt kVBt dcBt pmBt cdBt ctBt ocWr kVWr dcWr pmWr cdWr ctWr ocPl kVPl dcPl pmPl cdPl ctPl ocPP kVPP dcPP pmPP cdPP ctPP ocNm kVNm dcNm pmNm cdNm ctNm ocQ dcQ pmQ cdQ ctQ ocHas kVHas dcHas pmHas cdHas ctHas ocLen kVLen dcLen pmLen cdLen ctLen ocGl kVGl dcGl pmGl cdGl ctGl ocAo kVAo dcAo pmAo cdAo ctAo ocPA kVPA dcPA pmPA cdPA ctPA ocPK kVPK dcPK pmPK cdPK ctPK ocPB kVPB dcPB pmPB cdPB ctPB ocKn kVKn dcKn pmKn cdKn ctKn ocCL kVCL dcCL pmCL cdCL ctCL ocCR kVCR dcCR pmCR cdCR ctCR ocCK kVCK dcCK pmCK cdCK ctCK ocWA kVWA dcWA pmWA cdWA ctWA ocWK kVWK dcWK pmWK cdWK ctWK ocLg kVLg dcLg pmLg cdLg ctLg ocU kVU dcU pmU cdU ctU ocLt kVLt dcLt pmLt cdLt ctLt ocBg kVBg dcBg pmBg cdBg ctBg ocRo kVRo dcRo pmRo cdRo ctRo ocAdW kVAdW dcAdW pmAdW cdAdW ctAdW ocSF kVSF dcSF pmSF cdSF ctSF ocSI kVSI dcSI pmSI cdSI ctSI ocNu kVNu dcNu pmNu cdNu ctNu ocSd kVSd dcSd pmSd cdSd ctSd ocSf kVSf dcSf pmSf cdSf ctSf ocEx kVEx dcEx pmEx cdEx ctEx ocJo kVJo dcJo pmJo cdJo ctJo ocJl kVJl dcJl pmJl cdJl ctJl ocCo kVCo dcCo pmCo cdCo ctCo ocWo kVWo dcWo pmWo cdWo ctWo ocZ kVZ dcZ pmZ cdZ ctZ : Value} {DRQ : Addr} {dclRQ : Value} {dddRQ : Option Addr} {dnnRQ : Nat} {dslRQ : Array (Option Value)} {tRQ : Tok} {DQ : Addr} {dclQ : Value} {dddQ : Option Addr} {dnnQ : Nat} {dslQ : Array (Option Value)}  {xnm0 xq0 : Str} {xN0 : Addr} {xbs0 : List Value} {xsn0 : List Str} {xsub0 : List Value} {xab0 : Bool} {xcol0 : Option Bool} {xdd0 : Option Addr} {xm00 xm10 xm20 xm30 xm50 : Option Value} {xnm1 xq1 : Str} {xN1 : Addr} {xbs1 : List Value} {xsn1 : List Str} {xsub1 : List Value} {xab1 : Bool} {xcol1 : Option Bool} {xdd1 : Option Addr} {xm01 xm11 xm21 xm31 xm51 : Option Value} {xnm2 xq2 : Str} {xN2 : Addr} {xbs2 : List Value} {xsn2 : List Str} {xsub2 : List Value} {xab2 : Bool} {xcol2 : Option Bool} {xdd2 : Option Addr} {xm02 xm12 xm22 xm32 xm52 : Option Value} {xnm3 xq3 : Str} {xN3 : Addr} {xbs3 : List Value} {xsn3 : List Str} {xsub3 : List Value} {xab3 : Bool} {xcol3 : Option Bool} {xdd3 : Option Addr} {xm03 xm13 xm23 xm33 xm53 : Option Value} {xnm4 xq4 : Str} {xN4 : Addr} {xbs4 : List Value} {xsn4 : List Str} {xsub4 : List Value} {xab4 : Bool} {xcol4 : Option Bool} {xdd4 : Option Addr} {xm04 xm14 xm24 xm34 xm54 : Option Value} {xnm5 xq5 : Str} {xN5 : Addr} {xbs5 : List Value} {xsn5 : List Str} {xsub5 : List Value} {xab5 : Bool} {xcol5 : Option Bool} {xdd5 : Option Addr} {xm05 xm15 xm25 xm35 xm55 : Option Value} {xnm6 xq6 : Str} {xN6 : Addr} {xbs6 : List Value} {xsn6 : List Str} {xsub6 : List Value} {xab6 : Bool} {xcol6 : Option Bool} {xdd6 : Option Addr} {xm06 xm16 xm26 xm36 xm56 : Option Value} {xnm7 xq7 : Str} {xN7 : Addr} {xbs7 : List Value} {xsn7 : List Str} {xsub7 : List Value} {xab7 : Bool} {xcol7 : Option Bool} {xdd7 : Option Addr} {xm07 xm17 xm27 xm37 xm57 : Option Value} {xnm8 xq8 : Str} {xN8 : Addr} {xbs8 : List Value} {xsn8 : List Str} {xsub8 : List Value} {xab8 : Bool} {xcol8 : Option Bool} {xdd8 : Option Addr} {xm08 xm18 xm28 xm38 xm58 : Option Value} {xnm9 xq9 : Str} {xN9 : Addr} {xbs9 : List Value} {xsn9 : List Str} {xsub9 : List Value} {xab9 : Bool} {xcol9 : Option Bool} {xdd9 : Option Addr} {xm09 xm19 xm29 xm39 xm59 : Option Value} {xnm10 xq10 : Str} {xN10 : Addr} {xbs10 : List Value} {xsn10 : List Str} {xsub10 : List Value} {xab10 : Bool} {xcol10 : Option Bool} {xdd10 : Option Addr} {xm010 xm110 xm210 xm310 xm510 : Option Value} {xnm11 xq11 : Str} {xN11 : Addr} {xbs11 : List Value} {xsn11 : List Str} {xsub11 : List Value} {xab11 : Bool} {xcol11 : Option Bool} {xdd11 : Option Addr} {xm011 xm111 xm211 xm311 xm511 : Option Value} {xnm12 xq12 : Str} {xN12 : Addr} {xbs12 : List Value} {xsn12 : List Str} {xsub12 : List Value} {xab12 : Bool} {xcol12 : Option Bool} {xdd12 : Option Addr} {xm012 xm112 xm212 xm312 xm512 : Option Value} {xnm13 xq13 : Str} {xN13 : Addr} {xbs13 : List Value} {xsn13 : List Str} {xsub13 : List Value} {xab13 : Bool} {xcol13 : Option Bool} {xdd13 : Option Addr} {xm013 xm113 xm213 xm313 xm513 : Option Value} {xnm14 xq14 : Str} {xN14 : Addr} {xbs14 : List Value} {xsn14 : List Str} {xsub14 : List Value} {xab14 : Bool} {xcol14 : Option Bool} {xdd14 : Option Addr} {xm014 xm114 xm214 xm314 xm514 : Option Value} {xnm15 xq15 : Str} {xN15 : Addr} {xbs15 : List Value} {xsn15 : List Str} {xsub15 : List Value} {xab15 : Bool} {xcol15 : Option Bool} {xdd15 : Option Addr} {xm015 xm115 xm215 xm315 xm515 : Option Value} {KQ bST pPL pPJ CSt CJo CSi : Addr} {tKQ tBl tAd tUn tLi t6 tS1 tS2 : Tok} {restL restpLt restpJl : List Value} {ddST : Option Addr} {nST : Nat} {slST : Array (Option Value)}
    (aC0 : PySem.W.nsIn K mainGlobals "InvalidGlyph" = some (some (.ref C0)))
    (aC1 : PySem.W.nsIn K mainGlobals "InvalidNumber" = some (some (.ref C1)))
    (aC2 : PySem.W.nsIn K mainGlobals "UnknownGlyph" = some (some (.ref C2)))
    (aC3 : PySem.W.nsIn K mainGlobals "TooMany" = some (some (.ref C3)))
    (aC4 : PySem.W.nsIn K mainGlobals "Overlap" = some (some (.ref C4)))
    (aC5 : PySem.W.nsIn K mainGlobals "InUse" = some (some (.ref C5)))
    (aC6 : PySem.W.nsIn K mainGlobals "DeedRefused" = some (some (.ref C6)))
    (aC7 : PySem.W.nsIn K mainGlobals "InvalidLine" = some (some (.ref C7)))
    (aC8 : PySem.W.nsIn K mainGlobals "UnknownLetter" = some (some (.ref C8)))
    (aC9 : PySem.W.nsIn K mainGlobals "InvalidState" = some (some (.ref C9)))
    (aC10 : PySem.W.nsIn K mainGlobals "InvalidText" = some (some (.ref C10)))
    (aC11 : PySem.W.nsIn K mainGlobals "Contradiction" = some (some (.ref C11)))
    (aC12 : PySem.W.nsIn K mainGlobals "NameTaken" = some (some (.ref C12)))
    (aC13 : PySem.W.nsIn K mainGlobals "UnknownName" = some (some (.ref C13)))
    (aC14 : PySem.W.nsIn K mainGlobals "UnknownKind" = some (some (.ref C14)))
    (aC15 : PySem.W.nsIn K mainGlobals "InvalidOptions" = some (some (.ref C15)))
    (aC16 : PySem.W.nsIn K mainGlobals "NothingToUndo" = some (some (.ref C16)))
    (aC17 : PySem.W.nsIn K mainGlobals "NoCommonLetters" = some (some (.ref C17)))
    (aC18 : PySem.W.nsIn K mainGlobals "FontError" = some (some (.ref C18)))
    (aCQ : PySem.W.nsIn K mainGlobals "Ratio" = some (some (.ref CQ)))
    (aC : PySem.W.nsIn K mainGlobals "Font" = some (some (.ref C)))
    (aCSt : PySem.W.nsIn K mainGlobals "Stepper" = some (some (.ref CSt)))
    (aCJo : PySem.W.nsIn K mainGlobals "Joined" = some (some (.ref CJo)))
    (aCSi : PySem.W.nsIn K mainGlobals "Side" = some (some (.ref CSi)))
    (aW : PySem.W.nsIn K mainGlobals "is_whole" = some (some (.ref fW)))
    (lW : K.lookup fW = some ⟨ocW, odW, .func (PySem.W.fnOf "is_whole" "is_whole" (defArgs sWhole) (defBody sWhole) (defScope sWhole) .none kVW dcW pmW anW cdW ctW), slW⟩)
    (cW : PySem.W.codeIn K cdW "is_whole" = true)
    (kW : PySem.W.keepIn K (.ref fW) = true)
    (ae0 : PySem.W.findIn K (.ref C0) "__init__" = some (some (.ref f0)))
    (te0 : PySem.W.typeIn K (.ref f0) = some (.type "function"))
    (le0 : K.lookup f0 = some ⟨oce0, ode0, .func (PySem.W.fnOf "__init__" "InvalidGlyph.__init__" (defArgs sE0) (defBody sE0) (defScope sE0) .none kVe0 dce0 pme0 ane0 cde0 cte0), sle0⟩)
    (ce0 : PySem.W.codeIn K cde0 "InvalidGlyph.__init__" = true)
    (ke0 : PySem.W.keepIn K (.ref f0) = true)
    (ae1 : PySem.W.findIn K (.ref C1) "__init__" = some (some (.ref f1)))
    (te1 : PySem.W.typeIn K (.ref f1) = some (.type "function"))
    (le1 : K.lookup f1 = some ⟨oce1, ode1, .func (PySem.W.fnOf "__init__" "InvalidNumber.__init__" (defArgs sE1) (defBody sE1) (defScope sE1) .none kVe1 dce1 pme1 ane1 cde1 cte1), sle1⟩)
    (ce1 : PySem.W.codeIn K cde1 "InvalidNumber.__init__" = true)
    (ke1 : PySem.W.keepIn K (.ref f1) = true)
    (ae2 : PySem.W.findIn K (.ref C2) "__init__" = some (some (.ref f2)))
    (te2 : PySem.W.typeIn K (.ref f2) = some (.type "function"))
    (le2 : K.lookup f2 = some ⟨oce2, ode2, .func (PySem.W.fnOf "__init__" "UnknownGlyph.__init__" (defArgs sE2) (defBody sE2) (defScope sE2) .none kVe2 dce2 pme2 ane2 cde2 cte2), sle2⟩)
    (ce2 : PySem.W.codeIn K cde2 "UnknownGlyph.__init__" = true)
    (ke2 : PySem.W.keepIn K (.ref f2) = true)
    (ae3 : PySem.W.findIn K (.ref C3) "__init__" = some (some (.ref f3)))
    (te3 : PySem.W.typeIn K (.ref f3) = some (.type "function"))
    (le3 : K.lookup f3 = some ⟨oce3, ode3, .func (PySem.W.fnOf "__init__" "TooMany.__init__" (defArgs sE3) (defBody sE3) (defScope sE3) .none kVe3 dce3 pme3 ane3 cde3 cte3), sle3⟩)
    (ce3 : PySem.W.codeIn K cde3 "TooMany.__init__" = true)
    (ke3 : PySem.W.keepIn K (.ref f3) = true)
    (ae4 : PySem.W.findIn K (.ref C4) "__init__" = some (some (.ref f4)))
    (te4 : PySem.W.typeIn K (.ref f4) = some (.type "function"))
    (le4 : K.lookup f4 = some ⟨oce4, ode4, .func (PySem.W.fnOf "__init__" "Overlap.__init__" (defArgs sE4) (defBody sE4) (defScope sE4) .none kVe4 dce4 pme4 ane4 cde4 cte4), sle4⟩)
    (ce4 : PySem.W.codeIn K cde4 "Overlap.__init__" = true)
    (ke4 : PySem.W.keepIn K (.ref f4) = true)
    (ae5 : PySem.W.findIn K (.ref C5) "__init__" = some (some (.ref f5)))
    (te5 : PySem.W.typeIn K (.ref f5) = some (.type "function"))
    (le5 : K.lookup f5 = some ⟨oce5, ode5, .func (PySem.W.fnOf "__init__" "InUse.__init__" (defArgs sE5) (defBody sE5) (defScope sE5) .none kVe5 dce5 pme5 ane5 cde5 cte5), sle5⟩)
    (ce5 : PySem.W.codeIn K cde5 "InUse.__init__" = true)
    (ke5 : PySem.W.keepIn K (.ref f5) = true)
    (ae6 : PySem.W.findIn K (.ref C6) "__init__" = some (some (.ref f6)))
    (te6 : PySem.W.typeIn K (.ref f6) = some (.type "function"))
    (le6 : K.lookup f6 = some ⟨oce6, ode6, .func (PySem.W.fnOf "__init__" "DeedRefused.__init__" (defArgs sE6) (defBody sE6) (defScope sE6) .none kVe6 dce6 pme6 ane6 cde6 cte6), sle6⟩)
    (ce6 : PySem.W.codeIn K cde6 "DeedRefused.__init__" = true)
    (ke6 : PySem.W.keepIn K (.ref f6) = true)
    (ae7 : PySem.W.findIn K (.ref C7) "__init__" = some (some (.ref f7)))
    (te7 : PySem.W.typeIn K (.ref f7) = some (.type "function"))
    (le7 : K.lookup f7 = some ⟨oce7, ode7, .func (PySem.W.fnOf "__init__" "InvalidLine.__init__" (defArgs sE7) (defBody sE7) (defScope sE7) .none kVe7 dce7 pme7 ane7 cde7 cte7), sle7⟩)
    (ce7 : PySem.W.codeIn K cde7 "InvalidLine.__init__" = true)
    (ke7 : PySem.W.keepIn K (.ref f7) = true)
    (ae8 : PySem.W.findIn K (.ref C8) "__init__" = some (some (.ref f8)))
    (te8 : PySem.W.typeIn K (.ref f8) = some (.type "function"))
    (le8 : K.lookup f8 = some ⟨oce8, ode8, .func (PySem.W.fnOf "__init__" "UnknownLetter.__init__" (defArgs sE8) (defBody sE8) (defScope sE8) .none kVe8 dce8 pme8 ane8 cde8 cte8), sle8⟩)
    (ce8 : PySem.W.codeIn K cde8 "UnknownLetter.__init__" = true)
    (ke8 : PySem.W.keepIn K (.ref f8) = true)
    (ae9 : PySem.W.findIn K (.ref C9) "__init__" = some (some (.ref f9)))
    (te9 : PySem.W.typeIn K (.ref f9) = some (.type "function"))
    (le9 : K.lookup f9 = some ⟨oce9, ode9, .func (PySem.W.fnOf "__init__" "InvalidState.__init__" (defArgs sE9) (defBody sE9) (defScope sE9) .none kVe9 dce9 pme9 ane9 cde9 cte9), sle9⟩)
    (ce9 : PySem.W.codeIn K cde9 "InvalidState.__init__" = true)
    (ke9 : PySem.W.keepIn K (.ref f9) = true)
    (ae10 : PySem.W.findIn K (.ref C10) "__init__" = some (some (.ref f10)))
    (te10 : PySem.W.typeIn K (.ref f10) = some (.type "function"))
    (le10 : K.lookup f10 = some ⟨oce10, ode10, .func (PySem.W.fnOf "__init__" "InvalidText.__init__" (defArgs sE10) (defBody sE10) (defScope sE10) .none kVe10 dce10 pme10 ane10 cde10 cte10), sle10⟩)
    (ce10 : PySem.W.codeIn K cde10 "InvalidText.__init__" = true)
    (ke10 : PySem.W.keepIn K (.ref f10) = true)
    (ae11 : PySem.W.findIn K (.ref C11) "__init__" = some (some (.ref f11)))
    (te11 : PySem.W.typeIn K (.ref f11) = some (.type "function"))
    (le11 : K.lookup f11 = some ⟨oce11, ode11, .func (PySem.W.fnOf "__init__" "Contradiction.__init__" (defArgs sE11) (defBody sE11) (defScope sE11) .none kVe11 dce11 pme11 ane11 cde11 cte11), sle11⟩)
    (ce11 : PySem.W.codeIn K cde11 "Contradiction.__init__" = true)
    (ke11 : PySem.W.keepIn K (.ref f11) = true)
    (ae12 : PySem.W.findIn K (.ref C12) "__init__" = some (some (.ref f12)))
    (te12 : PySem.W.typeIn K (.ref f12) = some (.type "function"))
    (le12 : K.lookup f12 = some ⟨oce12, ode12, .func (PySem.W.fnOf "__init__" "NameTaken.__init__" (defArgs sE12) (defBody sE12) (defScope sE12) .none kVe12 dce12 pme12 ane12 cde12 cte12), sle12⟩)
    (ce12 : PySem.W.codeIn K cde12 "NameTaken.__init__" = true)
    (ke12 : PySem.W.keepIn K (.ref f12) = true)
    (ae13 : PySem.W.findIn K (.ref C13) "__init__" = some (some (.ref f13)))
    (te13 : PySem.W.typeIn K (.ref f13) = some (.type "function"))
    (le13 : K.lookup f13 = some ⟨oce13, ode13, .func (PySem.W.fnOf "__init__" "UnknownName.__init__" (defArgs sE13) (defBody sE13) (defScope sE13) .none kVe13 dce13 pme13 ane13 cde13 cte13), sle13⟩)
    (ce13 : PySem.W.codeIn K cde13 "UnknownName.__init__" = true)
    (ke13 : PySem.W.keepIn K (.ref f13) = true)
    (ae14 : PySem.W.findIn K (.ref C14) "__init__" = some (some (.ref f14)))
    (te14 : PySem.W.typeIn K (.ref f14) = some (.type "function"))
    (le14 : K.lookup f14 = some ⟨oce14, ode14, .func (PySem.W.fnOf "__init__" "UnknownKind.__init__" (defArgs sE14) (defBody sE14) (defScope sE14) .none kVe14 dce14 pme14 ane14 cde14 cte14), sle14⟩)
    (ce14 : PySem.W.codeIn K cde14 "UnknownKind.__init__" = true)
    (ke14 : PySem.W.keepIn K (.ref f14) = true)
    (ae15 : PySem.W.findIn K (.ref C15) "__init__" = some (some (.ref f15)))
    (te15 : PySem.W.typeIn K (.ref f15) = some (.type "function"))
    (le15 : K.lookup f15 = some ⟨oce15, ode15, .func (PySem.W.fnOf "__init__" "InvalidOptions.__init__" (defArgs sE15) (defBody sE15) (defScope sE15) .none kVe15 dce15 pme15 ane15 cde15 cte15), sle15⟩)
    (ce15 : PySem.W.codeIn K cde15 "InvalidOptions.__init__" = true)
    (ke15 : PySem.W.keepIn K (.ref f15) = true)
    (aRQ : PySem.W.findIn K (.ref CQ) "__init__" = some (some (.ref fRQ)))
    (iRQ : PySem.W.isFn K (.ref fRQ) = true)
    (lRQ : K.lookup fRQ = some ⟨ocRQ, odRQ, .func (PySem.W.fnOf "__init__" "Ratio.__init__" (defArgs RT.sInit) (defBody RT.sInit) (defScope RT.sInit) (.ref DRQ) kVRQ dcRQ pmRQ anRQ cdRQ ctRQ), slRQ⟩)
    (cRQ : PySem.W.codeIn K cdRQ "Ratio.__init__" = true)
    (kRQ : PySem.W.keepIn K (.ref fRQ) = true)
    (dRQ : K.lookup DRQ = some ⟨dclRQ, dddRQ, .seq #[.int 1 tRQ] dnnRQ, dslRQ⟩)
    (aREq : PySem.W.findIn K (.ref CQ) "__eq__" = some (some (.ref fREq)))
    (iREq : PySem.W.isFn K (.ref fREq) = true)
    (lREq : K.lookup fREq = some ⟨ocREq, odREq, .func (PySem.W.fnOf "__eq__" "Ratio.__eq__" (defArgs RT.sEqR) (defBody RT.sEqR) (defScope RT.sEqR) .none kVREq dcREq pmREq anREq cdREq ctREq), slREq⟩)
    (cREq : PySem.W.codeIn K cdREq "Ratio.__eq__" = true)
    (kREq : PySem.W.keepIn K (.ref fREq) = true)
    (aB : PySem.W.nsIn K mainGlobals "_law_bag" = some (some (.ref fB)))
    (lB : K.lookup fB = some ⟨ocB, odB, .func (PySem.W.fnOf "_law_bag" "_law_bag" (defArgs sBag) (defBody sBag) (defScope sBag) .none kVB dcB pmB anB cdB ctB), slB⟩)
    (cB : PySem.W.codeIn K cdB "_law_bag" = true)
    (kB : PySem.W.keepIn K (.ref fB) = true)
    (aT : PySem.W.nsIn K mainGlobals "_law_take" = some (some (.ref fT)))
    (lT : K.lookup fT = some ⟨ocT, odT, .func (PySem.W.fnOf "_law_take" "_law_take" (defArgs sTake) (defBody sTake) (defScope sTake) .none kVT dcT pmT anT cdT ctT), slT⟩)
    (cT : PySem.W.codeIn K cdT "_law_take" = true)
    (kT : PySem.W.keepIn K (.ref fT) = true)
    (aX : PySem.W.nsIn K mainGlobals "_law_text" = some (some (.ref fX)))
    (lX : K.lookup fX = some ⟨ocX, odX, .func (PySem.W.fnOf "_law_text" "_law_text" (defArgs sText) (defBody sText) (defScope sText) .none kVX dcX pmX anX cdX ctX), slX⟩)
    (cX : PySem.W.codeIn K cdX "_law_text" = true)
    (kX : PySem.W.keepIn K (.ref fX) = true)
    (aLG : PySem.W.nsIn K mainGlobals "_law_glyphs" = some (some (.ref fLG)))
    (lLG : K.lookup fLG = some ⟨ocLG, odLG, .func (PySem.W.fnOf "_law_glyphs" "_law_glyphs" (defArgs sGly) (defBody sGly) (defScope sGly) .none kVLG dcLG pmLG anLG cdLG ctLG), slLG⟩)
    (cLG : PySem.W.codeIn K cdLG "_law_glyphs" = true)
    (kLG : PySem.W.keepIn K (.ref fLG) = true)
    (aLP : PySem.W.nsIn K mainGlobals "_law_places" = some (some (.ref fLP)))
    (lLP : K.lookup fLP = some ⟨ocLP, odLP, .func (PySem.W.fnOf "_law_places" "_law_places" (defArgs sPla) (defBody sPla) (defScope sPla) .none kVLP dcLP pmLP anLP cdLP ctLP), slLP⟩)
    (cLP : PySem.W.codeIn K cdLP "_law_places" = true)
    (kLP : PySem.W.keepIn K (.ref fLP) = true)
    (aLN : PySem.W.nsIn K mainGlobals "_law_names" = some (some (.ref fLN)))
    (lLN : K.lookup fLN = some ⟨ocLN, odLN, .func (PySem.W.fnOf "_law_names" "_law_names" (defArgs sNam) (defBody sNam) (defScope sNam) .none kVLN dcLN pmLN anLN cdLN ctLN), slLN⟩)
    (cLN : PySem.W.codeIn K cdLN "_law_names" = true)
    (kLN : PySem.W.keepIn K (.ref fLN) = true)
    (aLK : PySem.W.nsIn K mainGlobals "_law_kinds" = some (some (.ref fLK)))
    (lLK : K.lookup fLK = some ⟨ocLK, odLK, .func (PySem.W.fnOf "_law_kinds" "_law_kinds" (defArgs sKinds) (defBody sKinds) (defScope sKinds) .none kVLK dcLK pmLK anLK cdLK ctLK), slLK⟩)
    (cLK : PySem.W.codeIn K cdLK "_law_kinds" = true)
    (kLK : PySem.W.keepIn K (.ref fLK) = true)
    (aLL : PySem.W.nsIn K mainGlobals "_law_plain" = some (some (.ref fLL)))
    (lLL : K.lookup fLL = some ⟨ocLL, odLL, .func (PySem.W.fnOf "_law_plain" "_law_plain" (defArgs sPlain) (defBody sPlain) (defScope sPlain) .none kVLL dcLL pmLL anLL cdLL ctLL), slLL⟩)
    (cLL : PySem.W.codeIn K cdLL "_law_plain" = true)
    (kLL : PySem.W.keepIn K (.ref fLL) = true)
    (aIB : PySem.W.nsIn K mainGlobals "is_between" = some (some (.ref fIB)))
    (lIB : K.lookup fIB = some ⟨ocIB, odIB, .func (PySem.W.fnOf "is_between" "is_between" (defArgs sIsB) (defBody sIsB) (defScope sIsB) .none kVIB dcIB pmIB anIB cdIB ctIB), slIB⟩)
    (cIB : PySem.W.codeIn K cdIB "is_between" = true)
    (kIB : PySem.W.keepIn K (.ref fIB) = true)
    (aBt : PySem.W.nsIn K mainGlobals "check_between" = some (some (.ref fBt)))
    (lBt : K.lookup fBt = some ⟨ocBt, odBt, .func (PySem.W.fnOf "check_between" "check_between" (defArgs sBetween) (defBody sBetween) (defScope sBetween) .none kVBt dcBt pmBt anBt cdBt ctBt), slBt⟩)
    (cBt : PySem.W.codeIn K cdBt "check_between" = true)
    (kBt : PySem.W.keepIn K (.ref fBt) = true)
    (aWr : PySem.W.nsIn K mainGlobals "write" = some (some (.ref fWr)))
    (lWr : K.lookup fWr = some ⟨ocWr, odWr, .func (PySem.W.fnOf "write" "write" (defArgs sWrite) (defBody sWrite) (defScope sWrite) .none kVWr dcWr pmWr anWr cdWr ctWr), slWr⟩)
    (cWr : PySem.W.codeIn K cdWr "write" = true)
    (kWr : PySem.W.keepIn K (.ref fWr) = true)
    (aPl : PySem.W.nsIn K mainGlobals "font_place" = some (some (.ref fPl)))
    (lPl : K.lookup fPl = some ⟨ocPl, odPl, .func (PySem.W.fnOf "font_place" "font_place" (defArgs sPlace) (defBody sPlace) (defScope sPlace) .none kVPl dcPl pmPl anPl cdPl ctPl), slPl⟩)
    (cPl : PySem.W.codeIn K cdPl "font_place" = true)
    (kPl : PySem.W.keepIn K (.ref fPl) = true)
    (aPP : PySem.W.nsIn K mainGlobals "pair_place" = some (some (.ref fPP)))
    (lPP : K.lookup fPP = some ⟨ocPP, odPP, .func (PySem.W.fnOf "pair_place" "pair_place" (defArgs sPair) (defBody sPair) (defScope sPair) .none kVPP dcPP pmPP anPP cdPP ctPP), slPP⟩)
    (cPP : PySem.W.codeIn K cdPP "pair_place" = true)
    (kPP : PySem.W.keepIn K (.ref fPP) = true)
    (aNm : PySem.W.nsIn K mainGlobals "is_glyph_name" = some (some (.ref fNm)))
    (lNm : K.lookup fNm = some ⟨ocNm, odNm, .func (PySem.W.fnOf "is_glyph_name" "is_glyph_name" (defArgs sName) (defBody sName) (defScope sName) .none kVNm dcNm pmNm anNm cdNm ctNm), slNm⟩)
    (cNm : PySem.W.codeIn K cdNm "is_glyph_name" = true)
    (kNm : PySem.W.keepIn K (.ref fNm) = true)
    (aQ : PySem.W.findIn K (.ref C) "__init__" = some (some (.ref fQ)))
    (iQ : PySem.W.isFn K (.ref fQ) = true)
    (lQ : K.lookup fQ = some ⟨ocQ, odQ, .func (PySem.W.fnOf "__init__" "Font.__init__" (defArgs sInit) (defBody sInit) (defScope sInit) (.ref DQ) (.ref KQ) dcQ pmQ anQ cdQ ctQ), slQ⟩)
    (cQ : PySem.W.codeIn K cdQ "Font.__init__" = true)
    (kQ : PySem.W.keepIn K (.ref fQ) = true)
    (dQ : K.lookup DQ = some ⟨dclQ, dddQ, .seq #[.none] dnnQ, dslQ⟩)
    (aHas : PySem.W.findIn K (.ref C) "__contains__" = some (some (.ref fHas)))
    (iHas : PySem.W.isFn K (.ref fHas) = true)
    (lHas : K.lookup fHas = some ⟨ocHas, odHas, .func (PySem.W.fnOf "__contains__" "Font.__contains__" (defArgs sHas) (defBody sHas) (defScope sHas) .none kVHas dcHas pmHas anHas cdHas ctHas), slHas⟩)
    (cHas : PySem.W.codeIn K cdHas "Font.__contains__" = true)
    (kHas : PySem.W.keepIn K (.ref fHas) = true)
    (aLen : PySem.W.findIn K (.ref C) "__len__" = some (some (.ref fLen)))
    (iLen : PySem.W.isFn K (.ref fLen) = true)
    (lLen : K.lookup fLen = some ⟨ocLen, odLen, .func (PySem.W.fnOf "__len__" "Font.__len__" (defArgs sLen) (defBody sLen) (defScope sLen) .none kVLen dcLen pmLen anLen cdLen ctLen), slLen⟩)
    (cLen : PySem.W.codeIn K cdLen "Font.__len__" = true)
    (kLen : PySem.W.keepIn K (.ref fLen) = true)
    (aGl : PySem.W.findIn K (.ref C) "glyphs" = some (some (.ref fGl)))
    (iGl : PySem.W.isFn K (.ref fGl) = true)
    (lGl : K.lookup fGl = some ⟨ocGl, odGl, .func (PySem.W.fnOf "glyphs" "Font.glyphs" (defArgs sGlyphs) (defBody sGlyphs) (defScope sGlyphs) .none kVGl dcGl pmGl anGl cdGl ctGl), slGl⟩)
    (cGl : PySem.W.codeIn K cdGl "Font.glyphs" = true)
    (kGl : PySem.W.keepIn K (.ref fGl) = true)
    (aAo : PySem.W.findIn K (.ref C) "advance_of" = some (some (.ref fAo)))
    (iAo : PySem.W.isFn K (.ref fAo) = true)
    (lAo : K.lookup fAo = some ⟨ocAo, odAo, .func (PySem.W.fnOf "advance_of" "Font.advance_of" (defArgs sAdvOf) (defBody sAdvOf) (defScope sAdvOf) .none kVAo dcAo pmAo anAo cdAo ctAo), slAo⟩)
    (cAo : PySem.W.codeIn K cdAo "Font.advance_of" = true)
    (kAo : PySem.W.keepIn K (.ref fAo) = true)
    (aPA : PySem.W.findIn K (.ref C) "_put_advance" = some (some (.ref fPA)))
    (iPA : PySem.W.isFn K (.ref fPA) = true)
    (lPA : K.lookup fPA = some ⟨ocPA, odPA, .func (PySem.W.fnOf "_put_advance" "Font._put_advance" (defArgs sPutA) (defBody sPutA) (defScope sPutA) .none kVPA dcPA pmPA anPA cdPA ctPA), slPA⟩)
    (cPA : PySem.W.codeIn K cdPA "Font._put_advance" = true)
    (kPA : PySem.W.keepIn K (.ref fPA) = true)
    (aPK : PySem.W.findIn K (.ref C) "_put_kern" = some (some (.ref fPK)))
    (iPK : PySem.W.isFn K (.ref fPK) = true)
    (lPK : K.lookup fPK = some ⟨ocPK, odPK, .func (PySem.W.fnOf "_put_kern" "Font._put_kern" (defArgs sPutK) (defBody sPutK) (defScope sPutK) .none kVPK dcPK pmPK anPK cdPK ctPK), slPK⟩)
    (cPK : PySem.W.codeIn K cdPK "Font._put_kern" = true)
    (kPK : PySem.W.keepIn K (.ref fPK) = true)
    (aPB : PySem.W.findIn K (.ref C) "_put_blank" = some (some (.ref fPB)))
    (iPB : PySem.W.isFn K (.ref fPB) = true)
    (lPB : K.lookup fPB = some ⟨ocPB, odPB, .func (PySem.W.fnOf "_put_blank" "Font._put_blank" (defArgs sPutB) (defBody sPutB) (defScope sPutB) .none kVPB dcPB pmPB anPB cdPB ctPB), slPB⟩)
    (cPB : PySem.W.codeIn K cdPB "Font._put_blank" = true)
    (kPB : PySem.W.keepIn K (.ref fPB) = true)
    (aKn : PySem.W.findIn K (.ref C) "_check_known" = some (some (.ref fKn)))
    (iKn : PySem.W.isFn K (.ref fKn) = true)
    (lKn : K.lookup fKn = some ⟨ocKn, odKn, .func (PySem.W.fnOf "_check_known" "Font._check_known" (defArgs sKnown) (defBody sKnown) (defScope sKnown) .none kVKn dcKn pmKn anKn cdKn ctKn), slKn⟩)
    (cKn : PySem.W.codeIn K cdKn "Font._check_known" = true)
    (kKn : PySem.W.keepIn K (.ref fKn) = true)
    (aCL : PySem.W.findIn K (.ref C) "_check_letters" = some (some (.ref fCL)))
    (iCL : PySem.W.isFn K (.ref fCL) = true)
    (lCL : K.lookup fCL = some ⟨ocCL, odCL, .func (PySem.W.fnOf "_check_letters" "Font._check_letters" (defArgs sLetters) (defBody sLetters) (defScope sLetters) .none kVCL dcCL pmCL anCL cdCL ctCL), slCL⟩)
    (cCL : PySem.W.codeIn K cdCL "Font._check_letters" = true)
    (kCL : PySem.W.keepIn K (.ref fCL) = true)
    (aCR : PySem.W.findIn K (.ref C) "_check_room" = some (some (.ref fCR)))
    (iCR : PySem.W.isFn K (.ref fCR) = true)
    (lCR : K.lookup fCR = some ⟨ocCR, odCR, .func (PySem.W.fnOf "_check_room" "Font._check_room" (defArgs sRoom) (defBody sRoom) (defScope sRoom) .none kVCR dcCR pmCR anCR cdCR ctCR), slCR⟩)
    (cCR : PySem.W.codeIn K cdCR "Font._check_room" = true)
    (kCR : PySem.W.keepIn K (.ref fCR) = true)
    (aCK : PySem.W.findIn K (.ref C) "_check_kerns" = some (some (.ref fCK)))
    (iCK : PySem.W.isFn K (.ref fCK) = true)
    (lCK : K.lookup fCK = some ⟨ocCK, odCK, .func (PySem.W.fnOf "_check_kerns" "Font._check_kerns" (defArgs sKOk) (defBody sKOk) (defScope sKOk) .none kVCK dcCK pmCK anCK cdCK ctCK), slCK⟩)
    (cCK : PySem.W.codeIn K cdCK "Font._check_kerns" = true)
    (kCK : PySem.W.keepIn K (.ref fCK) = true)
    (aWA : PySem.W.findIn K (.ref C) "_write_advance" = some (some (.ref fWA)))
    (iWA : PySem.W.isFn K (.ref fWA) = true)
    (lWA : K.lookup fWA = some ⟨ocWA, odWA, .func (PySem.W.fnOf "_write_advance" "Font._write_advance" (defArgs sWrA) (defBody sWrA) (defScope sWrA) .none kVWA dcWA pmWA anWA cdWA ctWA), slWA⟩)
    (cWA : PySem.W.codeIn K cdWA "Font._write_advance" = true)
    (kWA : PySem.W.keepIn K (.ref fWA) = true)
    (aWK : PySem.W.findIn K (.ref C) "_write_kern" = some (some (.ref fWK)))
    (iWK : PySem.W.isFn K (.ref fWK) = true)
    (lWK : K.lookup fWK = some ⟨ocWK, odWK, .func (PySem.W.fnOf "_write_kern" "Font._write_kern" (defArgs sWrK) (defBody sWrK) (defScope sWrK) .none kVWK dcWK pmWK anWK cdWK ctWK), slWK⟩)
    (cWK : PySem.W.codeIn K cdWK "Font._write_kern" = true)
    (kWK : PySem.W.keepIn K (.ref fWK) = true)
    (pLa : PySem.W.findIn K (.ref C) "ligatures" = some (some (.ref pL)))
    (pLg : PySem.W.specialIn K (.ref pL) "__get__" = some (some (.builtin "property.__get__")))
    (pLt : PySem.W.takesIn K (.ref pL) = some true)
    (pLr : PySem.W.recIn K pL "property" = some (.ref fLg :: restL))
    (lLg : K.lookup fLg = some ⟨ocLg, odLg, .func (PySem.W.fnOf "ligatures" "Font.ligatures" (defArgs sLigs) (defBody sLigs) (defScope sLigs) .none kVLg dcLg pmLg anLg cdLg ctLg), slLg⟩)
    (cLg : PySem.W.codeIn K cdLg "Font.ligatures" = true)
    (kLg : PySem.W.keepIn K (.ref fLg) = true)
    (aU : PySem.W.findIn K (.ref C) "undo" = some (some (.ref fU)))
    (iU : PySem.W.isFn K (.ref fU) = true)
    (lU : K.lookup fU = some ⟨ocU, odU, .func (PySem.W.fnOf "undo" "Font.undo" (defArgs sUndo) (defBody sUndo) (defScope sUndo) .none kVU dcU pmU anU cdU ctU), slU⟩)
    (cU : PySem.W.codeIn K cdU "Font.undo" = true)
    (kU : PySem.W.keepIn K (.ref fU) = true)
    (pLta : PySem.W.findIn K (.ref C) "letters" = some (some (.ref pPL)))
    (pLtg : PySem.W.specialIn K (.ref pPL) "__get__" = some (some (.builtin "property.__get__")))
    (pLtt : PySem.W.takesIn K (.ref pPL) = some true)
    (pLtr : PySem.W.recIn K pPL "property" = some (.ref fLt :: restpLt))
    (lLt : K.lookup fLt = some ⟨ocLt, odLt, .func (PySem.W.fnOf "letters" "Font.letters" (defArgs sLett) (defBody sLett) (defScope sLett) .none kVLt dcLt pmLt anLt cdLt ctLt), slLt⟩)
    (cLt : PySem.W.codeIn K cdLt "Font.letters" = true)
    (kLt : PySem.W.keepIn K (.ref fLt) = true)
    (aBg : PySem.W.nsIn K mainGlobals "beginnings" = some (some (.ref fBg)))
    (lBg : K.lookup fBg = some ⟨ocBg, odBg, .func (PySem.W.fnOf "beginnings" "beginnings" (defArgs sBeg) (defBody sBeg) (defScope sBeg) .none kVBg dcBg pmBg anBg cdBg ctBg), slBg⟩)
    (cBg : PySem.W.codeIn K cdBg "beginnings" = true)
    (kBg : PySem.W.keepIn K (.ref fBg) = true)
    (aRo : PySem.W.nsIn K mainGlobals "glyph_row" = some (some (.ref fRo)))
    (lRo : K.lookup fRo = some ⟨ocRo, odRo, .func (PySem.W.fnOf "glyph_row" "glyph_row" (defArgs sRow0) (defBody sRow0) (defScope sRow0) .none kVRo dcRo pmRo anRo cdRo ctRo), slRo⟩)
    (cRo : PySem.W.codeIn K cdRo "glyph_row" = true)
    (kRo : PySem.W.keepIn K (.ref fRo) = true)
    (aAdW : PySem.W.nsIn K mainGlobals "added_width" = some (some (.ref fAdW)))
    (lAdW : K.lookup fAdW = some ⟨ocAdW, odAdW, .func (PySem.W.fnOf "added_width" "added_width" (defArgs sAdd0) (defBody sAdd0) (defScope sAdd0) .none kVAdW dcAdW pmAdW anAdW cdAdW ctAdW), slAdW⟩)
    (cAdW : PySem.W.codeIn K cdAdW "added_width" = true)
    (kAdW : PySem.W.keepIn K (.ref fAdW) = true)
    (aSF : PySem.W.findIn K (.ref CSt) "finish" = some (some (.ref fSF)))
    (iSF : PySem.W.isFn K (.ref fSF) = true)
    (lSF : K.lookup fSF = some ⟨ocSF, odSF, .func (PySem.W.fnOf "finish" "Stepper.finish" (defArgs sFin0) (defBody sFin0) (defScope sFin0) .none kVSF dcSF pmSF anSF cdSF ctSF), slSF⟩)
    (cSF : PySem.W.codeIn K cdSF "Stepper.finish" = true)
    (kSF : PySem.W.keepIn K (.ref fSF) = true)
    (aSI : PySem.W.findIn K (.ref CSt) "__init__" = some (some (.ref fSI)))
    (iSI : PySem.W.isFn K (.ref fSI) = true)
    (lSI : K.lookup fSI = some ⟨ocSI, odSI, .func (PySem.W.fnOf "__init__" "Stepper.__init__" (defArgs sStp0) (defBody sStp0) (defScope sStp0) .none kVSI dcSI pmSI anSI cdSI ctSI), slSI⟩)
    (cSI : PySem.W.codeIn K cdSI "Stepper.__init__" = true)
    (kSI : PySem.W.keepIn K (.ref fSI) = true)
    (aNu : PySem.W.findIn K (.ref CJo) "_number_of" = some (some (.ref fNu)))
    (iNu : PySem.W.isFn K (.ref fNu) = true)
    (lNu : K.lookup fNu = some ⟨ocNu, odNu, .func (PySem.W.fnOf "_number_of" "Joined._number_of" (defArgs sNum0) (defBody sNum0) (defScope sNum0) .none kVNu dcNu pmNu anNu cdNu ctNu), slNu⟩)
    (cNu : PySem.W.codeIn K cdNu "Joined._number_of" = true)
    (kNu : PySem.W.keepIn K (.ref fNu) = true)
    (aSd : PySem.W.findIn K (.ref CSi) "__init__" = some (some (.ref fSd)))
    (iSd : PySem.W.isFn K (.ref fSd) = true)
    (lSd : K.lookup fSd = some ⟨ocSd, odSd, .func (PySem.W.fnOf "__init__" "Side.__init__" (defArgs sSide) (defBody sSide) (defScope sSide) .none kVSd dcSd pmSd anSd cdSd ctSd), slSd⟩)
    (cSd : PySem.W.codeIn K cdSd "Side.__init__" = true)
    (kSd : PySem.W.keepIn K (.ref fSd) = true)
    (aSf : PySem.W.findIn K (.ref CSi) "finish" = some (some (.ref fSf)))
    (iSf : PySem.W.isFn K (.ref fSf) = true)
    (lSf : K.lookup fSf = some ⟨ocSf, odSf, .func (PySem.W.fnOf "finish" "Side.finish" (defArgs sSFin) (defBody sSFin) (defScope sSFin) .none kVSf dcSf pmSf anSf cdSf ctSf), slSf⟩)
    (cSf : PySem.W.codeIn K cdSf "Side.finish" = true)
    (kSf : PySem.W.keepIn K (.ref fSf) = true)
    (aEx : PySem.W.findIn K (.ref CJo) "_explore" = some (some (.ref fEx)))
    (iEx : PySem.W.isFn K (.ref fEx) = true)
    (lEx : K.lookup fEx = some ⟨ocEx, odEx, .func (PySem.W.fnOf "_explore" "Joined._explore" (defArgs sExpl) (defBody sExpl) (defScope sExpl) .none kVEx dcEx pmEx anEx cdEx ctEx), slEx⟩)
    (cEx : PySem.W.codeIn K cdEx "Joined._explore" = true)
    (kEx : PySem.W.keepIn K (.ref fEx) = true)
    (aJo : PySem.W.findIn K (.ref CJo) "__init__" = some (some (.ref fJo)))
    (iJo : PySem.W.isFn K (.ref fJo) = true)
    (lJo : K.lookup fJo = some ⟨ocJo, odJo, .func (PySem.W.fnOf "__init__" "Joined.__init__" (defArgs sJoin) (defBody sJoin) (defScope sJoin) .none kVJo dcJo pmJo anJo cdJo ctJo), slJo⟩)
    (cJo : PySem.W.codeIn K cdJo "Joined.__init__" = true)
    (kJo : PySem.W.keepIn K (.ref fJo) = true)
    (pJla : PySem.W.findIn K (.ref CJo) "letters" = some (some (.ref pPJ)))
    (pJlg : PySem.W.specialIn K (.ref pPJ) "__get__" = some (some (.builtin "property.__get__")))
    (pJlt : PySem.W.takesIn K (.ref pPJ) = some true)
    (pJlr : PySem.W.recIn K pPJ "property" = some (.ref fJl :: restpJl))
    (lJl : K.lookup fJl = some ⟨ocJl, odJl, .func (PySem.W.fnOf "letters" "Joined.letters" (defArgs sJLet) (defBody sJLet) (defScope sJLet) .none kVJl dcJl pmJl anJl cdJl ctJl), slJl⟩)
    (cJl : PySem.W.codeIn K cdJl "Joined.letters" = true)
    (kJl : PySem.W.keepIn K (.ref fJl) = true)
    (aCo : PySem.W.nsIn K mainGlobals "check_common" = some (some (.ref fCo)))
    (lCo : K.lookup fCo = some ⟨ocCo, odCo, .func (PySem.W.fnOf "check_common" "check_common" (defArgs sCom) (defBody sCom) (defScope sCom) .none kVCo dcCo pmCo anCo cdCo ctCo), slCo⟩)
    (cCo : PySem.W.codeIn K cdCo "check_common" = true)
    (kCo : PySem.W.keepIn K (.ref fCo) = true)
    (aWo : PySem.W.nsIn K mainGlobals "worst_rate" = some (some (.ref fWo)))
    (lWo : K.lookup fWo = some ⟨ocWo, odWo, .func (PySem.W.fnOf "worst_rate" "worst_rate" (defArgs sWorst) (defBody sWorst) (defScope sWorst) .none kVWo dcWo pmWo anWo cdWo ctWo), slWo⟩)
    (cWo : PySem.W.codeIn K cdWo "worst_rate" = true)
    (kWo : PySem.W.keepIn K (.ref fWo) = true)
    (aZ : PySem.W.nsIn K mainGlobals "law" = some (some (.ref fZ)))
    (lZ : K.lookup fZ = some ⟨ocZ, odZ, .func (PySem.W.fnOf "law" "law" (defArgs sLaw) (defBody sLaw) (defScope sLaw) .none kVZ dcZ pmZ anZ cdZ ctZ), slZ⟩)
    (cZ : PySem.W.codeIn K cdZ "law" = true)
    (kZ : PySem.W.keepIn K (.ref fZ) = true)
    (xC0 : K.lookup C0 = some (excClassObj xnm0 xq0 C0 xN0 xbs0 [.ref C18, .type "ValueError", .type "Exception", .type "BaseException", .type "object"] true xsn0 xsub0 xab0 xcol0 xdd0 xm00 xm10 xm20 xm30 xm50 "ValueError.__new__"))
    (sa0 : PySem.W.findIn K (.ref C0) "__setattr__" = some (some (.builtin "object.__setattr__")))
    (ex0 : PySem.W.subIn K (.ref C0) (.type "BaseException") = some true)
    (ty0 : PySem.W.typeIn K (.ref C0) = some (.type "type"))
    (kp0 : PySem.W.keepIn K (.ref C0) = true)
    (egA0 : PySem.W.findIn K (.ref C0) "__getattribute__" = some (some (.builtin "BaseException.__getattribute__")))
    (egG0 : PySem.W.findIn K (.ref C0) "__getattr__" = some none)
    (ehD0 : PySem.W.hasDictIn K C0 = true)
    (ecA0 : PySem.W.findIn K (.ref C0) "__class__" = some (some (.builtin "object.__class__")))
    (ecM0 : PySem.W.mroIn K C0 (.type "object") = some true)
    (no0glyph : PySem.W.findIn K (.ref C0) "glyph" = some none)
    (xC1 : K.lookup C1 = some (excClassObj xnm1 xq1 C1 xN1 xbs1 [.ref C18, .type "ValueError", .type "Exception", .type "BaseException", .type "object"] true xsn1 xsub1 xab1 xcol1 xdd1 xm01 xm11 xm21 xm31 xm51 "ValueError.__new__"))
    (sa1 : PySem.W.findIn K (.ref C1) "__setattr__" = some (some (.builtin "object.__setattr__")))
    (ex1 : PySem.W.subIn K (.ref C1) (.type "BaseException") = some true)
    (ty1 : PySem.W.typeIn K (.ref C1) = some (.type "type"))
    (kp1 : PySem.W.keepIn K (.ref C1) = true)
    (egA1 : PySem.W.findIn K (.ref C1) "__getattribute__" = some (some (.builtin "BaseException.__getattribute__")))
    (egG1 : PySem.W.findIn K (.ref C1) "__getattr__" = some none)
    (ehD1 : PySem.W.hasDictIn K C1 = true)
    (ecA1 : PySem.W.findIn K (.ref C1) "__class__" = some (some (.builtin "object.__class__")))
    (ecM1 : PySem.W.mroIn K C1 (.type "object") = some true)
    (no1value : PySem.W.findIn K (.ref C1) "value" = some none)
    (xC2 : K.lookup C2 = some (excClassObj xnm2 xq2 C2 xN2 xbs2 [.ref C18, .type "ValueError", .type "Exception", .type "BaseException", .type "object"] true xsn2 xsub2 xab2 xcol2 xdd2 xm02 xm12 xm22 xm32 xm52 "ValueError.__new__"))
    (sa2 : PySem.W.findIn K (.ref C2) "__setattr__" = some (some (.builtin "object.__setattr__")))
    (ex2 : PySem.W.subIn K (.ref C2) (.type "BaseException") = some true)
    (ty2 : PySem.W.typeIn K (.ref C2) = some (.type "type"))
    (kp2 : PySem.W.keepIn K (.ref C2) = true)
    (egA2 : PySem.W.findIn K (.ref C2) "__getattribute__" = some (some (.builtin "BaseException.__getattribute__")))
    (egG2 : PySem.W.findIn K (.ref C2) "__getattr__" = some none)
    (ehD2 : PySem.W.hasDictIn K C2 = true)
    (ecA2 : PySem.W.findIn K (.ref C2) "__class__" = some (some (.builtin "object.__class__")))
    (ecM2 : PySem.W.mroIn K C2 (.type "object") = some true)
    (no2glyph : PySem.W.findIn K (.ref C2) "glyph" = some none)
    (xC3 : K.lookup C3 = some (excClassObj xnm3 xq3 C3 xN3 xbs3 [.ref C18, .type "ValueError", .type "Exception", .type "BaseException", .type "object"] true xsn3 xsub3 xab3 xcol3 xdd3 xm03 xm13 xm23 xm33 xm53 "ValueError.__new__"))
    (sa3 : PySem.W.findIn K (.ref C3) "__setattr__" = some (some (.builtin "object.__setattr__")))
    (ex3 : PySem.W.subIn K (.ref C3) (.type "BaseException") = some true)
    (ty3 : PySem.W.typeIn K (.ref C3) = some (.type "type"))
    (kp3 : PySem.W.keepIn K (.ref C3) = true)
    (egA3 : PySem.W.findIn K (.ref C3) "__getattribute__" = some (some (.builtin "BaseException.__getattribute__")))
    (egG3 : PySem.W.findIn K (.ref C3) "__getattr__" = some none)
    (ehD3 : PySem.W.hasDictIn K C3 = true)
    (ecA3 : PySem.W.findIn K (.ref C3) "__class__" = some (some (.builtin "object.__class__")))
    (ecM3 : PySem.W.mroIn K C3 (.type "object") = some true)
    (no3limit : PySem.W.findIn K (.ref C3) "limit" = some none)
    (xC4 : K.lookup C4 = some (excClassObj xnm4 xq4 C4 xN4 xbs4 [.ref C18, .type "ValueError", .type "Exception", .type "BaseException", .type "object"] true xsn4 xsub4 xab4 xcol4 xdd4 xm04 xm14 xm24 xm34 xm54 "ValueError.__new__"))
    (sa4 : PySem.W.findIn K (.ref C4) "__setattr__" = some (some (.builtin "object.__setattr__")))
    (ex4 : PySem.W.subIn K (.ref C4) (.type "BaseException") = some true)
    (ty4 : PySem.W.typeIn K (.ref C4) = some (.type "type"))
    (kp4 : PySem.W.keepIn K (.ref C4) = true)
    (egA4 : PySem.W.findIn K (.ref C4) "__getattribute__" = some (some (.builtin "BaseException.__getattribute__")))
    (egG4 : PySem.W.findIn K (.ref C4) "__getattr__" = some none)
    (ehD4 : PySem.W.hasDictIn K C4 = true)
    (ecA4 : PySem.W.findIn K (.ref C4) "__class__" = some (some (.builtin "object.__class__")))
    (ecM4 : PySem.W.mroIn K C4 (.type "object") = some true)
    (no4left : PySem.W.findIn K (.ref C4) "left" = some none)
    (no4right : PySem.W.findIn K (.ref C4) "right" = some none)
    (xC5 : K.lookup C5 = some (excClassObj xnm5 xq5 C5 xN5 xbs5 [.ref C18, .type "ValueError", .type "Exception", .type "BaseException", .type "object"] true xsn5 xsub5 xab5 xcol5 xdd5 xm05 xm15 xm25 xm35 xm55 "ValueError.__new__"))
    (sa5 : PySem.W.findIn K (.ref C5) "__setattr__" = some (some (.builtin "object.__setattr__")))
    (ex5 : PySem.W.subIn K (.ref C5) (.type "BaseException") = some true)
    (ty5 : PySem.W.typeIn K (.ref C5) = some (.type "type"))
    (kp5 : PySem.W.keepIn K (.ref C5) = true)
    (egA5 : PySem.W.findIn K (.ref C5) "__getattribute__" = some (some (.builtin "BaseException.__getattribute__")))
    (egG5 : PySem.W.findIn K (.ref C5) "__getattr__" = some none)
    (ehD5 : PySem.W.hasDictIn K C5 = true)
    (ecA5 : PySem.W.findIn K (.ref C5) "__class__" = some (some (.builtin "object.__class__")))
    (ecM5 : PySem.W.mroIn K C5 (.type "object") = some true)
    (no5user : PySem.W.findIn K (.ref C5) "user" = some none)
    (xC6 : K.lookup C6 = some (excClassObj xnm6 xq6 C6 xN6 xbs6 [.ref C18, .type "ValueError", .type "Exception", .type "BaseException", .type "object"] true xsn6 xsub6 xab6 xcol6 xdd6 xm06 xm16 xm26 xm36 xm56 "ValueError.__new__"))
    (sa6 : PySem.W.findIn K (.ref C6) "__setattr__" = some (some (.builtin "object.__setattr__")))
    (ex6 : PySem.W.subIn K (.ref C6) (.type "BaseException") = some true)
    (ty6 : PySem.W.typeIn K (.ref C6) = some (.type "type"))
    (kp6 : PySem.W.keepIn K (.ref C6) = true)
    (egA6 : PySem.W.findIn K (.ref C6) "__getattribute__" = some (some (.builtin "BaseException.__getattribute__")))
    (egG6 : PySem.W.findIn K (.ref C6) "__getattr__" = some none)
    (ehD6 : PySem.W.hasDictIn K C6 = true)
    (ecA6 : PySem.W.findIn K (.ref C6) "__class__" = some (some (.builtin "object.__class__")))
    (ecM6 : PySem.W.mroIn K C6 (.type "object") = some true)
    (no6index : PySem.W.findIn K (.ref C6) "index" = some none)
    (xC7 : K.lookup C7 = some (excClassObj xnm7 xq7 C7 xN7 xbs7 [.ref C18, .type "ValueError", .type "Exception", .type "BaseException", .type "object"] true xsn7 xsub7 xab7 xcol7 xdd7 xm07 xm17 xm27 xm37 xm57 "ValueError.__new__"))
    (sa7 : PySem.W.findIn K (.ref C7) "__setattr__" = some (some (.builtin "object.__setattr__")))
    (ex7 : PySem.W.subIn K (.ref C7) (.type "BaseException") = some true)
    (ty7 : PySem.W.typeIn K (.ref C7) = some (.type "type"))
    (kp7 : PySem.W.keepIn K (.ref C7) = true)
    (egA7 : PySem.W.findIn K (.ref C7) "__getattribute__" = some (some (.builtin "BaseException.__getattribute__")))
    (egG7 : PySem.W.findIn K (.ref C7) "__getattr__" = some none)
    (ehD7 : PySem.W.hasDictIn K C7 = true)
    (ecA7 : PySem.W.findIn K (.ref C7) "__class__" = some (some (.builtin "object.__class__")))
    (ecM7 : PySem.W.mroIn K C7 (.type "object") = some true)
    (no7line : PySem.W.findIn K (.ref C7) "line" = some none)
    (xC8 : K.lookup C8 = some (excClassObj xnm8 xq8 C8 xN8 xbs8 [.ref C18, .type "ValueError", .type "Exception", .type "BaseException", .type "object"] true xsn8 xsub8 xab8 xcol8 xdd8 xm08 xm18 xm28 xm38 xm58 "ValueError.__new__"))
    (sa8 : PySem.W.findIn K (.ref C8) "__setattr__" = some (some (.builtin "object.__setattr__")))
    (ex8 : PySem.W.subIn K (.ref C8) (.type "BaseException") = some true)
    (ty8 : PySem.W.typeIn K (.ref C8) = some (.type "type"))
    (kp8 : PySem.W.keepIn K (.ref C8) = true)
    (egA8 : PySem.W.findIn K (.ref C8) "__getattribute__" = some (some (.builtin "BaseException.__getattribute__")))
    (egG8 : PySem.W.findIn K (.ref C8) "__getattr__" = some none)
    (ehD8 : PySem.W.hasDictIn K C8 = true)
    (ecA8 : PySem.W.findIn K (.ref C8) "__class__" = some (some (.builtin "object.__class__")))
    (ecM8 : PySem.W.mroIn K C8 (.type "object") = some true)
    (no8letter : PySem.W.findIn K (.ref C8) "letter" = some none)
    (no8index : PySem.W.findIn K (.ref C8) "index" = some none)
    (xC9 : K.lookup C9 = some (excClassObj xnm9 xq9 C9 xN9 xbs9 [.ref C18, .type "ValueError", .type "Exception", .type "BaseException", .type "object"] true xsn9 xsub9 xab9 xcol9 xdd9 xm09 xm19 xm29 xm39 xm59 "ValueError.__new__"))
    (sa9 : PySem.W.findIn K (.ref C9) "__setattr__" = some (some (.builtin "object.__setattr__")))
    (ex9 : PySem.W.subIn K (.ref C9) (.type "BaseException") = some true)
    (ty9 : PySem.W.typeIn K (.ref C9) = some (.type "type"))
    (kp9 : PySem.W.keepIn K (.ref C9) = true)
    (egA9 : PySem.W.findIn K (.ref C9) "__getattribute__" = some (some (.builtin "BaseException.__getattribute__")))
    (egG9 : PySem.W.findIn K (.ref C9) "__getattr__" = some none)
    (ehD9 : PySem.W.hasDictIn K C9 = true)
    (ecA9 : PySem.W.findIn K (.ref C9) "__class__" = some (some (.builtin "object.__class__")))
    (ecM9 : PySem.W.mroIn K C9 (.type "object") = some true)
    (no9number : PySem.W.findIn K (.ref C9) "number" = some none)
    (xC10 : K.lookup C10 = some (excClassObj xnm10 xq10 C10 xN10 xbs10 [.ref C18, .type "ValueError", .type "Exception", .type "BaseException", .type "object"] true xsn10 xsub10 xab10 xcol10 xdd10 xm010 xm110 xm210 xm310 xm510 "ValueError.__new__"))
    (sa10 : PySem.W.findIn K (.ref C10) "__setattr__" = some (some (.builtin "object.__setattr__")))
    (ex10 : PySem.W.subIn K (.ref C10) (.type "BaseException") = some true)
    (ty10 : PySem.W.typeIn K (.ref C10) = some (.type "type"))
    (kp10 : PySem.W.keepIn K (.ref C10) = true)
    (egA10 : PySem.W.findIn K (.ref C10) "__getattribute__" = some (some (.builtin "BaseException.__getattribute__")))
    (egG10 : PySem.W.findIn K (.ref C10) "__getattr__" = some none)
    (ehD10 : PySem.W.hasDictIn K C10 = true)
    (ecA10 : PySem.W.findIn K (.ref C10) "__class__" = some (some (.builtin "object.__class__")))
    (ecM10 : PySem.W.mroIn K C10 (.type "object") = some true)
    (no10index : PySem.W.findIn K (.ref C10) "index" = some none)
    (xC11 : K.lookup C11 = some (excClassObj xnm11 xq11 C11 xN11 xbs11 [.ref C18, .type "ValueError", .type "Exception", .type "BaseException", .type "object"] true xsn11 xsub11 xab11 xcol11 xdd11 xm011 xm111 xm211 xm311 xm511 "ValueError.__new__"))
    (sa11 : PySem.W.findIn K (.ref C11) "__setattr__" = some (some (.builtin "object.__setattr__")))
    (ex11 : PySem.W.subIn K (.ref C11) (.type "BaseException") = some true)
    (ty11 : PySem.W.typeIn K (.ref C11) = some (.type "type"))
    (kp11 : PySem.W.keepIn K (.ref C11) = true)
    (egA11 : PySem.W.findIn K (.ref C11) "__getattribute__" = some (some (.builtin "BaseException.__getattribute__")))
    (egG11 : PySem.W.findIn K (.ref C11) "__getattr__" = some none)
    (ehD11 : PySem.W.hasDictIn K C11 = true)
    (ecA11 : PySem.W.findIn K (.ref C11) "__class__" = some (some (.builtin "object.__class__")))
    (ecM11 : PySem.W.mroIn K C11 (.type "object") = some true)
    (no11combination : PySem.W.findIn K (.ref C11) "combination" = some none)
    (xC12 : K.lookup C12 = some (excClassObj xnm12 xq12 C12 xN12 xbs12 [.ref C18, .type "ValueError", .type "Exception", .type "BaseException", .type "object"] true xsn12 xsub12 xab12 xcol12 xdd12 xm012 xm112 xm212 xm312 xm512 "ValueError.__new__"))
    (sa12 : PySem.W.findIn K (.ref C12) "__setattr__" = some (some (.builtin "object.__setattr__")))
    (ex12 : PySem.W.subIn K (.ref C12) (.type "BaseException") = some true)
    (ty12 : PySem.W.typeIn K (.ref C12) = some (.type "type"))
    (kp12 : PySem.W.keepIn K (.ref C12) = true)
    (egA12 : PySem.W.findIn K (.ref C12) "__getattribute__" = some (some (.builtin "BaseException.__getattribute__")))
    (egG12 : PySem.W.findIn K (.ref C12) "__getattr__" = some none)
    (ehD12 : PySem.W.hasDictIn K C12 = true)
    (ecA12 : PySem.W.findIn K (.ref C12) "__class__" = some (some (.builtin "object.__class__")))
    (ecM12 : PySem.W.mroIn K C12 (.type "object") = some true)
    (no12name : PySem.W.findIn K (.ref C12) "name" = some none)
    (xC13 : K.lookup C13 = some (excClassObj xnm13 xq13 C13 xN13 xbs13 [.ref C18, .type "ValueError", .type "Exception", .type "BaseException", .type "object"] true xsn13 xsub13 xab13 xcol13 xdd13 xm013 xm113 xm213 xm313 xm513 "ValueError.__new__"))
    (sa13 : PySem.W.findIn K (.ref C13) "__setattr__" = some (some (.builtin "object.__setattr__")))
    (ex13 : PySem.W.subIn K (.ref C13) (.type "BaseException") = some true)
    (ty13 : PySem.W.typeIn K (.ref C13) = some (.type "type"))
    (kp13 : PySem.W.keepIn K (.ref C13) = true)
    (egA13 : PySem.W.findIn K (.ref C13) "__getattribute__" = some (some (.builtin "BaseException.__getattribute__")))
    (egG13 : PySem.W.findIn K (.ref C13) "__getattr__" = some none)
    (ehD13 : PySem.W.hasDictIn K C13 = true)
    (ecA13 : PySem.W.findIn K (.ref C13) "__class__" = some (some (.builtin "object.__class__")))
    (ecM13 : PySem.W.mroIn K C13 (.type "object") = some true)
    (no13name : PySem.W.findIn K (.ref C13) "name" = some none)
    (xC14 : K.lookup C14 = some (excClassObj xnm14 xq14 C14 xN14 xbs14 [.ref C18, .type "ValueError", .type "Exception", .type "BaseException", .type "object"] true xsn14 xsub14 xab14 xcol14 xdd14 xm014 xm114 xm214 xm314 xm514 "ValueError.__new__"))
    (sa14 : PySem.W.findIn K (.ref C14) "__setattr__" = some (some (.builtin "object.__setattr__")))
    (ex14 : PySem.W.subIn K (.ref C14) (.type "BaseException") = some true)
    (ty14 : PySem.W.typeIn K (.ref C14) = some (.type "type"))
    (kp14 : PySem.W.keepIn K (.ref C14) = true)
    (egA14 : PySem.W.findIn K (.ref C14) "__getattribute__" = some (some (.builtin "BaseException.__getattribute__")))
    (egG14 : PySem.W.findIn K (.ref C14) "__getattr__" = some none)
    (ehD14 : PySem.W.hasDictIn K C14 = true)
    (ecA14 : PySem.W.findIn K (.ref C14) "__class__" = some (some (.builtin "object.__class__")))
    (ecM14 : PySem.W.mroIn K C14 (.type "object") = some true)
    (no14kind : PySem.W.findIn K (.ref C14) "kind" = some none)
    (xC15 : K.lookup C15 = some (excClassObj xnm15 xq15 C15 xN15 xbs15 [.ref C18, .type "ValueError", .type "Exception", .type "BaseException", .type "object"] true xsn15 xsub15 xab15 xcol15 xdd15 xm015 xm115 xm215 xm315 xm515 "ValueError.__new__"))
    (sa15 : PySem.W.findIn K (.ref C15) "__setattr__" = some (some (.builtin "object.__setattr__")))
    (ex15 : PySem.W.subIn K (.ref C15) (.type "BaseException") = some true)
    (ty15 : PySem.W.typeIn K (.ref C15) = some (.type "type"))
    (kp15 : PySem.W.keepIn K (.ref C15) = true)
    (egA15 : PySem.W.findIn K (.ref C15) "__getattribute__" = some (some (.builtin "BaseException.__getattribute__")))
    (egG15 : PySem.W.findIn K (.ref C15) "__getattr__" = some none)
    (ehD15 : PySem.W.hasDictIn K C15 = true)
    (ecA15 : PySem.W.findIn K (.ref C15) "__class__" = some (some (.builtin "object.__class__")))
    (ecM15 : PySem.W.mroIn K C15 (.type "object") = some true)
    (no15kind : PySem.W.findIn K (.ref C15) "kind" = some none)
    (su0_0 : PySem.W.subIn K (.ref C0) (.ref C0) = some true)
    (su1_0 : PySem.W.subIn K (.ref C1) (.ref C0) = some false)
    (su1_1 : PySem.W.subIn K (.ref C1) (.ref C1) = some true)
    (su2_0 : PySem.W.subIn K (.ref C2) (.ref C0) = some false)
    (su2_1 : PySem.W.subIn K (.ref C2) (.ref C1) = some false)
    (su2_2 : PySem.W.subIn K (.ref C2) (.ref C2) = some true)
    (su3_0 : PySem.W.subIn K (.ref C3) (.ref C0) = some false)
    (su3_1 : PySem.W.subIn K (.ref C3) (.ref C1) = some false)
    (su3_2 : PySem.W.subIn K (.ref C3) (.ref C2) = some false)
    (su3_3 : PySem.W.subIn K (.ref C3) (.ref C3) = some true)
    (su4_0 : PySem.W.subIn K (.ref C4) (.ref C0) = some false)
    (su4_1 : PySem.W.subIn K (.ref C4) (.ref C1) = some false)
    (su4_2 : PySem.W.subIn K (.ref C4) (.ref C2) = some false)
    (su4_3 : PySem.W.subIn K (.ref C4) (.ref C3) = some false)
    (su4_4 : PySem.W.subIn K (.ref C4) (.ref C4) = some true)
    (su5_0 : PySem.W.subIn K (.ref C5) (.ref C0) = some false)
    (su5_1 : PySem.W.subIn K (.ref C5) (.ref C1) = some false)
    (su5_2 : PySem.W.subIn K (.ref C5) (.ref C2) = some false)
    (su5_3 : PySem.W.subIn K (.ref C5) (.ref C3) = some false)
    (su5_4 : PySem.W.subIn K (.ref C5) (.ref C4) = some false)
    (su5_5 : PySem.W.subIn K (.ref C5) (.ref C5) = some true)
    (su6_6 : PySem.W.subIn K (.ref C6) (.ref C6) = some true)
    (su7_6 : PySem.W.subIn K (.ref C7) (.ref C6) = some false)
    (su7_7 : PySem.W.subIn K (.ref C7) (.ref C7) = some true)
    (su8_6 : PySem.W.subIn K (.ref C8) (.ref C6) = some false)
    (su8_7 : PySem.W.subIn K (.ref C8) (.ref C7) = some false)
    (su8_8 : PySem.W.subIn K (.ref C8) (.ref C8) = some true)
    (su9_6 : PySem.W.subIn K (.ref C9) (.ref C6) = some false)
    (su9_7 : PySem.W.subIn K (.ref C9) (.ref C7) = some false)
    (su9_8 : PySem.W.subIn K (.ref C9) (.ref C8) = some false)
    (su9_9 : PySem.W.subIn K (.ref C9) (.ref C9) = some true)
    (su10_6 : PySem.W.subIn K (.ref C10) (.ref C6) = some false)
    (su10_7 : PySem.W.subIn K (.ref C10) (.ref C7) = some false)
    (su10_8 : PySem.W.subIn K (.ref C10) (.ref C8) = some false)
    (su10_9 : PySem.W.subIn K (.ref C10) (.ref C9) = some false)
    (su10_10 : PySem.W.subIn K (.ref C10) (.ref C10) = some true)
    (su11_6 : PySem.W.subIn K (.ref C11) (.ref C6) = some false)
    (su11_7 : PySem.W.subIn K (.ref C11) (.ref C7) = some false)
    (su11_8 : PySem.W.subIn K (.ref C11) (.ref C8) = some false)
    (su11_9 : PySem.W.subIn K (.ref C11) (.ref C9) = some false)
    (su11_10 : PySem.W.subIn K (.ref C11) (.ref C10) = some false)
    (su11_11 : PySem.W.subIn K (.ref C11) (.ref C11) = some true)
    (su12_12 : PySem.W.subIn K (.ref C12) (.ref C12) = some true)
    (su13_12 : PySem.W.subIn K (.ref C13) (.ref C12) = some false)
    (su13_13 : PySem.W.subIn K (.ref C13) (.ref C13) = some true)
    (su14_12 : PySem.W.subIn K (.ref C14) (.ref C12) = some false)
    (su14_13 : PySem.W.subIn K (.ref C14) (.ref C13) = some false)
    (su14_14 : PySem.W.subIn K (.ref C14) (.ref C14) = some true)
    (su15_12 : PySem.W.subIn K (.ref C15) (.ref C12) = some false)
    (su15_13 : PySem.W.subIn K (.ref C15) (.ref C13) = some false)
    (su15_14 : PySem.W.subIn K (.ref C15) (.ref C14) = some false)
    (su15_15 : PySem.W.subIn K (.ref C15) (.ref C15) = some true)
    (ve0 : PySem.W.kitOne K (.ref C0) (.type "ValueError") = some true)
    (mp0 : (cls19 C0 C1 C2 C3 C4 C5 C6 C7 C8 C9 C10 C11 C12 C13 C14 C15 C16 C17 C18).map (PySem.W.kitOne K (.ref C0)) = ([true, false, false, false, false, false, false, false, false, false, false, false, false, false, false, false, false, false, true] : List Bool).map some)
    (ve1 : PySem.W.kitOne K (.ref C1) (.type "ValueError") = some true)
    (mp1 : (cls19 C0 C1 C2 C3 C4 C5 C6 C7 C8 C9 C10 C11 C12 C13 C14 C15 C16 C17 C18).map (PySem.W.kitOne K (.ref C1)) = ([false, true, false, false, false, false, false, false, false, false, false, false, false, false, false, false, false, false, true] : List Bool).map some)
    (ve2 : PySem.W.kitOne K (.ref C2) (.type "ValueError") = some true)
    (mp2 : (cls19 C0 C1 C2 C3 C4 C5 C6 C7 C8 C9 C10 C11 C12 C13 C14 C15 C16 C17 C18).map (PySem.W.kitOne K (.ref C2)) = ([false, false, true, false, false, false, false, false, false, false, false, false, false, false, false, false, false, false, true] : List Bool).map some)
    (ve3 : PySem.W.kitOne K (.ref C3) (.type "ValueError") = some true)
    (mp3 : (cls19 C0 C1 C2 C3 C4 C5 C6 C7 C8 C9 C10 C11 C12 C13 C14 C15 C16 C17 C18).map (PySem.W.kitOne K (.ref C3)) = ([false, false, false, true, false, false, false, false, false, false, false, false, false, false, false, false, false, false, true] : List Bool).map some)
    (ve4 : PySem.W.kitOne K (.ref C4) (.type "ValueError") = some true)
    (mp4 : (cls19 C0 C1 C2 C3 C4 C5 C6 C7 C8 C9 C10 C11 C12 C13 C14 C15 C16 C17 C18).map (PySem.W.kitOne K (.ref C4)) = ([false, false, false, false, true, false, false, false, false, false, false, false, false, false, false, false, false, false, true] : List Bool).map some)
    (ve5 : PySem.W.kitOne K (.ref C5) (.type "ValueError") = some true)
    (mp5 : (cls19 C0 C1 C2 C3 C4 C5 C6 C7 C8 C9 C10 C11 C12 C13 C14 C15 C16 C17 C18).map (PySem.W.kitOne K (.ref C5)) = ([false, false, false, false, false, true, false, false, false, false, false, false, false, false, false, false, false, false, true] : List Bool).map some)
    (ve6 : PySem.W.kitOne K (.ref C6) (.type "ValueError") = some true)
    (mp6 : (cls19 C0 C1 C2 C3 C4 C5 C6 C7 C8 C9 C10 C11 C12 C13 C14 C15 C16 C17 C18).map (PySem.W.kitOne K (.ref C6)) = ([false, false, false, false, false, false, true, false, false, false, false, false, false, false, false, false, false, false, true] : List Bool).map some)
    (ve7 : PySem.W.kitOne K (.ref C7) (.type "ValueError") = some true)
    (mp7 : (cls19 C0 C1 C2 C3 C4 C5 C6 C7 C8 C9 C10 C11 C12 C13 C14 C15 C16 C17 C18).map (PySem.W.kitOne K (.ref C7)) = ([false, false, false, false, false, false, false, true, false, false, false, false, false, false, false, false, false, false, true] : List Bool).map some)
    (ve8 : PySem.W.kitOne K (.ref C8) (.type "ValueError") = some true)
    (mp8 : (cls19 C0 C1 C2 C3 C4 C5 C6 C7 C8 C9 C10 C11 C12 C13 C14 C15 C16 C17 C18).map (PySem.W.kitOne K (.ref C8)) = ([false, false, false, false, false, false, false, false, true, false, false, false, false, false, false, false, false, false, true] : List Bool).map some)
    (ve9 : PySem.W.kitOne K (.ref C9) (.type "ValueError") = some true)
    (mp9 : (cls19 C0 C1 C2 C3 C4 C5 C6 C7 C8 C9 C10 C11 C12 C13 C14 C15 C16 C17 C18).map (PySem.W.kitOne K (.ref C9)) = ([false, false, false, false, false, false, false, false, false, true, false, false, false, false, false, false, false, false, true] : List Bool).map some)
    (ve10 : PySem.W.kitOne K (.ref C10) (.type "ValueError") = some true)
    (mp10 : (cls19 C0 C1 C2 C3 C4 C5 C6 C7 C8 C9 C10 C11 C12 C13 C14 C15 C16 C17 C18).map (PySem.W.kitOne K (.ref C10)) = ([false, false, false, false, false, false, false, false, false, false, true, false, false, false, false, false, false, false, true] : List Bool).map some)
    (ve11 : PySem.W.kitOne K (.ref C11) (.type "ValueError") = some true)
    (mp11 : (cls19 C0 C1 C2 C3 C4 C5 C6 C7 C8 C9 C10 C11 C12 C13 C14 C15 C16 C17 C18).map (PySem.W.kitOne K (.ref C11)) = ([false, false, false, false, false, false, false, false, false, false, false, true, false, false, false, false, false, false, true] : List Bool).map some)
    (ve12 : PySem.W.kitOne K (.ref C12) (.type "ValueError") = some true)
    (mp12 : (cls19 C0 C1 C2 C3 C4 C5 C6 C7 C8 C9 C10 C11 C12 C13 C14 C15 C16 C17 C18).map (PySem.W.kitOne K (.ref C12)) = ([false, false, false, false, false, false, false, false, false, false, false, false, true, false, false, false, false, false, true] : List Bool).map some)
    (ve13 : PySem.W.kitOne K (.ref C13) (.type "ValueError") = some true)
    (mp13 : (cls19 C0 C1 C2 C3 C4 C5 C6 C7 C8 C9 C10 C11 C12 C13 C14 C15 C16 C17 C18).map (PySem.W.kitOne K (.ref C13)) = ([false, false, false, false, false, false, false, false, false, false, false, false, false, true, false, false, false, false, true] : List Bool).map some)
    (ve14 : PySem.W.kitOne K (.ref C14) (.type "ValueError") = some true)
    (mp14 : (cls19 C0 C1 C2 C3 C4 C5 C6 C7 C8 C9 C10 C11 C12 C13 C14 C15 C16 C17 C18).map (PySem.W.kitOne K (.ref C14)) = ([false, false, false, false, false, false, false, false, false, false, false, false, false, false, true, false, false, false, true] : List Bool).map some)
    (ve15 : PySem.W.kitOne K (.ref C15) (.type "ValueError") = some true)
    (mp15 : (cls19 C0 C1 C2 C3 C4 C5 C6 C7 C8 C9 C10 C11 C12 C13 C14 C15 C16 C17 C18).map (PySem.W.kitOne K (.ref C15)) = ([false, false, false, false, false, false, false, false, false, false, false, false, false, false, false, true, false, false, true] : List Bool).map some)
    (icN : PySem.W.specialIn K (.builtin "object.__class__") "__get__" = some (some (.builtin "getset_descriptor.__get__")))
    (icT : PySem.W.takesIn K (.builtin "object.__class__") = some true)
    (rpg : PySem.W.plainGet K CQ Str.empty = true)
    (rhd : PySem.W.hasDictIn K CQ = true)
    (rpo : PySem.W.plainOver K CQ = true)
    (rsa : PySem.W.findIn K (.ref CQ) "__setattr__" = some (some (.builtin "object.__setattr__")))
    (rmk : PySem.W.makesIn K CQ = true)
    (rkc : PySem.W.keepIn K (.ref CQ) = true)
    (rnT : PySem.W.findIn K (.ref CQ) "top" = some none)
    (rnB : PySem.W.findIn K (.ref CQ) "bottom" = some none)
    (ricA : PySem.W.findIn K (.ref CQ) "__class__" = some (some (.builtin "object.__class__")))
    (ricM : PySem.W.mroIn K CQ (.type "object") = some true)
    (ricE : PySem.W.kitOne K (.ref CQ) (.ref CQ) = some true)
    (rnI : PySem.W.kitOne K (.type "int") (.ref CQ) = some false)
    (gG : PySem.W.nsIn K mainGlobals "gcd" = some (some (.builtin "math.gcd")))
    (z_isinstance : PySem.W.nsIn K mainGlobals "isinstance" = some none)
    (z_int : PySem.W.nsIn K mainGlobals "int" = some none)
    (z_bool : PySem.W.nsIn K mainGlobals "bool" = some none)
    (z_len : PySem.W.nsIn K mainGlobals "len" = some none)
    (z_list : PySem.W.nsIn K mainGlobals "list" = some none)
    (z_range : PySem.W.nsIn K mainGlobals "range" = some none)
    (z_ValueError : PySem.W.nsIn K mainGlobals "ValueError" = some none)
    (kdQ : PySem.W.nsIn K KQ "blank" = some (some (.int 250 tKQ)))
    (aBl : PySem.W.nsIn K mainGlobals "BLANK" = some (some (.int 250 tBl)))
    (pg : PySem.W.plainGet K C Str.empty = true)
    (hd : PySem.W.hasDictIn K C = true)
    (po : PySem.W.plainOver K C = true)
    (sa : PySem.W.findIn K (.ref C) "__setattr__" = some (some (.builtin "object.__setattr__")))
    (mk : PySem.W.makesIn K C = true)
    (kc : PySem.W.keepIn K (.ref C) = true)
    (nA : PySem.W.findIn K (.ref C) "_advances" = some none)
    (nN : PySem.W.findIn K (.ref C) "_kerns" = some none)
    (nB : PySem.W.findIn K (.ref C) "_blank" = some none)
    (nP : PySem.W.findIn K (.ref C) "_past" = some none)
    (cAd : PySem.W.findIn K (.ref C) "MOST_ADVANCE" = some (some (.int 1000000 tAd)))
    (gAd : PySem.W.specialIn K (.int 1000000 tAd) "__get__" = some none)
    (cUn : PySem.W.findIn K (.ref C) "MOST_UNDO" = some (some (.int 50 tUn)))
    (gUn : PySem.W.specialIn K (.int 50 tUn) "__get__" = some none)
    (cLi : PySem.W.findIn K (.ref C) "MOST_LIGATURES" = some (some (.int 40 tLi)))
    (gLi : PySem.W.specialIn K (.int 40 tLi) "__get__" = some none)
    (crd : PySem.W.readsIn K C (.type "type") = true)
    (cga : PySem.W.specialIn K (.ref C) "__getattribute__" = some (some (.builtin "type.__getattribute__")))
    (c6 : PySem.W.findCls K (.ref C) (.type "type") "MOST_LETTERS" = some (.val (.int 6 t6)))
    (exP16 : PySem.W.excIn K C16 [.type "ValueError", .type "Exception", .type "BaseException", .type "object"] "ValueError.__new__" = true)
    (kp16 : PySem.W.keepIn K (.ref C16) = true)
    (ex16 : PySem.W.subIn K (.ref C16) (.type "BaseException") = some true)
    (ty16 : PySem.W.typeIn K (.ref C16) = some (.type "type"))
    (ehD16 : PySem.W.hasDictIn K C16 = true)
    (ex17 : PySem.W.subIn K (.ref C17) (.type "BaseException") = some true)
    (ty17 : PySem.W.typeIn K (.ref C17) = some (.type "type"))
    (ehD17 : PySem.W.hasDictIn K C17 = true)
    (ex18 : PySem.W.subIn K (.ref C18) (.type "BaseException") = some true)
    (ty18 : PySem.W.typeIn K (.ref C18) = some (.type "type"))
    (ehD18 : PySem.W.hasDictIn K C18 = true)
    (egA16 : PySem.W.findIn K (.ref C16) "__getattribute__" = some (some (.builtin "BaseException.__getattribute__")))
    (egG16 : PySem.W.findIn K (.ref C16) "__getattr__" = some none)
    (ecA16 : PySem.W.findIn K (.ref C16) "__class__" = some (some (.builtin "object.__class__")))
    (ecM16 : PySem.W.mroIn K C16 (.type "object") = some true)
    (ve16 : PySem.W.kitOne K (.ref C16) (.type "ValueError") = some true)
    (su16_18 : PySem.W.subIn K (.ref C16) (.ref C18) = some true)
    (mp16 : (cls19 C0 C1 C2 C3 C4 C5 C6 C7 C8 C9 C10 C11 C12 C13 C14 C15 C16 C17 C18).map (PySem.W.kitOne K (.ref C16)) = ([false, false, false, false, false, false, false, false, false, false, false, false, false, false, false, false, true, false, true] : List Bool).map some)
    (egA17 : PySem.W.findIn K (.ref C17) "__getattribute__" = some (some (.builtin "BaseException.__getattribute__")))
    (egG17 : PySem.W.findIn K (.ref C17) "__getattr__" = some none)
    (ecA17 : PySem.W.findIn K (.ref C17) "__class__" = some (some (.builtin "object.__class__")))
    (ecM17 : PySem.W.mroIn K C17 (.type "object") = some true)
    (ve17 : PySem.W.kitOne K (.ref C17) (.type "ValueError") = some true)
    (su17_18 : PySem.W.subIn K (.ref C17) (.ref C18) = some true)
    (mp17 : (cls19 C0 C1 C2 C3 C4 C5 C6 C7 C8 C9 C10 C11 C12 C13 C14 C15 C16 C17 C18).map (PySem.W.kitOne K (.ref C17)) = ([false, false, false, false, false, false, false, false, false, false, false, false, false, false, false, false, false, true, true] : List Bool).map some)
    (z_sorted : PySem.W.nsIn K mainGlobals "sorted" = some none)
    (z_str : PySem.W.nsIn K mainGlobals "str" = some none)
    (z_dict : PySem.W.nsIn K mainGlobals "dict" = some none)
    (tPg : PySem.W.plainGet K CSt Str.empty = true)
    (tHd : PySem.W.hasDictIn K CSt = true)
    (tPo : PySem.W.plainOver K CSt = true)
    (tSa : PySem.W.findIn K (.ref CSt) "__setattr__" = some (some (.builtin "object.__setattr__")))
    (tMk : PySem.W.makesIn K CSt = true)
    (tKc : PySem.W.keepIn K (.ref CSt) = true)
    (tNo_font : PySem.W.findIn K (.ref CSt) "_font" = some none)
    (tNo_begun : PySem.W.findIn K (.ref CSt) "_begun" = some none)
    (tNo_decided : PySem.W.findIn K (.ref CSt) "_decided" = some none)
    (jPg : PySem.W.plainGet K CJo Str.empty = true)
    (jHd : PySem.W.hasDictIn K CJo = true)
    (jPo : PySem.W.plainOver K CJo = true)
    (jSa : PySem.W.findIn K (.ref CJo) "__setattr__" = some (some (.builtin "object.__setattr__")))
    (jMk : PySem.W.makesIn K CJo = true)
    (jKc : PySem.W.keepIn K (.ref CJo) = true)
    (jNo_letters : PySem.W.findIn K (.ref CJo) "_letters" = some none)
    (jNo_states : PySem.W.findIn K (.ref CJo) "_states" = some none)
    (jNo_numbers : PySem.W.findIn K (.ref CJo) "_numbers" = some none)
    (jNo_origins : PySem.W.findIn K (.ref CJo) "_origins" = some none)
    (jNo_steps : PySem.W.findIn K (.ref CJo) "_steps" = some none)
    (jNo_ends : PySem.W.findIn K (.ref CJo) "_ends" = some none)
    (iPg : PySem.W.plainGet K CSi Str.empty = true)
    (iHd : PySem.W.hasDictIn K CSi = true)
    (iPo : PySem.W.plainOver K CSi = true)
    (iSa : PySem.W.findIn K (.ref CSi) "__setattr__" = some (some (.builtin "object.__setattr__")))
    (iMk : PySem.W.makesIn K CSi = true)
    (iKc : PySem.W.keepIn K (.ref CSi) = true)
    (iNo_steps : PySem.W.findIn K (.ref CSi) "_steps" = some none)
    (iNo_ends : PySem.W.findIn K (.ref CSi) "_ends" = some none)
    (aST : PySem.W.nsIn K mainGlobals "START" = some (some (.ref bST)))
    (lST : K.lookup bST = some ⟨.type "tuple", ddST, .seq #[.str "" tS1, .str "" tS2] nST, slST⟩)
    (exP17 : PySem.W.excIn K C17 [.type "ValueError", .type "Exception", .type "BaseException", .type "object"] "ValueError.__new__" = true)
    (kp17 : PySem.W.keepIn K (.ref C17) = true) :
    ∃ fd : FuncData, (∀ (s : Shared) (v : Value), BindsTo s fd ⟨[v], []⟩ [("_law_script", v)]) ∧ ∀ base : Heap, K.In base → base.Ns mainGlobals mg → FnOk l.prog w K mg base CX0 13 fa fd ["_law_script"] (spLaw K) := by
  have e := hfa.symm.trans (PySem.W.mg_of X G aZ)
  cases e
  have FW := fun_mk (st := sWhole) lW cW kW
  have bW := FW.binds (ps := ["value"]) fun _ _ _ _ _ _ us hl => match us, hl with | [_], _ => rfl
  have Fe0 := fun_mk (st := sE0) le0 ce0 ke0
  have be0 := Fe0.binds (ps := ["self", "glyph"]) fun _ _ _ _ _ _ us hl => match us, hl with | [_, _], _ => rfl
  have Fe1 := fun_mk (st := sE1) le1 ce1 ke1
  have be1 := Fe1.binds (ps := ["self", "value"]) fun _ _ _ _ _ _ us hl => match us, hl with | [_, _], _ => rfl
  have Fe2 := fun_mk (st := sE2) le2 ce2 ke2
  have be2 := Fe2.binds (ps := ["self", "glyph"]) fun _ _ _ _ _ _ us hl => match us, hl with | [_, _], _ => rfl
  have Fe3 := fun_mk (st := sE3) le3 ce3 ke3
  have be3 := Fe3.binds (ps := ["self", "limit"]) fun _ _ _ _ _ _ us hl => match us, hl with | [_, _], _ => rfl
  have Fe4 := fun_mk (st := sE4) le4 ce4 ke4
  have be4 := Fe4.binds (ps := ["self", "left", "right"]) fun _ _ _ _ _ _ us hl => match us, hl with | [_, _, _], _ => rfl
  have Fe5 := fun_mk (st := sE5) le5 ce5 ke5
  have be5 := Fe5.binds (ps := ["self", "user"]) fun _ _ _ _ _ _ us hl => match us, hl with | [_, _], _ => rfl
  have Fe6 := fun_mk (st := sE6) le6 ce6 ke6
  have be6 := Fe6.binds (ps := ["self", "index"]) fun _ _ _ _ _ _ us hl => match us, hl with | [_, _], _ => rfl
  have Fe7 := fun_mk (st := sE7) le7 ce7 ke7
  have be7 := Fe7.binds (ps := ["self", "line"]) fun _ _ _ _ _ _ us hl => match us, hl with | [_, _], _ => rfl
  have Fe8 := fun_mk (st := sE8) le8 ce8 ke8
  have be8 := Fe8.binds (ps := ["self", "letter", "index"]) fun _ _ _ _ _ _ us hl => match us, hl with | [_, _, _], _ => rfl
  have Fe9 := fun_mk (st := sE9) le9 ce9 ke9
  have be9 := Fe9.binds (ps := ["self", "number"]) fun _ _ _ _ _ _ us hl => match us, hl with | [_, _], _ => rfl
  have Fe10 := fun_mk (st := sE10) le10 ce10 ke10
  have be10 := Fe10.binds (ps := ["self", "index"]) fun _ _ _ _ _ _ us hl => match us, hl with | [_, _], _ => rfl
  have Fe11 := fun_mk (st := sE11) le11 ce11 ke11
  have be11 := Fe11.binds (ps := ["self", "combination"]) fun _ _ _ _ _ _ us hl => match us, hl with | [_, _], _ => rfl
  have Fe12 := fun_mk (st := sE12) le12 ce12 ke12
  have be12 := Fe12.binds (ps := ["self", "name"]) fun _ _ _ _ _ _ us hl => match us, hl with | [_, _], _ => rfl
  have Fe13 := fun_mk (st := sE13) le13 ce13 ke13
  have be13 := Fe13.binds (ps := ["self", "name"]) fun _ _ _ _ _ _ us hl => match us, hl with | [_, _], _ => rfl
  have Fe14 := fun_mk (st := sE14) le14 ce14 ke14
  have be14 := Fe14.binds (ps := ["self", "kind"]) fun _ _ _ _ _ _ us hl => match us, hl with | [_, _], _ => rfl
  have Fe15 := fun_mk (st := sE15) le15 ce15 ke15
  have be15 := Fe15.binds (ps := ["self", "kind"]) fun _ _ _ _ _ _ us hl => match us, hl with | [_, _], _ => rfl
  have FRQ : FunD K "__init__" "Ratio.__init__" (defArgs RT.sInit) (defBody RT.sInit) (defScope RT.sInit) [.int 1] [] fRQ _ := ⟨⟨ocRQ, odRQ, _, kVRQ, dcRQ, pmRQ, anRQ, cdRQ, ctRQ, slRQ, rfl, lRQ, cRQ, .inr ⟨by simp, DRQ, _, [.int 1 tRQ], dnnRQ, rfl, dRQ, rfl, .cons ⟨tRQ, rfl⟩ .nil⟩, .inl rfl⟩, kRQ⟩
  obtain ⟨dsR, vRQ1, bRQ1⟩ := FRQ.binds1 (ps := ["self", "top", "bottom"]) 2 0 (by simp) rfl fun T kV doc pm an cdv ct us its h1 h2 => match us, its, h1, h2 with | [_, _], [_], _, _ => ⟨_, rfl, rfl⟩
  have FREq := fun_mk (st := RT.sEqR) lREq cREq kREq
  have bREq := FREq.binds (ps := ["self", "other"]) fun _ _ _ _ _ _ us hl => match us, hl with | [_, _], _ => rfl
  have FB := fun_mk (st := sBag) lB cB kB
  have bB := FB.binds (ps := ["_law_script"]) fun _ _ _ _ _ _ us hl => match us, hl with | [_], _ => rfl
  have FT := fun_mk (st := sTake) lT cT kT
  have bT := FT.binds (ps := ["_law_bag_here", "_law_size"]) fun _ _ _ _ _ _ us hl => match us, hl with | [_, _], _ => rfl
  have FX := fun_mk (st := sText) lX cX kX
  have bX := FX.binds (ps := ["_law_bag_here", "_law_letters", "_law_long"]) fun _ _ _ _ _ _ us hl => match us, hl with | [_, _, _], _ => rfl
  have FLG := fun_mk (st := sGly) lLG cLG kLG
  have bLG := FLG.binds (ps := ["_law_way", "_law_number", "_law_word"]) fun _ _ _ _ _ _ us hl => match us, hl with | [_, _, _], _ => rfl
  have FLP := fun_mk (st := sPla) lLP cLP kLP
  have bLP := FLP.binds (ps := ["_law_way", "_law_number", "_law_word"]) fun _ _ _ _ _ _ us hl => match us, hl with | [_, _, _], _ => rfl
  have FLN := fun_mk (st := sNam) lLN cLN kLN
  have bLN := FLN.binds (ps := ["_law_way", "_law_word"]) fun _ _ _ _ _ _ us hl => match us, hl with | [_, _], _ => rfl
  have FLK := fun_mk (st := sKinds) lLK cLK kLK
  have bLK := FLK.binds (ps := ["_law_e"]) fun _ _ _ _ _ _ us hl => match us, hl with | [_], _ => rfl
  have FLL := fun_mk (st := sPlain) lLL cLL kLL
  have bLL := FLL.binds (ps := ["_law_way"]) fun _ _ _ _ _ _ us hl => match us, hl with | [_], _ => rfl
  have FIB := fun_mk (st := sIsB) lIB cIB kIB
  have bIB := FIB.binds (ps := ["value", "low", "high"]) fun _ _ _ _ _ _ us hl => match us, hl with | [_, _, _], _ => rfl
  have FBt := fun_mk (st := sBetween) lBt cBt kBt
  have bBt := FBt.binds (ps := ["value", "low", "high"]) fun _ _ _ _ _ _ us hl => match us, hl with | [_, _, _], _ => rfl
  have FWr := fun_mk (st := sWrite) lWr cWr kWr
  have bWr := FWr.binds (ps := ["table", "key", "value"]) fun _ _ _ _ _ _ us hl => match us, hl with | [_, _, _], _ => rfl
  have FPl := fun_mk (st := sPlace) lPl cPl kPl
  have bPl := FPl.binds (ps := ["glyph"]) fun _ _ _ _ _ _ us hl => match us, hl with | [_], _ => rfl
  have FPP := fun_mk (st := sPair) lPP cPP kPP
  have bPP := FPP.binds (ps := ["pair"]) fun _ _ _ _ _ _ us hl => match us, hl with | [_], _ => rfl
  have FNm := fun_mk (st := sName) lNm cNm kNm
  have bNm := FNm.binds (ps := ["value"]) fun _ _ _ _ _ _ us hl => match us, hl with | [_], _ => rfl
  have FQ : FunD K "__init__" "Font.__init__" (defArgs sInit) (defBody sInit) (defScope sInit) [.non] [("blank", .int 250)] fQ _ := ⟨⟨ocQ, odQ, _, _, dcQ, pmQ, anQ, cdQ, ctQ, slQ, rfl, lQ, cQ, .inr ⟨by simp, DQ, _, [.none], dnnQ, rfl, dQ, rfl, .cons rfl .nil⟩, .inr ⟨KQ, rfl, fun q hq => by
    rw [List.mem_singleton.mp hq]
    exact ⟨_, kdQ, ⟨tKQ, rfl⟩⟩⟩⟩, kQ⟩
  obtain ⟨dsQ, vQ, bQ⟩ := FQ.binds (ps := ["self", "advances", "kerns", "blank"]) 2 0 (by simp) rfl (fun T D doc pm an cdv ct us its ks h1 h2 h3 => match us, its, ks, h1, h2, h3 with | [_, _], [_], [_], _, _, _ => ⟨_, rfl, ⟨_, _, _, _, _, _, rfl, rfl, rfl⟩⟩) (by simp)
  have FHas := fun_mk (st := sHas) lHas cHas kHas
  have bHas := FHas.binds (ps := ["self", "x"]) fun _ _ _ _ _ _ us hl => match us, hl with | [_, _], _ => rfl
  have FLen := fun_mk (st := sLen) lLen cLen kLen
  have bLen := FLen.binds (ps := ["self"]) fun _ _ _ _ _ _ us hl => match us, hl with | [_], _ => rfl
  have FGl := fun_mk (st := sGlyphs) lGl cGl kGl
  have bGl := FGl.binds (ps := ["self"]) fun _ _ _ _ _ _ us hl => match us, hl with | [_], _ => rfl
  have FAo := fun_mk (st := sAdvOf) lAo cAo kAo
  have bAo := FAo.binds (ps := ["self", "glyph"]) fun _ _ _ _ _ _ us hl => match us, hl with | [_, _], _ => rfl
  have FPA := fun_mk (st := sPutA) lPA cPA kPA
  have bPA := FPA.binds (ps := ["self", "glyph", "advance"]) fun _ _ _ _ _ _ us hl => match us, hl with | [_, _, _], _ => rfl
  have FPK := fun_mk (st := sPutK) lPK cPK kPK
  have bPK := FPK.binds (ps := ["self", "left", "right", "kern"]) fun _ _ _ _ _ _ us hl => match us, hl with | [_, _, _, _], _ => rfl
  have FPB := fun_mk (st := sPutB) lPB cPB kPB
  have bPB := FPB.binds (ps := ["self", "advance"]) fun _ _ _ _ _ _ us hl => match us, hl with | [_, _], _ => rfl
  have FKn := fun_mk (st := sKnown) lKn cKn kKn
  have bKn := FKn.binds (ps := ["self", "glyph"]) fun _ _ _ _ _ _ us hl => match us, hl with | [_, _], _ => rfl
  have FCL := fun_mk (st := sLetters) lCL cCL kCL
  have bCL := FCL.binds (ps := ["self", "glyph"]) fun _ _ _ _ _ _ us hl => match us, hl with | [_, _], _ => rfl
  have FCR := fun_mk (st := sRoom) lCR cCR kCR
  have bCR := FCR.binds (ps := ["self", "glyph"]) fun _ _ _ _ _ _ us hl => match us, hl with | [_, _], _ => rfl
  have FCK := fun_mk (st := sKOk) lCK cCK kCK
  have bCK := FCK.binds (ps := ["self", "glyph", "advance"]) fun _ _ _ _ _ _ us hl => match us, hl with | [_, _, _], _ => rfl
  have FWA := fun_mk (st := sWrA) lWA cWA kWA
  have bWA := FWA.binds (ps := ["self", "glyph", "advance"]) fun _ _ _ _ _ _ us hl => match us, hl with | [_, _, _], _ => rfl
  have FWK := fun_mk (st := sWrK) lWK cWK kWK
  have bWK := FWK.binds (ps := ["self", "pair", "kern"]) fun _ _ _ _ _ _ us hl => match us, hl with | [_, _, _], _ => rfl
  have FLg := fun_mk (st := sLigs) lLg cLg kLg
  have bLg := FLg.binds (ps := ["self"]) fun _ _ _ _ _ _ us hl => match us, hl with | [_], _ => rfl
  have FU := fun_mk (st := sUndo) lU cU kU
  have bU := FU.binds (ps := ["self"]) fun _ _ _ _ _ _ us hl => match us, hl with | [_], _ => rfl
  have FLt := fun_mk (st := sLett) lLt cLt kLt
  have bLt := FLt.binds (ps := ["self"]) fun _ _ _ _ _ _ us hl => match us, hl with | [_], _ => rfl
  have FBg := fun_mk (st := sBeg) lBg cBg kBg
  have bBg := FBg.binds (ps := ["font"]) fun _ _ _ _ _ _ us hl => match us, hl with | [_], _ => rfl
  have FRo := fun_mk (st := sRow0) lRo cRo kRo
  have bRo := FRo.binds (ps := ["font", "text"]) fun _ _ _ _ _ _ us hl => match us, hl with | [_, _], _ => rfl
  have FAdW := fun_mk (st := sAdd0) lAdW cAdW kAdW
  have bAdW := FAdW.binds (ps := ["font", "last", "glyphs"]) fun _ _ _ _ _ _ us hl => match us, hl with | [_, _, _], _ => rfl
  have FSF := fun_mk (st := sFin0) lSF cSF kSF
  have bSF := FSF.binds (ps := ["self", "state"]) fun _ _ _ _ _ _ us hl => match us, hl with | [_, _], _ => rfl
  have FSI := fun_mk (st := sStp0) lSI cSI kSI
  have bSI := FSI.binds (ps := ["self", "font"]) fun _ _ _ _ _ _ us hl => match us, hl with | [_, _], _ => rfl
  have FNu := fun_mk (st := sNum0) lNu cNu kNu
  have bNu := FNu.binds (ps := ["self", "state", "origin"]) fun _ _ _ _ _ _ us hl => match us, hl with | [_, _, _], _ => rfl
  have FSd := fun_mk (st := sSide) lSd cSd kSd
  have bSd := FSd.binds (ps := ["self", "font", "letters"]) fun _ _ _ _ _ _ us hl => match us, hl with | [_, _, _], _ => rfl
  have FSf := fun_mk (st := sSFin) lSf cSf kSf
  have bSf := FSf.binds (ps := ["self", "state"]) fun _ _ _ _ _ _ us hl => match us, hl with | [_, _], _ => rfl
  have FEx := fun_mk (st := sExpl) lEx cEx kEx
  have bEx := FEx.binds (ps := ["self", "first", "second"]) fun _ _ _ _ _ _ us hl => match us, hl with | [_, _, _], _ => rfl
  have FJo := fun_mk (st := sJoin) lJo cJo kJo
  have bJo := FJo.binds (ps := ["self", "first", "second"]) fun _ _ _ _ _ _ us hl => match us, hl with | [_, _, _], _ => rfl
  have FJl := fun_mk (st := sJLet) lJl cJl kJl
  have bJl := FJl.binds (ps := ["self"]) fun _ _ _ _ _ _ us hl => match us, hl with | [_], _ => rfl
  have FCo := fun_mk (st := sCom) lCo cCo kCo
  have bCo := FCo.binds (ps := ["joined"]) fun _ _ _ _ _ _ us hl => match us, hl with | [_], _ => rfl
  have FWo := fun_mk (st := sWorst) lWo cWo kWo
  have bWo := FWo.binds (ps := ["joined"]) fun _ _ _ _ _ _ us hl => match us, hl with | [_], _ => rfl
  have FZ := fun_mk (st := sLaw) lZ cZ kZ
  have mz : ∀ {x : Str}, PySem.W.nsIn K mainGlobals x = some none → mg x = none := fun z => PySem.W.mg_none_of X G z
  have TO0 : OexC K C0 := ⟨⟨xnm0, xq0, xN0, xbs0, _, xsn0, xsub0, xab0, xcol0, xdd0, xm00, xm10, xm20, xm30, xm50, xC0, (by show PySem.HandSPX.refsVE [.type "ValueError", .type "Exception", .type "BaseException", .type "object"] = true; decide +kernel)⟩, sa0, ex0, ty0, kp0⟩
  have RE0 : ErrC K mg "InvalidGlyph" C0 f0 := ⟨PySem.W.mg_of X G aC0, TO0, ae0, te0⟩
  have XF0 : XfC K C0 := ⟨egA0, egG0, ex0, ehD0⟩
  have XC0 : ExcC K C0 := ⟨egA0, egG0, ex0, ehD0, ecA0, icN, icT, ecM0⟩
  have KD0 : KdE K (cls19 C0 C1 C2 C3 C4 C5 C6 C7 C8 C9 C10 C11 C12 C13 C14 C15 C16 C17 C18) C0 := ⟨XC0, ve0, ⟨_, mp0, rfl, rfl⟩⟩
  have TO1 : OexC K C1 := ⟨⟨xnm1, xq1, xN1, xbs1, _, xsn1, xsub1, xab1, xcol1, xdd1, xm01, xm11, xm21, xm31, xm51, xC1, (by show PySem.HandSPX.refsVE [.type "ValueError", .type "Exception", .type "BaseException", .type "object"] = true; decide +kernel)⟩, sa1, ex1, ty1, kp1⟩
  have RE1 : ErrC K mg "InvalidNumber" C1 f1 := ⟨PySem.W.mg_of X G aC1, TO1, ae1, te1⟩
  have XF1 : XfC K C1 := ⟨egA1, egG1, ex1, ehD1⟩
  have XC1 : ExcC K C1 := ⟨egA1, egG1, ex1, ehD1, ecA1, icN, icT, ecM1⟩
  have KD1 : KdE K (cls19 C0 C1 C2 C3 C4 C5 C6 C7 C8 C9 C10 C11 C12 C13 C14 C15 C16 C17 C18) C1 := ⟨XC1, ve1, ⟨_, mp1, rfl, rfl⟩⟩
  have TO2 : OexC K C2 := ⟨⟨xnm2, xq2, xN2, xbs2, _, xsn2, xsub2, xab2, xcol2, xdd2, xm02, xm12, xm22, xm32, xm52, xC2, (by show PySem.HandSPX.refsVE [.type "ValueError", .type "Exception", .type "BaseException", .type "object"] = true; decide +kernel)⟩, sa2, ex2, ty2, kp2⟩
  have RE2 : ErrC K mg "UnknownGlyph" C2 f2 := ⟨PySem.W.mg_of X G aC2, TO2, ae2, te2⟩
  have XF2 : XfC K C2 := ⟨egA2, egG2, ex2, ehD2⟩
  have XC2 : ExcC K C2 := ⟨egA2, egG2, ex2, ehD2, ecA2, icN, icT, ecM2⟩
  have KD2 : KdE K (cls19 C0 C1 C2 C3 C4 C5 C6 C7 C8 C9 C10 C11 C12 C13 C14 C15 C16 C17 C18) C2 := ⟨XC2, ve2, ⟨_, mp2, rfl, rfl⟩⟩
  have TO3 : OexC K C3 := ⟨⟨xnm3, xq3, xN3, xbs3, _, xsn3, xsub3, xab3, xcol3, xdd3, xm03, xm13, xm23, xm33, xm53, xC3, (by show PySem.HandSPX.refsVE [.type "ValueError", .type "Exception", .type "BaseException", .type "object"] = true; decide +kernel)⟩, sa3, ex3, ty3, kp3⟩
  have RE3 : ErrC K mg "TooMany" C3 f3 := ⟨PySem.W.mg_of X G aC3, TO3, ae3, te3⟩
  have XF3 : XfC K C3 := ⟨egA3, egG3, ex3, ehD3⟩
  have XC3 : ExcC K C3 := ⟨egA3, egG3, ex3, ehD3, ecA3, icN, icT, ecM3⟩
  have KD3 : KdE K (cls19 C0 C1 C2 C3 C4 C5 C6 C7 C8 C9 C10 C11 C12 C13 C14 C15 C16 C17 C18) C3 := ⟨XC3, ve3, ⟨_, mp3, rfl, rfl⟩⟩
  have TO4 : OexC K C4 := ⟨⟨xnm4, xq4, xN4, xbs4, _, xsn4, xsub4, xab4, xcol4, xdd4, xm04, xm14, xm24, xm34, xm54, xC4, (by show PySem.HandSPX.refsVE [.type "ValueError", .type "Exception", .type "BaseException", .type "object"] = true; decide +kernel)⟩, sa4, ex4, ty4, kp4⟩
  have RE4 : ErrC K mg "Overlap" C4 f4 := ⟨PySem.W.mg_of X G aC4, TO4, ae4, te4⟩
  have XF4 : XfC K C4 := ⟨egA4, egG4, ex4, ehD4⟩
  have XC4 : ExcC K C4 := ⟨egA4, egG4, ex4, ehD4, ecA4, icN, icT, ecM4⟩
  have KD4 : KdE K (cls19 C0 C1 C2 C3 C4 C5 C6 C7 C8 C9 C10 C11 C12 C13 C14 C15 C16 C17 C18) C4 := ⟨XC4, ve4, ⟨_, mp4, rfl, rfl⟩⟩
  have TO5 : OexC K C5 := ⟨⟨xnm5, xq5, xN5, xbs5, _, xsn5, xsub5, xab5, xcol5, xdd5, xm05, xm15, xm25, xm35, xm55, xC5, (by show PySem.HandSPX.refsVE [.type "ValueError", .type "Exception", .type "BaseException", .type "object"] = true; decide +kernel)⟩, sa5, ex5, ty5, kp5⟩
  have RE5 : ErrC K mg "InUse" C5 f5 := ⟨PySem.W.mg_of X G aC5, TO5, ae5, te5⟩
  have XF5 : XfC K C5 := ⟨egA5, egG5, ex5, ehD5⟩
  have XC5 : ExcC K C5 := ⟨egA5, egG5, ex5, ehD5, ecA5, icN, icT, ecM5⟩
  have KD5 : KdE K (cls19 C0 C1 C2 C3 C4 C5 C6 C7 C8 C9 C10 C11 C12 C13 C14 C15 C16 C17 C18) C5 := ⟨XC5, ve5, ⟨_, mp5, rfl, rfl⟩⟩
  have TO6 : OexC K C6 := ⟨⟨xnm6, xq6, xN6, xbs6, _, xsn6, xsub6, xab6, xcol6, xdd6, xm06, xm16, xm26, xm36, xm56, xC6, (by show PySem.HandSPX.refsVE [.type "ValueError", .type "Exception", .type "BaseException", .type "object"] = true; decide +kernel)⟩, sa6, ex6, ty6, kp6⟩
  have RE6 : ErrC K mg "DeedRefused" C6 f6 := ⟨PySem.W.mg_of X G aC6, TO6, ae6, te6⟩
  have XF6 : XfC K C6 := ⟨egA6, egG6, ex6, ehD6⟩
  have XC6 : ExcC K C6 := ⟨egA6, egG6, ex6, ehD6, ecA6, icN, icT, ecM6⟩
  have KD6 : KdE K (cls19 C0 C1 C2 C3 C4 C5 C6 C7 C8 C9 C10 C11 C12 C13 C14 C15 C16 C17 C18) C6 := ⟨XC6, ve6, ⟨_, mp6, rfl, rfl⟩⟩
  have TO7 : OexC K C7 := ⟨⟨xnm7, xq7, xN7, xbs7, _, xsn7, xsub7, xab7, xcol7, xdd7, xm07, xm17, xm27, xm37, xm57, xC7, (by show PySem.HandSPX.refsVE [.type "ValueError", .type "Exception", .type "BaseException", .type "object"] = true; decide +kernel)⟩, sa7, ex7, ty7, kp7⟩
  have RE7 : ErrC K mg "InvalidLine" C7 f7 := ⟨PySem.W.mg_of X G aC7, TO7, ae7, te7⟩
  have XF7 : XfC K C7 := ⟨egA7, egG7, ex7, ehD7⟩
  have XC7 : ExcC K C7 := ⟨egA7, egG7, ex7, ehD7, ecA7, icN, icT, ecM7⟩
  have KD7 : KdE K (cls19 C0 C1 C2 C3 C4 C5 C6 C7 C8 C9 C10 C11 C12 C13 C14 C15 C16 C17 C18) C7 := ⟨XC7, ve7, ⟨_, mp7, rfl, rfl⟩⟩
  have TO8 : OexC K C8 := ⟨⟨xnm8, xq8, xN8, xbs8, _, xsn8, xsub8, xab8, xcol8, xdd8, xm08, xm18, xm28, xm38, xm58, xC8, (by show PySem.HandSPX.refsVE [.type "ValueError", .type "Exception", .type "BaseException", .type "object"] = true; decide +kernel)⟩, sa8, ex8, ty8, kp8⟩
  have RE8 : ErrC K mg "UnknownLetter" C8 f8 := ⟨PySem.W.mg_of X G aC8, TO8, ae8, te8⟩
  have XF8 : XfC K C8 := ⟨egA8, egG8, ex8, ehD8⟩
  have XC8 : ExcC K C8 := ⟨egA8, egG8, ex8, ehD8, ecA8, icN, icT, ecM8⟩
  have KD8 : KdE K (cls19 C0 C1 C2 C3 C4 C5 C6 C7 C8 C9 C10 C11 C12 C13 C14 C15 C16 C17 C18) C8 := ⟨XC8, ve8, ⟨_, mp8, rfl, rfl⟩⟩
  have TO9 : OexC K C9 := ⟨⟨xnm9, xq9, xN9, xbs9, _, xsn9, xsub9, xab9, xcol9, xdd9, xm09, xm19, xm29, xm39, xm59, xC9, (by show PySem.HandSPX.refsVE [.type "ValueError", .type "Exception", .type "BaseException", .type "object"] = true; decide +kernel)⟩, sa9, ex9, ty9, kp9⟩
  have RE9 : ErrC K mg "InvalidState" C9 f9 := ⟨PySem.W.mg_of X G aC9, TO9, ae9, te9⟩
  have XF9 : XfC K C9 := ⟨egA9, egG9, ex9, ehD9⟩
  have XC9 : ExcC K C9 := ⟨egA9, egG9, ex9, ehD9, ecA9, icN, icT, ecM9⟩
  have KD9 : KdE K (cls19 C0 C1 C2 C3 C4 C5 C6 C7 C8 C9 C10 C11 C12 C13 C14 C15 C16 C17 C18) C9 := ⟨XC9, ve9, ⟨_, mp9, rfl, rfl⟩⟩
  have TO10 : OexC K C10 := ⟨⟨xnm10, xq10, xN10, xbs10, _, xsn10, xsub10, xab10, xcol10, xdd10, xm010, xm110, xm210, xm310, xm510, xC10, (by show PySem.HandSPX.refsVE [.type "ValueError", .type "Exception", .type "BaseException", .type "object"] = true; decide +kernel)⟩, sa10, ex10, ty10, kp10⟩
  have RE10 : ErrC K mg "InvalidText" C10 f10 := ⟨PySem.W.mg_of X G aC10, TO10, ae10, te10⟩
  have XF10 : XfC K C10 := ⟨egA10, egG10, ex10, ehD10⟩
  have XC10 : ExcC K C10 := ⟨egA10, egG10, ex10, ehD10, ecA10, icN, icT, ecM10⟩
  have KD10 : KdE K (cls19 C0 C1 C2 C3 C4 C5 C6 C7 C8 C9 C10 C11 C12 C13 C14 C15 C16 C17 C18) C10 := ⟨XC10, ve10, ⟨_, mp10, rfl, rfl⟩⟩
  have TO11 : OexC K C11 := ⟨⟨xnm11, xq11, xN11, xbs11, _, xsn11, xsub11, xab11, xcol11, xdd11, xm011, xm111, xm211, xm311, xm511, xC11, (by show PySem.HandSPX.refsVE [.type "ValueError", .type "Exception", .type "BaseException", .type "object"] = true; decide +kernel)⟩, sa11, ex11, ty11, kp11⟩
  have RE11 : ErrC K mg "Contradiction" C11 f11 := ⟨PySem.W.mg_of X G aC11, TO11, ae11, te11⟩
  have XF11 : XfC K C11 := ⟨egA11, egG11, ex11, ehD11⟩
  have XC11 : ExcC K C11 := ⟨egA11, egG11, ex11, ehD11, ecA11, icN, icT, ecM11⟩
  have KD11 : KdE K (cls19 C0 C1 C2 C3 C4 C5 C6 C7 C8 C9 C10 C11 C12 C13 C14 C15 C16 C17 C18) C11 := ⟨XC11, ve11, ⟨_, mp11, rfl, rfl⟩⟩
  have TO12 : OexC K C12 := ⟨⟨xnm12, xq12, xN12, xbs12, _, xsn12, xsub12, xab12, xcol12, xdd12, xm012, xm112, xm212, xm312, xm512, xC12, (by show PySem.HandSPX.refsVE [.type "ValueError", .type "Exception", .type "BaseException", .type "object"] = true; decide +kernel)⟩, sa12, ex12, ty12, kp12⟩
  have RE12 : ErrC K mg "NameTaken" C12 f12 := ⟨PySem.W.mg_of X G aC12, TO12, ae12, te12⟩
  have XF12 : XfC K C12 := ⟨egA12, egG12, ex12, ehD12⟩
  have XC12 : ExcC K C12 := ⟨egA12, egG12, ex12, ehD12, ecA12, icN, icT, ecM12⟩
  have KD12 : KdE K (cls19 C0 C1 C2 C3 C4 C5 C6 C7 C8 C9 C10 C11 C12 C13 C14 C15 C16 C17 C18) C12 := ⟨XC12, ve12, ⟨_, mp12, rfl, rfl⟩⟩
  have TO13 : OexC K C13 := ⟨⟨xnm13, xq13, xN13, xbs13, _, xsn13, xsub13, xab13, xcol13, xdd13, xm013, xm113, xm213, xm313, xm513, xC13, (by show PySem.HandSPX.refsVE [.type "ValueError", .type "Exception", .type "BaseException", .type "object"] = true; decide +kernel)⟩, sa13, ex13, ty13, kp13⟩
  have RE13 : ErrC K mg "UnknownName" C13 f13 := ⟨PySem.W.mg_of X G aC13, TO13, ae13, te13⟩
  have XF13 : XfC K C13 := ⟨egA13, egG13, ex13, ehD13⟩
  have XC13 : ExcC K C13 := ⟨egA13, egG13, ex13, ehD13, ecA13, icN, icT, ecM13⟩
  have KD13 : KdE K (cls19 C0 C1 C2 C3 C4 C5 C6 C7 C8 C9 C10 C11 C12 C13 C14 C15 C16 C17 C18) C13 := ⟨XC13, ve13, ⟨_, mp13, rfl, rfl⟩⟩
  have TO14 : OexC K C14 := ⟨⟨xnm14, xq14, xN14, xbs14, _, xsn14, xsub14, xab14, xcol14, xdd14, xm014, xm114, xm214, xm314, xm514, xC14, (by show PySem.HandSPX.refsVE [.type "ValueError", .type "Exception", .type "BaseException", .type "object"] = true; decide +kernel)⟩, sa14, ex14, ty14, kp14⟩
  have RE14 : ErrC K mg "UnknownKind" C14 f14 := ⟨PySem.W.mg_of X G aC14, TO14, ae14, te14⟩
  have XF14 : XfC K C14 := ⟨egA14, egG14, ex14, ehD14⟩
  have XC14 : ExcC K C14 := ⟨egA14, egG14, ex14, ehD14, ecA14, icN, icT, ecM14⟩
  have KD14 : KdE K (cls19 C0 C1 C2 C3 C4 C5 C6 C7 C8 C9 C10 C11 C12 C13 C14 C15 C16 C17 C18) C14 := ⟨XC14, ve14, ⟨_, mp14, rfl, rfl⟩⟩
  have TO15 : OexC K C15 := ⟨⟨xnm15, xq15, xN15, xbs15, _, xsn15, xsub15, xab15, xcol15, xdd15, xm015, xm115, xm215, xm315, xm515, xC15, (by show PySem.HandSPX.refsVE [.type "ValueError", .type "Exception", .type "BaseException", .type "object"] = true; decide +kernel)⟩, sa15, ex15, ty15, kp15⟩
  have RE15 : ErrC K mg "InvalidOptions" C15 f15 := ⟨PySem.W.mg_of X G aC15, TO15, ae15, te15⟩
  have XF15 : XfC K C15 := ⟨egA15, egG15, ex15, ehD15⟩
  have XC15 : ExcC K C15 := ⟨egA15, egG15, ex15, ehD15, ecA15, icN, icT, ecM15⟩
  have KD15 : KdE K (cls19 C0 C1 C2 C3 C4 C5 C6 C7 C8 C9 C10 C11 C12 C13 C14 C15 C16 C17 C18) C15 := ⟨XC15, ve15, ⟨_, mp15, rfl, rfl⟩⟩
  have TR : RT.TxR K mg CQ C1 f1 fW := ⟨⟨rpg, rhd, rpo, rsa⟩, rnT, rnB, PySem.W.mg_of X G aCQ, RE1, PySem.W.mg_of X G aW, kW, PySem.W.mg_of X G gG⟩
  have IC : _root_.C8.InsC K CQ := ⟨⟨rpg, rhd, rpo, rsa⟩, ricA, icN, icT, ricM, ricE⟩
  have TM : RT.TxM K mg CQ := ⟨⟨rpg, rhd, rpo, rsa⟩, rnT, rnB, PySem.W.mg_of X G aCQ, IC, rnI, mz z_isinstance⟩
  have MR : Mk K CQ fRQ := ⟨rmk, aRQ, iRQ, rkc⟩
  have REI := RE1
  have REU := RE2
  have RET := RE3
  have REG := RE0
  have REO := RE4
  have CC : Cls K C := ⟨pg, hd, po, sa⟩
  have TF : TxF K mg C C1 f1 fW fBt fWr := ⟨CC, nA, nN, nB, nP, ⟨_, cAd, ⟨tAd, rfl⟩, gAd, by decide +kernel⟩, ⟨_, cUn, ⟨tUn, rfl⟩, gUn, by decide +kernel⟩, REI, ⟨PySem.W.mg_of X G aW, kW⟩, ⟨PySem.W.mg_of X G aBt, kBt⟩, ⟨PySem.W.mg_of X G aWr, kWr⟩, mz z_len⟩
  have TH : TxH K mg C fHas fLen C2 f2 fPl := ⟨aHas, iHas, aLen, iLen, REU, mz z_isinstance, mz z_str, mz z_list, mz z_sorted, PySem.W.mg_of X G aPl⟩
  have FC : FontC K mg C (.type "type") := ⟨PySem.W.mg_of X G aC, ⟨crd, cga⟩, ⟨_, c6, ⟨t6, rfl⟩⟩⟩
  have hML : ∃ u, Con K C "MOST_LIGATURES" (.int 40) u := ⟨_, cLi, ⟨tLi, rfl⟩, gLi, by decide +kernel⟩
  have PLg : PropOf K C "ligatures" pL fLg := ⟨pLa, pLg, pLt, ⟨_, pLr⟩⟩
  have MQ : Mk K C fQ := ⟨mk, aQ, iQ, kc⟩
  have XC16 : ExcC K C16 := ⟨egA16, egG16, ex16, ehD16, ecA16, icN, icT, ecM16⟩
  have XC17 : ExcC K C17 := ⟨egA17, egG17, ex17, ehD17, ecA17, icN, icT, ecM17⟩
  have TS : TxS K CSt := ⟨⟨tPg, tHd, tPo, tSa⟩, tNo_font, tNo_begun, tNo_decided⟩
  have TJ : TxJ2 K CJo := ⟨⟨⟨jPg, jHd, jPo, jSa⟩, jNo_numbers, jNo_states, jNo_origins⟩, jNo_letters, jNo_steps, jNo_ends⟩
  have TD : TxD K mg CSi bST := ⟨⟨iPg, iHd, iPo, iSa⟩, iNo_steps, iNo_ends, PySem.W.mg_of X G aST, fun _ => .inr ⟨_, _, _, lST, rfl, rfl, (by show 2 ≤ sizeLine; rw [sizeLine_eq]; decide), .cons ⟨_, rfl⟩ (.cons ⟨_, rfl⟩ .nil)⟩, mz z_len⟩
  have MSt : Mk K CSt fSI := ⟨tMk, aSI, iSI, tKc⟩
  have MJo : Mk K CJo fJo := ⟨jMk, aJo, iJo, jKc⟩
  have MSi : Mk K CSi fSd := ⟨iMk, aSd, iSd, iKc⟩
  have PLt : PropOf K C "letters" pPL fLt := ⟨pLta, pLtg, pLtt, ⟨_, pLtr⟩⟩
  have PJl : PropOf K CJo "letters" pPJ fJl := ⟨pJla, pJlg, pJlt, ⟨_, pJlr⟩⟩
  have N17 : Err0 K mg "NoCommonLetters" C17 := ⟨PySem.W.mg_of X G aC17, exP17, ex17, ty17, kp17⟩
  have N0 : Err0 K mg "NothingToUndo" C16 := ⟨PySem.W.mg_of X G aC16, exP16, ex16, ty16, kp16⟩
  exact ⟨PySem.W.fnOf "law" "law" (defArgs sLaw) (defBody sLaw) (defScope sLaw) .none kVZ dcZ pmZ anZ cdZ ctZ, fun s v => .of_eq rfl, fun base _ _ => by
    have G0 : FnOk l.prog w K mg base CX0 1 f0 _ ["self", "glyph"] (spEx1 C0 "glyph") := ok_e0 Fe0 TO0 no0glyph
    have G1 : FnOk l.prog w K mg base CX0 1 f1 _ ["self", "value"] (spEx1 C1 "value") := ok_e1 Fe1 TO1 no1value
    have G2 : FnOk l.prog w K mg base CX0 1 f2 _ ["self", "glyph"] (spEx1 C2 "glyph") := ok_e2 Fe2 TO2 no2glyph
    have G3 : FnOk l.prog w K mg base CX0 1 f3 _ ["self", "limit"] (spEx1 C3 "limit") := ok_e3 Fe3 TO3 no3limit
    have G4 : FnOk l.prog w K mg base CX0 1 f4 _ ["self", "left", "right"] (spEx2 C4 "left" "right") := ok_e4 Fe4 TO4 no4left no4right
    have G5 : FnOk l.prog w K mg base CX0 1 f5 _ ["self", "user"] (spEx1 C5 "user") := ok_e5 Fe5 TO5 no5user
    have G6 : FnOk l.prog w K mg base CX0 1 f6 _ ["self", "index"] (spEx1 C6 "index") := ok_e6 Fe6 TO6 no6index
    have G7 : FnOk l.prog w K mg base CX0 1 f7 _ ["self", "line"] (spEx1 C7 "line") := ok_e7 Fe7 TO7 no7line
    have G8 : FnOk l.prog w K mg base CX0 1 f8 _ ["self", "letter", "index"] (spEx2 C8 "letter" "index") := ok_e8 Fe8 TO8 no8letter no8index
    have G9 : FnOk l.prog w K mg base CX0 1 f9 _ ["self", "number"] (spEx1 C9 "number") := ok_e9 Fe9 TO9 no9number
    have G10 : FnOk l.prog w K mg base CX0 1 f10 _ ["self", "index"] (spEx1 C10 "index") := ok_e10 Fe10 TO10 no10index
    have G11 : FnOk l.prog w K mg base CX0 1 f11 _ ["self", "combination"] (spEx1 C11 "combination") := ok_e11 Fe11 TO11 no11combination
    have G12 : FnOk l.prog w K mg base CX0 1 f12 _ ["self", "name"] (spEx1 C12 "name") := ok_e12 Fe12 TO12 no12name
    have G13 : FnOk l.prog w K mg base CX0 1 f13 _ ["self", "name"] (spEx1 C13 "name") := ok_e13 Fe13 TO13 no13name
    have G14 : FnOk l.prog w K mg base CX0 1 f14 _ ["self", "kind"] (spEx1 C14 "kind") := ok_e14 Fe14 TO14 no14kind
    have G15 : FnOk l.prog w K mg base CX0 1 f15 _ ["self", "kind"] (spEx1 C15 "kind") := ok_e15 Fe15 TO15 no15kind
    have GW : FnOk l.prog w K mg base CX0 1 fW _ ["value"] (spWhole K) := ok_whole FW (mz z_isinstance) (mz z_int) (mz z_bool)
    have GWH : L2H.FnH l.prog w K mg base CX0 1 fW _ ["value"] (spWhole K) := RT.ok_wholeH FW (mz z_isinstance) (mz z_int) (mz z_bool)
    have GRQ := RT.ok_init FRQ TR G1 be1 GW bW
    have GQH := RT.ok_initH FRQ TR GWH bW
    have GEH := RT.ok_eqH (P := l.prog) (w := w) (base := base) FREq TM
    have GG := ok_sGly FLG RE0 XF0 no0glyph G0 be0 RE1 XF1 no1value G1 be1 RE2 XF2 no2glyph G2 be2 RE3 XF3 no3limit G3 be3 RE4 XF4 no4left no4right G4 be4 RE5 XF5 no5user G5 be5 (PySem.W.exm_ref ex0 ehD0 ty0 su0_0) (PySem.W.exm_ref ex0 ehD0 ty0 su1_0) (PySem.W.exm_ref ex1 ehD1 ty1 su1_1) (PySem.W.exm_ref ex0 ehD0 ty0 su2_0) (PySem.W.exm_ref ex1 ehD1 ty1 su2_1) (PySem.W.exm_ref ex2 ehD2 ty2 su2_2) (PySem.W.exm_ref ex0 ehD0 ty0 su3_0) (PySem.W.exm_ref ex1 ehD1 ty1 su3_1) (PySem.W.exm_ref ex2 ehD2 ty2 su3_2) (PySem.W.exm_ref ex3 ehD3 ty3 su3_3) (PySem.W.exm_ref ex0 ehD0 ty0 su4_0) (PySem.W.exm_ref ex1 ehD1 ty1 su4_1) (PySem.W.exm_ref ex2 ehD2 ty2 su4_2) (PySem.W.exm_ref ex3 ehD3 ty3 su4_3) (PySem.W.exm_ref ex4 ehD4 ty4 su4_4) (PySem.W.exm_ref ex0 ehD0 ty0 su5_0) (PySem.W.exm_ref ex1 ehD1 ty1 su5_1) (PySem.W.exm_ref ex2 ehD2 ty2 su5_2) (PySem.W.exm_ref ex3 ehD3 ty3 su5_3) (PySem.W.exm_ref ex4 ehD4 ty4 su5_4) (PySem.W.exm_ref ex5 ehD5 ty5 su5_5)
    have GP := ok_sPla FLP RE6 XF6 no6index G6 be6 RE7 XF7 no7line G7 be7 RE8 XF8 no8letter no8index G8 be8 RE9 XF9 no9number G9 be9 RE10 XF10 no10index G10 be10 RE11 XF11 no11combination G11 be11 (PySem.W.exm_ref ex6 ehD6 ty6 su6_6) (PySem.W.exm_ref ex6 ehD6 ty6 su7_6) (PySem.W.exm_ref ex7 ehD7 ty7 su7_7) (PySem.W.exm_ref ex6 ehD6 ty6 su8_6) (PySem.W.exm_ref ex7 ehD7 ty7 su8_7) (PySem.W.exm_ref ex8 ehD8 ty8 su8_8) (PySem.W.exm_ref ex6 ehD6 ty6 su9_6) (PySem.W.exm_ref ex7 ehD7 ty7 su9_7) (PySem.W.exm_ref ex8 ehD8 ty8 su9_8) (PySem.W.exm_ref ex9 ehD9 ty9 su9_9) (PySem.W.exm_ref ex6 ehD6 ty6 su10_6) (PySem.W.exm_ref ex7 ehD7 ty7 su10_7) (PySem.W.exm_ref ex8 ehD8 ty8 su10_8) (PySem.W.exm_ref ex9 ehD9 ty9 su10_9) (PySem.W.exm_ref ex10 ehD10 ty10 su10_10) (PySem.W.exm_ref ex6 ehD6 ty6 su11_6) (PySem.W.exm_ref ex7 ehD7 ty7 su11_7) (PySem.W.exm_ref ex8 ehD8 ty8 su11_8) (PySem.W.exm_ref ex9 ehD9 ty9 su11_9) (PySem.W.exm_ref ex10 ehD10 ty10 su11_10) (PySem.W.exm_ref ex11 ehD11 ty11 su11_11) MR (PySem.W.mg_of X G aCQ) GRQ bRQ1 vRQ1 GQH GEH aREq iREq bREq
    have GN := ok_sNam FLN RE12 XF12 no12name G12 be12 RE13 XF13 no13name G13 be13 RE14 XF14 no14kind G14 be14 RE15 XF15 no15kind G15 be15 (PySem.W.exm_ref ex12 ehD12 ty12 su12_12) (PySem.W.exm_ref ex12 ehD12 ty12 su13_12) (PySem.W.exm_ref ex13 ehD13 ty13 su13_13) (PySem.W.exm_ref ex12 ehD12 ty12 su14_12) (PySem.W.exm_ref ex13 ehD13 ty13 su14_13) (PySem.W.exm_ref ex14 ehD14 ty14 su14_14) (PySem.W.exm_ref ex12 ehD12 ty12 su15_12) (PySem.W.exm_ref ex13 ehD13 ty13 su15_13) (PySem.W.exm_ref ex14 ehD14 ty14 su15_14) (PySem.W.exm_ref ex15 ehD15 ty15 su15_15)
    have GK := ok_kinds (P := l.prog) (w := w) (base := base) FLK (mz z_isinstance) (mz z_len) (mz z_ValueError) (PySem.W.mg_of X G aC0) (PySem.W.mg_of X G aC1) (PySem.W.mg_of X G aC2) (PySem.W.mg_of X G aC3) (PySem.W.mg_of X G aC4) (PySem.W.mg_of X G aC5) (PySem.W.mg_of X G aC6) (PySem.W.mg_of X G aC7) (PySem.W.mg_of X G aC8) (PySem.W.mg_of X G aC9) (PySem.W.mg_of X G aC10) (PySem.W.mg_of X G aC11) (PySem.W.mg_of X G aC12) (PySem.W.mg_of X G aC13) (PySem.W.mg_of X G aC14) (PySem.W.mg_of X G aC15) (PySem.W.mg_of X G aC16) (PySem.W.mg_of X G aC17) (PySem.W.mg_of X G aC18)
    have GT : FnOk l.prog w K mg base CX0 1 fT _ ["_law_bag_here", "_law_size"] spTake := ok_take FT (mz z_len) (mz z_int)
    have GX := ok_text FX ⟨PySem.W.mg_of X G aT, kT⟩ (mz z_range) (mz z_len) GT bT
    have GIB := ok_isB (P := l.prog) (w := w) (base := base) FIB TF GW bW
    have GBt := ok_between (P := l.prog) (w := w) (base := base) FBt TF ⟨PySem.W.mg_of X G aIB, kIB⟩ GIB bIB G1 be1
    have GWrK : FnOk l.prog w K mg base CX0 1 fWr _ ["table", "key", "value"] spWriteK := ok_writeK FWr
    have GWrT : FnOk l.prog w K mg base CX0 1 fWr _ ["table", "key", "value"] spWriteT := ok_writeT FWr
    have KP : KeyStr l.prog w K mg base fPl kRank := key_place FPl bPl (mz z_len) (mz z_isinstance) (mz z_str)
    have KPP : KeyPair l.prog w K mg base fPP kPlace := key_pair FPP bPP (mz z_isinstance) (mz z_str)
    have GNm : FnOk l.prog w K mg base CX0 1 fNm _ ["value"] (spName K) := ok_name FNm FC (mz z_isinstance) (mz z_str) (mz z_len)
    have GHas := ok_has (P := l.prog) (w := w) (base := base) FHas TF TH
    have GKn := ok_known FKn TF TH GHas bHas G2 be2
    have GAo := ok_advOf FAo TF GKn bKn ⟨aKn, iKn, kKn⟩
    have GGl := ok_glyphs FGl TF TH KP
    have GLg := ok_ligs FLg TF GGl bGl ⟨aGl, iGl, kGl⟩
    have GCL := ok_letters FCL TF GKn bKn ⟨aKn, iKn, kKn⟩
    have GCR := ok_room (fH := fHas) FCR TF TH hML RET GHas bHas PLg GLg bLg G3 be3
    have GCK := ok_kok (P := l.prog) (w := w) (base := base) FCK TF
    have GWA := ok_wrA FWA TF GWrK bWr
    have GWK := ok_wrK FWK TF GWrT bWr
    have GPB := ok_putB FPB TF GBt bBt
    have GPA := ok_putA FPA TF ⟨PySem.W.mg_of X G aNm, kNm⟩ GNm bNm REG G0 be0 GBt bBt GCL bCL ⟨aCL, iCL, kCL⟩ GCR bCR ⟨aCR, iCR, kCR⟩ GCK bCK ⟨aCK, iCK, kCK⟩ GWA bWA ⟨aWA, iWA, kWA⟩
    have GPK := ok_putK FPK TF REO G4 be4 GBt bBt GKn bKn ⟨aKn, iKn, kKn⟩ GWK bWK ⟨aWK, iWK, kWK⟩
    have GQ := ok_font FQ TF TH (PySem.W.mg_of X G aBl) (PySem.W.mg_of X G aPP) KP KPP GPB bPB ⟨aPB, iPB, kPB⟩ GPA bPA ⟨aPA, iPA, kPA⟩ GPK bPK ⟨aPK, iPK, kPK⟩
    have GU := ok_undo0 (P := l.prog) (w := w) (base := base) FU TF N0
    have GLt := ok_lett0 FLt TF GGl bGl ⟨aGl, iGl, kGl⟩
    have GBg := ok_beg0 (P := l.prog) (w := w) (base := base) FBg CC PLg GLg bLg
    have GRo : FnOk l.prog w K mg base CX0 1 fRo _ ["font", "text"] spRow0 := ok_row0 FRo (mz z_len)
    have GAdW : FnOk l.prog w K mg base CX0 1 fAdW _ ["font", "last", "glyphs"] spAdd0 := ok_add0 FAdW
    have GSF := ok_fin0 (P := l.prog) (w := w) (base := base) (C := C) FSF TS ⟨PySem.W.mg_of X G aRo, kRo⟩ GRo bRo ⟨PySem.W.mg_of X G aAdW, kAdW⟩ GAdW bAdW
    have GSI := ok_stp0 (P := l.prog) (w := w) (base := base) FSI TS ⟨PySem.W.mg_of X G aBg, kBg⟩ GBg bBg
    have GNu := ok_num0 (P := l.prog) (w := w) (base := base) FNu TJ.toTxJ (mz z_len)
    have GSd := ok_side0 (P := l.prog) (w := w) (base := base) FSd TD TS MSt (PySem.W.mg_of X G aCSt) GSI bSI ⟨aSF, iSF, kSF⟩ GSF bSF
    have GSf := ok_sfin (P := l.prog) (w := w) (base := base) FSf TD
    have GEx := ok_expl (P := l.prog) (w := w) (base := base) FEx TJ TD ⟨aSf, iSf, kSf⟩ GSf bSf
    have GJo := ok_join0 (P := l.prog) (w := w) (base := base) FJo TJ TD CC PLt GLt bLt ⟨aNu, iNu, kNu⟩ GNu bNu ⟨aEx, iEx, kEx⟩ GEx bEx MSi (PySem.W.mg_of X G aCSi) GSd bSd
    have GJl := ok_jlet (P := l.prog) (w := w) (base := base) FJl TJ (mz z_list)
    have GCo := ok_com0 (P := l.prog) (w := w) (base := base) FCo TJ (mz z_len) PJl GJl bJl N17
    have GWo := ok_worst0 (P := l.prog) (w := w) (base := base) FWo ⟨PySem.W.mg_of X G aCo, kCo⟩ GCo bCo
    have GL := ok_plain (LV := 11) FLL (mz z_isinstance) (mz z_ValueError) CC ⟨aU, iU, kU⟩ GU bU MQ (PySem.W.mg_of X G aC) GQ bQ vQ MJo (PySem.W.mg_of X G aCJo) GJo bJo ⟨PySem.W.mg_of X G aWo, kWo⟩ GWo bWo (by decide) (PySem.W.mg_of X G aC0) (PySem.W.mg_of X G aC1) (PySem.W.mg_of X G aC2) (PySem.W.mg_of X G aC3) (PySem.W.mg_of X G aC4) (PySem.W.mg_of X G aC5) (PySem.W.mg_of X G aC6) (PySem.W.mg_of X G aC7) (PySem.W.mg_of X G aC8) (PySem.W.mg_of X G aC9) (PySem.W.mg_of X G aC10) (PySem.W.mg_of X G aC11) (PySem.W.mg_of X G aC12) (PySem.W.mg_of X G aC13) (PySem.W.mg_of X G aC14) (PySem.W.mg_of X G aC15) (PySem.W.mg_of X G aC16) (PySem.W.mg_of X G aC17) (PySem.W.mg_of X G aC18) XC16 mp16 ve16 (PySem.W.exm_ref ex18 ehD18 ty18 su16_18) XC17 mp17 ve17 (PySem.W.exm_ref ex18 ehD18 ty18 su17_18)
    exact ok_law FZ (by decide) (mz z_range) ⟨PySem.W.mg_of X G aB, kB⟩ (ok_bag FB (mz z_list)) bB ⟨PySem.W.mg_of X G aT, kT⟩ GT bT ⟨PySem.W.mg_of X G aX, kX⟩ GX bX ⟨PySem.W.mg_of X G aLG, kLG⟩ GG bLG ⟨PySem.W.mg_of X G aLP, kLP⟩ GP bLP ⟨PySem.W.mg_of X G aLN, kLN⟩ GN bLN ⟨PySem.W.mg_of X G aLK, kLK⟩ GK bLK ⟨PySem.W.mg_of X G aLL, kLL⟩ GL bLL RE0 G0 be0 KD0 RE1 G1 be1 KD1 RE2 G2 be2 KD2 RE3 G3 be3 KD3 RE4 G4 be4 KD4 RE5 G5 be5 KD5 RE6 G6 be6 KD6 RE7 G7 be7 KD7 RE8 G8 be8 KD8 RE9 G9 be9 KD9 RE10 G10 be10 KD10 RE11 G11 be11 KD11 RE12 G12 be12 KD12 RE13 G13 be13 KD13 RE14 G14 be14 KD14 RE15 G15 be15 KD15⟩
end Toy
open PySem PySem.W PyProof.Rows
set_option maxRecDepth 100000 in
set_option maxHeartbeats 0 in
theorem PySem.Challenge.cw_fontgap_k72_errors_of_their_own_kinds_holds : PySem.Challenge.rw_fontgap_k72_errors_of_their_own_kinds.Holds := by
  w_on; o_law
  refine HandSHeadRun.head_imp (r := HdK.R) (q := HdK.qv) (H := HdK.hk) (ob := HdK.ob) (M := 22000) (loose := HdK.names) (d := HandSHeadRun.topDef HdK.R.prog 72) (kwd := []) HdK.ob_eq HdK.run (by kernel_rfl) (by kernel_rfl) (by kernel_rfl) (by rfl) (by first | assumption | decide +kernel) (by decide +kernel) ⟨rfl, rfl, rfl, rfl, rfl, by decide +kernel⟩ ?hw ?hc
  case hw => w_witness2
  case hc =>
    refine L2.walk_ofE (l := PySem.Challenge.rw_fontgap_k72_errors_of_their_own_kinds) (n := 63) (k := 13) (x := "_law_script") (CX := L2.CX0) rfl (by decide) (by kernel_rfl) ⟨rfl, by decide, by decide⟩ ?F (fun _ _ _ _ z => z)
    intro w mg fa h Y G hmg0
    obtain ⟨K, KX, c⟩ := Y
    have hmg : mg ("law" : PySem.Str) = some (.ref fa) := by
      have e : (HandSHeadRun.topDef HdK.R.prog 72).name = ("law" : PySem.Str) := by kernel_rfl
      rw [← e]
      exact hmg0
    have c0 : HdK.look0 K = HdK.told0 := c
    have eoN0 : HdK.oN0 K = HdK.oN0v := congrArg (fun z : HdK.Look0 => z.1) c0
    have eoN1 : HdK.oN1 K = HdK.oN1v := congrArg (fun z : HdK.Look0 => z.2.1) c0
    have eoN2 : HdK.oN2 K = HdK.oN2v := congrArg (fun z : HdK.Look0 => z.2.2.1) c0
    have eoN3 : HdK.oN3 K = HdK.oN3v := congrArg (fun z : HdK.Look0 => z.2.2.2.1) c0
    have eoN4 : HdK.oN4 K = HdK.oN4v := congrArg (fun z : HdK.Look0 => z.2.2.2.2.1) c0
    have eoN5 : HdK.oN5 K = HdK.oN5v := congrArg (fun z : HdK.Look0 => z.2.2.2.2.2.1) c0
    have eoN6 : HdK.oN6 K = HdK.oN6v := congrArg (fun z : HdK.Look0 => z.2.2.2.2.2.2.1) c0
    have eoN7 : HdK.oN7 K = HdK.oN7v := congrArg (fun z : HdK.Look0 => z.2.2.2.2.2.2.2.1) c0
    have eoN8 : HdK.oN8 K = HdK.oN8v := congrArg (fun z : HdK.Look0 => z.2.2.2.2.2.2.2.2.1) c0
    have eoN9 : HdK.oN9 K = HdK.oN9v := congrArg (fun z : HdK.Look0 => z.2.2.2.2.2.2.2.2.2.1) c0
    have eoT0 : HdK.oT0 K = HdK.oT0v := congrArg (fun z : HdK.Look0 => z.2.2.2.2.2.2.2.2.2.2.1) c0
    have eoT1 : HdK.oT1 K = HdK.oT1v := congrArg (fun z : HdK.Look0 => z.2.2.2.2.2.2.2.2.2.2.2.1) c0
    have eoS0 : HdK.oS0 K = HdK.oS0v := congrArg (fun z : HdK.Look0 => z.2.2.2.2.2.2.2.2.2.2.2.2.1) c0
    have eoS1 : HdK.oS1 K = HdK.oS1v := congrArg (fun z : HdK.Look0 => z.2.2.2.2.2.2.2.2.2.2.2.2.2.1) c0
    have eoS2 : HdK.oS2 K = HdK.oS2v := congrArg (fun z : HdK.Look0 => z.2.2.2.2.2.2.2.2.2.2.2.2.2.2.1) c0
    have eoS3 : HdK.oS3 K = HdK.oS3v := congrArg (fun z : HdK.Look0 => z.2.2.2.2.2.2.2.2.2.2.2.2.2.2.2.1) c0
    have eoS4 : HdK.oS4 K = HdK.oS4v := congrArg (fun z : HdK.Look0 => z.2.2.2.2.2.2.2.2.2.2.2.2.2.2.2.2.1) c0
    have eoB0 : HdK.oB0 K = HdK.oB0v := congrArg (fun z : HdK.Look0 => z.2.2.2.2.2.2.2.2.2.2.2.2.2.2.2.2.2.1) c0
    have eoB1 : HdK.oB1 K = HdK.oB1v := congrArg (fun z : HdK.Look0 => z.2.2.2.2.2.2.2.2.2.2.2.2.2.2.2.2.2.2.1) c0
    have eoB2 : HdK.oB2 K = HdK.oB2v := congrArg (fun z : HdK.Look0 => z.2.2.2.2.2.2.2.2.2.2.2.2.2.2.2.2.2.2.2.1) c0
    have eoB3 : HdK.oB3 K = HdK.oB3v := congrArg (fun z : HdK.Look0 => z.2.2.2.2.2.2.2.2.2.2.2.2.2.2.2.2.2.2.2.2.1) c0
    have eoB4 : HdK.oB4 K = HdK.oB4v := congrArg (fun z : HdK.Look0 => z.2.2.2.2.2.2.2.2.2.2.2.2.2.2.2.2.2.2.2.2.2.1) c0
    have eoB5 : HdK.oB5 K = HdK.oB5v := congrArg (fun z : HdK.Look0 => z.2.2.2.2.2.2.2.2.2.2.2.2.2.2.2.2.2.2.2.2.2.2.1) c0
    have eoB6 : HdK.oB6 K = HdK.oB6v := congrArg (fun z : HdK.Look0 => z.2.2.2.2.2.2.2.2.2.2.2.2.2.2.2.2.2.2.2.2.2.2.2.1) c0
    have eoR0 : HdK.oR0 K = HdK.oR0v := congrArg (fun z : HdK.Look0 => z.2.2.2.2.2.2.2.2.2.2.2.2.2.2.2.2.2.2.2.2.2.2.2.2.1) c0
    have eoM0 : HdK.oM0 K = HdK.oM0v := congrArg (fun z : HdK.Look0 => z.2.2.2.2.2.2.2.2.2.2.2.2.2.2.2.2.2.2.2.2.2.2.2.2.2.1) c0
    have eoL0 : HdK.oL0 K = HdK.oL0v := congrArg (fun z : HdK.Look0 => z.2.2.2.2.2.2.2.2.2.2.2.2.2.2.2.2.2.2.2.2.2.2.2.2.2.2.1) c0
    have eoQ0 : HdK.oQ0 K = HdK.oQ0v := congrArg (fun z : HdK.Look0 => z.2.2.2.2.2.2.2.2.2.2.2.2.2.2.2.2.2.2.2.2.2.2.2.2.2.2.2.1) c0
    have eoF0 : HdK.oF0 K = HdK.oF0v := congrArg (fun z : HdK.Look0 => z.2.2.2.2.2.2.2.2.2.2.2.2.2.2.2.2.2.2.2.2.2.2.2.2.2.2.2.2.1) c0
    have eoF1 : HdK.oF1 K = HdK.oF1v := congrArg (fun z : HdK.Look0 => z.2.2.2.2.2.2.2.2.2.2.2.2.2.2.2.2.2.2.2.2.2.2.2.2.2.2.2.2.2.1) c0
    have eoF2 : HdK.oF2 K = HdK.oF2v := congrArg (fun z : HdK.Look0 => z.2.2.2.2.2.2.2.2.2.2.2.2.2.2.2.2.2.2.2.2.2.2.2.2.2.2.2.2.2.2.1) c0
    have eoC0 : HdK.oC0 K = HdK.oC0v := congrArg (fun z : HdK.Look0 => z.2.2.2.2.2.2.2.2.2.2.2.2.2.2.2.2.2.2.2.2.2.2.2.2.2.2.2.2.2.2.2.1) c0
    have eoC1 : HdK.oC1 K = HdK.oC1v := congrArg (fun z : HdK.Look0 => z.2.2.2.2.2.2.2.2.2.2.2.2.2.2.2.2.2.2.2.2.2.2.2.2.2.2.2.2.2.2.2.2.1) c0
    have eoC2 : HdK.oC2 K = HdK.oC2v := congrArg (fun z : HdK.Look0 => z.2.2.2.2.2.2.2.2.2.2.2.2.2.2.2.2.2.2.2.2.2.2.2.2.2.2.2.2.2.2.2.2.2.1) c0
    have eoX0 : HdK.oX0 K = HdK.oX0v := congrArg (fun z : HdK.Look0 => z.2.2.2.2.2.2.2.2.2.2.2.2.2.2.2.2.2.2.2.2.2.2.2.2.2.2.2.2.2.2.2.2.2.2) c0
    obtain ⟨_, _, _, _, _, _, _, _, lW, cW⟩ := HdK.fnX (HdK.nth eoF0 0 rfl rfl) (HdK.nth eoC0 0 rfl rfl)
    obtain ⟨_, _, _, _, _, _, _, _, le0, ce0⟩ := HdK.fnX (HdK.nth eoF0 1 rfl rfl) (HdK.nth eoC0 1 rfl rfl)
    obtain ⟨_, _, _, _, _, _, _, _, le1, ce1⟩ := HdK.fnX (HdK.nth eoF0 2 rfl rfl) (HdK.nth eoC0 2 rfl rfl)
    obtain ⟨_, _, _, _, _, _, _, _, le2, ce2⟩ := HdK.fnX (HdK.nth eoF0 3 rfl rfl) (HdK.nth eoC0 3 rfl rfl)
    obtain ⟨_, _, _, _, _, _, _, _, le3, ce3⟩ := HdK.fnX (HdK.nth eoF0 4 rfl rfl) (HdK.nth eoC0 4 rfl rfl)
    obtain ⟨_, _, _, _, _, _, _, _, le4, ce4⟩ := HdK.fnX (HdK.nth eoF0 5 rfl rfl) (HdK.nth eoC0 5 rfl rfl)
    obtain ⟨_, _, _, _, _, _, _, _, le5, ce5⟩ := HdK.fnX (HdK.nth eoF0 6 rfl rfl) (HdK.nth eoC0 6 rfl rfl)
    obtain ⟨_, _, _, _, _, _, _, _, le6, ce6⟩ := HdK.fnX (HdK.nth eoF0 7 rfl rfl) (HdK.nth eoC0 7 rfl rfl)
    obtain ⟨_, _, _, _, _, _, _, _, le7, ce7⟩ := HdK.fnX (HdK.nth eoF0 8 rfl rfl) (HdK.nth eoC0 8 rfl rfl)
    obtain ⟨_, _, _, _, _, _, _, _, le8, ce8⟩ := HdK.fnX (HdK.nth eoF0 9 rfl rfl) (HdK.nth eoC0 9 rfl rfl)
    obtain ⟨_, _, _, _, _, _, _, _, le9, ce9⟩ := HdK.fnX (HdK.nth eoF0 10 rfl rfl) (HdK.nth eoC0 10 rfl rfl)
    obtain ⟨_, _, _, _, _, _, _, _, le10, ce10⟩ := HdK.fnX (HdK.nth eoF0 11 rfl rfl) (HdK.nth eoC0 11 rfl rfl)
    obtain ⟨_, _, _, _, _, _, _, _, le11, ce11⟩ := HdK.fnX (HdK.nth eoF0 12 rfl rfl) (HdK.nth eoC0 12 rfl rfl)
    obtain ⟨_, _, _, _, _, _, _, _, le12, ce12⟩ := HdK.fnX (HdK.nth eoF0 13 rfl rfl) (HdK.nth eoC0 13 rfl rfl)
    obtain ⟨_, _, _, _, _, _, _, _, le13, ce13⟩ := HdK.fnX (HdK.nth eoF0 14 rfl rfl) (HdK.nth eoC0 14 rfl rfl)
    obtain ⟨_, _, _, _, _, _, _, _, le14, ce14⟩ := HdK.fnX (HdK.nth eoF0 15 rfl rfl) (HdK.nth eoC0 15 rfl rfl)
    obtain ⟨_, _, _, _, _, _, _, _, le15, ce15⟩ := HdK.fnX (HdK.nth eoF0 16 rfl rfl) (HdK.nth eoC0 16 rfl rfl)
    obtain ⟨_, _, _, _, _, _, _, _, lRQ, cRQ⟩ := HdK.fnX (HdK.nth eoF0 17 rfl rfl) (HdK.nth eoC0 17 rfl rfl)
    obtain ⟨_, _, _, _, _, _, _, _, lREq, cREq⟩ := HdK.fnX (HdK.nth eoF0 18 rfl rfl) (HdK.nth eoC0 18 rfl rfl)
    obtain ⟨_, _, _, _, _, _, _, _, lB, cB⟩ := HdK.fnX (HdK.nth eoF0 19 rfl rfl) (HdK.nth eoC0 19 rfl rfl)
    obtain ⟨_, _, _, _, _, _, _, _, lT, cT⟩ := HdK.fnX (HdK.nth eoF0 20 rfl rfl) (HdK.nth eoC0 20 rfl rfl)
    obtain ⟨_, _, _, _, _, _, _, _, lX, cX⟩ := HdK.fnX (HdK.nth eoF0 21 rfl rfl) (HdK.nth eoC0 21 rfl rfl)
    obtain ⟨_, _, _, _, _, _, _, _, lLG, cLG⟩ := HdK.fnX (HdK.nth eoF0 22 rfl rfl) (HdK.nth eoC0 22 rfl rfl)
    obtain ⟨_, _, _, _, _, _, _, _, lLP, cLP⟩ := HdK.fnX (HdK.nth eoF0 23 rfl rfl) (HdK.nth eoC0 23 rfl rfl)
    obtain ⟨_, _, _, _, _, _, _, _, lLN, cLN⟩ := HdK.fnX (HdK.nth eoF1 0 rfl rfl) (HdK.nth eoC1 0 rfl rfl)
    obtain ⟨_, _, _, _, _, _, _, _, lLK, cLK⟩ := HdK.fnX (HdK.nth eoF1 1 rfl rfl) (HdK.nth eoC1 1 rfl rfl)
    obtain ⟨_, _, _, _, _, _, _, _, lLL, cLL⟩ := HdK.fnX (HdK.nth eoF1 2 rfl rfl) (HdK.nth eoC1 2 rfl rfl)
    obtain ⟨_, _, _, _, _, _, _, _, lIB, cIB⟩ := HdK.fnX (HdK.nth eoF1 3 rfl rfl) (HdK.nth eoC1 3 rfl rfl)
    obtain ⟨_, _, _, _, _, _, _, _, lBt, cBt⟩ := HdK.fnX (HdK.nth eoF1 4 rfl rfl) (HdK.nth eoC1 4 rfl rfl)
    obtain ⟨_, _, _, _, _, _, _, _, lWr, cWr⟩ := HdK.fnX (HdK.nth eoF1 5 rfl rfl) (HdK.nth eoC1 5 rfl rfl)
    obtain ⟨_, _, _, _, _, _, _, _, lPl, cPl⟩ := HdK.fnX (HdK.nth eoF1 6 rfl rfl) (HdK.nth eoC1 6 rfl rfl)
    obtain ⟨_, _, _, _, _, _, _, _, lPP, cPP⟩ := HdK.fnX (HdK.nth eoF1 7 rfl rfl) (HdK.nth eoC1 7 rfl rfl)
    obtain ⟨_, _, _, _, _, _, _, _, lNm, cNm⟩ := HdK.fnX (HdK.nth eoF1 8 rfl rfl) (HdK.nth eoC1 8 rfl rfl)
    obtain ⟨_, _, _, _, _, _, _, _, lQ, cQ⟩ := HdK.fnX (HdK.nth eoF1 9 rfl rfl) (HdK.nth eoC1 9 rfl rfl)
    obtain ⟨_, _, _, _, _, _, _, _, lHas, cHas⟩ := HdK.fnX (HdK.nth eoF1 10 rfl rfl) (HdK.nth eoC1 10 rfl rfl)
    obtain ⟨_, _, _, _, _, _, _, _, lLen, cLen⟩ := HdK.fnX (HdK.nth eoF1 11 rfl rfl) (HdK.nth eoC1 11 rfl rfl)
    obtain ⟨_, _, _, _, _, _, _, _, lGl, cGl⟩ := HdK.fnX (HdK.nth eoF1 12 rfl rfl) (HdK.nth eoC1 12 rfl rfl)
    obtain ⟨_, _, _, _, _, _, _, _, lAo, cAo⟩ := HdK.fnX (HdK.nth eoF1 13 rfl rfl) (HdK.nth eoC1 13 rfl rfl)
    obtain ⟨_, _, _, _, _, _, _, _, lPA, cPA⟩ := HdK.fnX (HdK.nth eoF1 14 rfl rfl) (HdK.nth eoC1 14 rfl rfl)
    obtain ⟨_, _, _, _, _, _, _, _, lPK, cPK⟩ := HdK.fnX (HdK.nth eoF1 15 rfl rfl) (HdK.nth eoC1 15 rfl rfl)
    obtain ⟨_, _, _, _, _, _, _, _, lPB, cPB⟩ := HdK.fnX (HdK.nth eoF1 16 rfl rfl) (HdK.nth eoC1 16 rfl rfl)
    obtain ⟨_, _, _, _, _, _, _, _, lKn, cKn⟩ := HdK.fnX (HdK.nth eoF1 17 rfl rfl) (HdK.nth eoC1 17 rfl rfl)
    obtain ⟨_, _, _, _, _, _, _, _, lCL, cCL⟩ := HdK.fnX (HdK.nth eoF1 18 rfl rfl) (HdK.nth eoC1 18 rfl rfl)
    obtain ⟨_, _, _, _, _, _, _, _, lCR, cCR⟩ := HdK.fnX (HdK.nth eoF1 19 rfl rfl) (HdK.nth eoC1 19 rfl rfl)
    obtain ⟨_, _, _, _, _, _, _, _, lCK, cCK⟩ := HdK.fnX (HdK.nth eoF1 20 rfl rfl) (HdK.nth eoC1 20 rfl rfl)
    obtain ⟨_, _, _, _, _, _, _, _, lWA, cWA⟩ := HdK.fnX (HdK.nth eoF1 21 rfl rfl) (HdK.nth eoC1 21 rfl rfl)
    obtain ⟨_, _, _, _, _, _, _, _, lWK, cWK⟩ := HdK.fnX (HdK.nth eoF1 22 rfl rfl) (HdK.nth eoC1 22 rfl rfl)
    obtain ⟨_, _, _, _, _, _, _, _, lLg, cLg⟩ := HdK.fnX (HdK.nth eoF1 23 rfl rfl) (HdK.nth eoC1 23 rfl rfl)
    obtain ⟨_, _, _, _, _, _, _, _, lU, cU⟩ := HdK.fnX (HdK.nth eoF2 0 rfl rfl) (HdK.nth eoC2 0 rfl rfl)
    obtain ⟨_, _, _, _, _, _, _, _, lLt, cLt⟩ := HdK.fnX (HdK.nth eoF2 1 rfl rfl) (HdK.nth eoC2 1 rfl rfl)
    obtain ⟨_, _, _, _, _, _, _, _, lBg, cBg⟩ := HdK.fnX (HdK.nth eoF2 2 rfl rfl) (HdK.nth eoC2 2 rfl rfl)
    obtain ⟨_, _, _, _, _, _, _, _, lRo, cRo⟩ := HdK.fnX (HdK.nth eoF2 3 rfl rfl) (HdK.nth eoC2 3 rfl rfl)
    obtain ⟨_, _, _, _, _, _, _, _, lAdW, cAdW⟩ := HdK.fnX (HdK.nth eoF2 4 rfl rfl) (HdK.nth eoC2 4 rfl rfl)
    obtain ⟨_, _, _, _, _, _, _, _, lSF, cSF⟩ := HdK.fnX (HdK.nth eoF2 5 rfl rfl) (HdK.nth eoC2 5 rfl rfl)
    obtain ⟨_, _, _, _, _, _, _, _, lSI, cSI⟩ := HdK.fnX (HdK.nth eoF2 6 rfl rfl) (HdK.nth eoC2 6 rfl rfl)
    obtain ⟨_, _, _, _, _, _, _, _, lNu, cNu⟩ := HdK.fnX (HdK.nth eoF2 7 rfl rfl) (HdK.nth eoC2 7 rfl rfl)
    obtain ⟨_, _, _, _, _, _, _, _, lSd, cSd⟩ := HdK.fnX (HdK.nth eoF2 8 rfl rfl) (HdK.nth eoC2 8 rfl rfl)
    obtain ⟨_, _, _, _, _, _, _, _, lSf, cSf⟩ := HdK.fnX (HdK.nth eoF2 9 rfl rfl) (HdK.nth eoC2 9 rfl rfl)
    obtain ⟨_, _, _, _, _, _, _, _, lEx, cEx⟩ := HdK.fnX (HdK.nth eoF2 10 rfl rfl) (HdK.nth eoC2 10 rfl rfl)
    obtain ⟨_, _, _, _, _, _, _, _, lJo, cJo⟩ := HdK.fnX (HdK.nth eoF2 11 rfl rfl) (HdK.nth eoC2 11 rfl rfl)
    obtain ⟨_, _, _, _, _, _, _, _, lJl, cJl⟩ := HdK.fnX (HdK.nth eoF2 12 rfl rfl) (HdK.nth eoC2 12 rfl rfl)
    obtain ⟨_, _, _, _, _, _, _, _, lCo, cCo⟩ := HdK.fnX (HdK.nth eoF2 13 rfl rfl) (HdK.nth eoC2 13 rfl rfl)
    obtain ⟨_, _, _, _, _, _, _, _, lWo, cWo⟩ := HdK.fnX (HdK.nth eoF2 14 rfl rfl) (HdK.nth eoC2 14 rfl rfl)
    obtain ⟨_, _, _, _, _, _, _, _, lZ, cZ⟩ := HdK.fnX (HdK.nth eoF2 15 rfl rfl) (HdK.nth eoC2 15 rfl rfl)
    obtain ⟨_, _, _, _, _, _, _, _, _, _, _, _, _, _, xC0⟩ := HdK.xcX_ok (HdK.nth eoX0 0 rfl rfl)
    obtain ⟨_, _, _, _, _, _, _, _, _, _, _, _, _, _, xC1⟩ := HdK.xcX_ok (HdK.nth eoX0 1 rfl rfl)
    obtain ⟨_, _, _, _, _, _, _, _, _, _, _, _, _, _, xC2⟩ := HdK.xcX_ok (HdK.nth eoX0 2 rfl rfl)
    obtain ⟨_, _, _, _, _, _, _, _, _, _, _, _, _, _, xC3⟩ := HdK.xcX_ok (HdK.nth eoX0 3 rfl rfl)
    obtain ⟨_, _, _, _, _, _, _, _, _, _, _, _, _, _, xC4⟩ := HdK.xcX_ok (HdK.nth eoX0 4 rfl rfl)
    obtain ⟨_, _, _, _, _, _, _, _, _, _, _, _, _, _, xC5⟩ := HdK.xcX_ok (HdK.nth eoX0 5 rfl rfl)
    obtain ⟨_, _, _, _, _, _, _, _, _, _, _, _, _, _, xC6⟩ := HdK.xcX_ok (HdK.nth eoX0 6 rfl rfl)
    obtain ⟨_, _, _, _, _, _, _, _, _, _, _, _, _, _, xC7⟩ := HdK.xcX_ok (HdK.nth eoX0 7 rfl rfl)
    obtain ⟨_, _, _, _, _, _, _, _, _, _, _, _, _, _, xC8⟩ := HdK.xcX_ok (HdK.nth eoX0 8 rfl rfl)
    obtain ⟨_, _, _, _, _, _, _, _, _, _, _, _, _, _, xC9⟩ := HdK.xcX_ok (HdK.nth eoX0 9 rfl rfl)
    obtain ⟨_, _, _, _, _, _, _, _, _, _, _, _, _, _, xC10⟩ := HdK.xcX_ok (HdK.nth eoX0 10 rfl rfl)
    obtain ⟨_, _, _, _, _, _, _, _, _, _, _, _, _, _, xC11⟩ := HdK.xcX_ok (HdK.nth eoX0 11 rfl rfl)
    obtain ⟨_, _, _, _, _, _, _, _, _, _, _, _, _, _, xC12⟩ := HdK.xcX_ok (HdK.nth eoX0 12 rfl rfl)
    obtain ⟨_, _, _, _, _, _, _, _, _, _, _, _, _, _, xC13⟩ := HdK.xcX_ok (HdK.nth eoX0 13 rfl rfl)
    obtain ⟨_, _, _, _, _, _, _, _, _, _, _, _, _, _, xC14⟩ := HdK.xcX_ok (HdK.nth eoX0 14 rfl rfl)
    obtain ⟨_, _, _, _, _, _, _, _, _, _, _, _, _, _, xC15⟩ := HdK.xcX_ok (HdK.nth eoX0 15 rfl rfl)
    obtain ⟨fd, hb, hF⟩ := Toy.all_mk (l := PySem.Challenge.rw_fontgap_k72_errors_of_their_own_kinds) (w := w) KX G hmg (HdK.nth eoN0 0 rfl rfl) (HdK.nth eoN0 1 rfl rfl) (HdK.nth eoN0 2 rfl rfl) (HdK.nth eoN0 3 rfl rfl) (HdK.nth eoN0 4 rfl rfl) (HdK.nth eoN0 5 rfl rfl) (HdK.nth eoN0 6 rfl rfl) (HdK.nth eoN0 7 rfl rfl) (HdK.nth eoN0 8 rfl rfl) (HdK.nth eoN0 9 rfl rfl) (HdK.nth eoN0 10 rfl rfl) (HdK.nth eoN0 11 rfl rfl) (HdK.nth eoN0 12 rfl rfl) (HdK.nth eoN0 13 rfl rfl) (HdK.nth eoN0 14 rfl rfl) (HdK.nth eoN0 15 rfl rfl) (HdK.nth eoN0 16 rfl rfl) (HdK.nth eoN0 17 rfl rfl) (HdK.nth eoN0 18 rfl rfl) (HdK.nth eoN0 19 rfl rfl) (HdK.nth eoN0 20 rfl rfl) (HdK.nth eoN0 21 rfl rfl) (HdK.nth eoN0 22 rfl rfl) (HdK.nth eoN0 23 rfl rfl) (HdK.nth eoN1 0 rfl rfl) lW cW (HdK.nth eoB0 0 rfl rfl) (HdK.nth eoN1 1 rfl rfl) (HdK.nth eoT0 0 rfl rfl) le0 ce0 (HdK.nth eoB0 1 rfl rfl) (HdK.nth eoN1 2 rfl rfl) (HdK.nth eoT0 1 rfl rfl) le1 ce1 (HdK.nth eoB0 2 rfl rfl) (HdK.nth eoN1 3 rfl rfl) (HdK.nth eoT0 2 rfl rfl) le2 ce2 (HdK.nth eoB0 3 rfl rfl) (HdK.nth eoN1 4 rfl rfl) (HdK.nth eoT0 3 rfl rfl) le3 ce3 (HdK.nth eoB0 4 rfl rfl) (HdK.nth eoN1 5 rfl rfl) (HdK.nth eoT0 4 rfl rfl) le4 ce4 (HdK.nth eoB0 5 rfl rfl) (HdK.nth eoN1 6 rfl rfl) (HdK.nth eoT0 5 rfl rfl) le5 ce5 (HdK.nth eoB0 6 rfl rfl) (HdK.nth eoN1 7 rfl rfl) (HdK.nth eoT0 6 rfl rfl) le6 ce6 (HdK.nth eoB0 7 rfl rfl) (HdK.nth eoN1 8 rfl rfl) (HdK.nth eoT0 7 rfl rfl) le7 ce7 (HdK.nth eoB0 8 rfl rfl) (HdK.nth eoN1 9 rfl rfl) (HdK.nth eoT0 8 rfl rfl) le8 ce8 (HdK.nth eoB0 9 rfl rfl) (HdK.nth eoN1 10 rfl rfl) (HdK.nth eoT0 9 rfl rfl) le9 ce9 (HdK.nth eoB0 10 rfl rfl) (HdK.nth eoN1 11 rfl rfl) (HdK.nth eoT0 10 rfl rfl) le10 ce10 (HdK.nth eoB0 11 rfl rfl) (HdK.nth eoN1 12 rfl rfl) (HdK.nth eoT0 11 rfl rfl) le11 ce11 (HdK.nth eoB0 12 rfl rfl) (HdK.nth eoN1 13 rfl rfl) (HdK.nth eoT0 12 rfl rfl) le12 ce12 (HdK.nth eoB0 13 rfl rfl) (HdK.nth eoN1 14 rfl rfl) (HdK.nth eoT0 13 rfl rfl) le13 ce13 (HdK.nth eoB0 14 rfl rfl) (HdK.nth eoN1 15 rfl rfl) (HdK.nth eoT0 14 rfl rfl) le14 ce14 (HdK.nth eoB0 15 rfl rfl) (HdK.nth eoN1 16 rfl rfl) (HdK.nth eoT0 15 rfl rfl) le15 ce15 (HdK.nth eoB0 16 rfl rfl) (HdK.nth eoN1 17 rfl rfl) (HdK.nth eoB0 17 rfl rfl) lRQ cRQ (HdK.nth eoB0 18 rfl rfl) (HdK.nth eoL0 0 rfl rfl) (HdK.nth eoN1 18 rfl rfl) (HdK.nth eoB0 19 rfl rfl) lREq cREq (HdK.nth eoB0 20 rfl rfl) (HdK.nth eoN1 19 rfl rfl) lB cB (HdK.nth eoB0 21 rfl rfl) (HdK.nth eoN1 20 rfl rfl) lT cT (HdK.nth eoB0 22 rfl rfl) (HdK.nth eoN1 21 rfl rfl) lX cX (HdK.nth eoB0 23 rfl rfl) (HdK.nth eoN1 22 rfl rfl) lLG cLG (HdK.nth eoB1 0 rfl rfl) (HdK.nth eoN1 23 rfl rfl) lLP cLP (HdK.nth eoB1 1 rfl rfl) (HdK.nth eoN2 0 rfl rfl) lLN cLN (HdK.nth eoB1 2 rfl rfl) (HdK.nth eoN2 1 rfl rfl) lLK cLK (HdK.nth eoB1 3 rfl rfl) (HdK.nth eoN2 2 rfl rfl) lLL cLL (HdK.nth eoB1 4 rfl rfl) (HdK.nth eoN2 3 rfl rfl) lIB cIB (HdK.nth eoB1 5 rfl rfl) (HdK.nth eoN2 4 rfl rfl) lBt cBt (HdK.nth eoB1 6 rfl rfl) (HdK.nth eoN2 5 rfl rfl) lWr cWr (HdK.nth eoB1 7 rfl rfl) (HdK.nth eoN2 6 rfl rfl) lPl cPl (HdK.nth eoB1 8 rfl rfl) (HdK.nth eoN2 7 rfl rfl) lPP cPP (HdK.nth eoB1 9 rfl rfl) (HdK.nth eoN2 8 rfl rfl) lNm cNm (HdK.nth eoB1 10 rfl rfl) (HdK.nth eoN2 9 rfl rfl) (HdK.nth eoB1 11 rfl rfl) lQ cQ (HdK.nth eoB1 12 rfl rfl) (HdK.nth eoL0 1 rfl rfl) (HdK.nth eoN2 10 rfl rfl) (HdK.nth eoB1 13 rfl rfl) lHas cHas (HdK.nth eoB1 14 rfl rfl) (HdK.nth eoN2 11 rfl rfl) (HdK.nth eoB1 15 rfl rfl) lLen cLen (HdK.nth eoB1 16 rfl rfl) (HdK.nth eoN2 12 rfl rfl) (HdK.nth eoB1 17 rfl rfl) lGl cGl (HdK.nth eoB1 18 rfl rfl) (HdK.nth eoN2 13 rfl rfl) (HdK.nth eoB1 19 rfl rfl) lAo cAo (HdK.nth eoB1 20 rfl rfl) (HdK.nth eoN2 14 rfl rfl) (HdK.nth eoB1 21 rfl rfl) lPA cPA (HdK.nth eoB1 22 rfl rfl) (HdK.nth eoN2 15 rfl rfl) (HdK.nth eoB1 23 rfl rfl) lPK cPK (HdK.nth eoB2 0 rfl rfl) (HdK.nth eoN2 16 rfl rfl) (HdK.nth eoB2 1 rfl rfl) lPB cPB (HdK.nth eoB2 2 rfl rfl) (HdK.nth eoN2 17 rfl rfl) (HdK.nth eoB2 3 rfl rfl) lKn cKn (HdK.nth eoB2 4 rfl rfl) (HdK.nth eoN2 18 rfl rfl) (HdK.nth eoB2 5 rfl rfl) lCL cCL (HdK.nth eoB2 6 rfl rfl) (HdK.nth eoN2 19 rfl rfl) (HdK.nth eoB2 7 rfl rfl) lCR cCR (HdK.nth eoB2 8 rfl rfl) (HdK.nth eoN2 20 rfl rfl) (HdK.nth eoB2 9 rfl rfl) lCK cCK (HdK.nth eoB2 10 rfl rfl) (HdK.nth eoN2 21 rfl rfl) (HdK.nth eoB2 11 rfl rfl) lWA cWA (HdK.nth eoB2 12 rfl rfl) (HdK.nth eoN2 22 rfl rfl) (HdK.nth eoB2 13 rfl rfl) lWK cWK (HdK.nth eoB2 14 rfl rfl) (HdK.nth eoN2 23 rfl rfl) (HdK.nth eoN3 0 rfl rfl) (HdK.nth eoS0 0 rfl rfl) (HdK.nth eoR0 0 rfl rfl) lLg cLg (HdK.nth eoB2 15 rfl rfl) (HdK.nth eoN3 1 rfl rfl) (HdK.nth eoB2 16 rfl rfl) lU cU (HdK.nth eoB2 17 rfl rfl) (HdK.nth eoN3 2 rfl rfl) (HdK.nth eoN3 3 rfl rfl) (HdK.nth eoS0 1 rfl rfl) (HdK.nth eoR0 1 rfl rfl) lLt cLt (HdK.nth eoB2 18 rfl rfl) (HdK.nth eoN3 4 rfl rfl) lBg cBg (HdK.nth eoB2 19 rfl rfl) (HdK.nth eoN3 5 rfl rfl) lRo cRo (HdK.nth eoB2 20 rfl rfl) (HdK.nth eoN3 6 rfl rfl) lAdW cAdW (HdK.nth eoB2 21 rfl rfl) (HdK.nth eoN3 7 rfl rfl) (HdK.nth eoB2 22 rfl rfl) lSF cSF (HdK.nth eoB2 23 rfl rfl) (HdK.nth eoN3 8 rfl rfl) (HdK.nth eoB3 0 rfl rfl) lSI cSI (HdK.nth eoB3 1 rfl rfl) (HdK.nth eoN3 9 rfl rfl) (HdK.nth eoB3 2 rfl rfl) lNu cNu (HdK.nth eoB3 3 rfl rfl) (HdK.nth eoN3 10 rfl rfl) (HdK.nth eoB3 4 rfl rfl) lSd cSd (HdK.nth eoB3 5 rfl rfl) (HdK.nth eoN3 11 rfl rfl) (HdK.nth eoB3 6 rfl rfl) lSf cSf (HdK.nth eoB3 7 rfl rfl) (HdK.nth eoN3 12 rfl rfl) (HdK.nth eoB3 8 rfl rfl) lEx cEx (HdK.nth eoB3 9 rfl rfl) (HdK.nth eoN3 13 rfl rfl) (HdK.nth eoB3 10 rfl rfl) lJo cJo (HdK.nth eoB3 11 rfl rfl) (HdK.nth eoN3 14 rfl rfl) (HdK.nth eoN3 15 rfl rfl) (HdK.nth eoS0 2 rfl rfl) (HdK.nth eoR0 2 rfl rfl) lJl cJl (HdK.nth eoB3 12 rfl rfl) (HdK.nth eoN3 16 rfl rfl) lCo cCo (HdK.nth eoB3 13 rfl rfl) (HdK.nth eoN3 17 rfl rfl) lWo cWo (HdK.nth eoB3 14 rfl rfl) (HdK.nth eoN3 18 rfl rfl) lZ cZ (HdK.nth eoB3 15 rfl rfl) xC0 (HdK.nth eoN3 19 rfl rfl) (HdK.nth eoS0 3 rfl rfl) (HdK.nth eoT0 16 rfl rfl) (HdK.nth eoB3 16 rfl rfl) (HdK.nth eoN3 20 rfl rfl) (HdK.nth eoN3 21 rfl rfl) (HdK.nth eoB3 17 rfl rfl) (HdK.nth eoN3 22 rfl rfl) (HdK.nth eoS0 4 rfl rfl) (HdK.nth eoN3 23 rfl rfl) xC1 (HdK.nth eoN4 0 rfl rfl) (HdK.nth eoS0 5 rfl rfl) (HdK.nth eoT0 17 rfl rfl) (HdK.nth eoB3 18 rfl rfl) (HdK.nth eoN4 1 rfl rfl) (HdK.nth eoN4 2 rfl rfl) (HdK.nth eoB3 19 rfl rfl) (HdK.nth eoN4 3 rfl rfl) (HdK.nth eoS0 6 rfl rfl) (HdK.nth eoN4 4 rfl rfl) xC2 (HdK.nth eoN4 5 rfl rfl) (HdK.nth eoS0 7 rfl rfl) (HdK.nth eoT0 18 rfl rfl) (HdK.nth eoB3 20 rfl rfl) (HdK.nth eoN4 6 rfl rfl) (HdK.nth eoN4 7 rfl rfl) (HdK.nth eoB3 21 rfl rfl) (HdK.nth eoN4 8 rfl rfl) (HdK.nth eoS0 8 rfl rfl) (HdK.nth eoN4 9 rfl rfl) xC3 (HdK.nth eoN4 10 rfl rfl) (HdK.nth eoS0 9 rfl rfl) (HdK.nth eoT0 19 rfl rfl) (HdK.nth eoB3 22 rfl rfl) (HdK.nth eoN4 11 rfl rfl) (HdK.nth eoN4 12 rfl rfl) (HdK.nth eoB3 23 rfl rfl) (HdK.nth eoN4 13 rfl rfl) (HdK.nth eoS0 10 rfl rfl) (HdK.nth eoN4 14 rfl rfl) xC4 (HdK.nth eoN4 15 rfl rfl) (HdK.nth eoS0 11 rfl rfl) (HdK.nth eoT0 20 rfl rfl) (HdK.nth eoB4 0 rfl rfl) (HdK.nth eoN4 16 rfl rfl) (HdK.nth eoN4 17 rfl rfl) (HdK.nth eoB4 1 rfl rfl) (HdK.nth eoN4 18 rfl rfl) (HdK.nth eoS0 12 rfl rfl) (HdK.nth eoN4 19 rfl rfl) (HdK.nth eoN4 20 rfl rfl) xC5 (HdK.nth eoN4 21 rfl rfl) (HdK.nth eoS0 13 rfl rfl) (HdK.nth eoT0 21 rfl rfl) (HdK.nth eoB4 2 rfl rfl) (HdK.nth eoN4 22 rfl rfl) (HdK.nth eoN4 23 rfl rfl) (HdK.nth eoB4 3 rfl rfl) (HdK.nth eoN5 0 rfl rfl) (HdK.nth eoS0 14 rfl rfl) (HdK.nth eoN5 1 rfl rfl) xC6 (HdK.nth eoN5 2 rfl rfl) (HdK.nth eoS0 15 rfl rfl) (HdK.nth eoT0 22 rfl rfl) (HdK.nth eoB4 4 rfl rfl) (HdK.nth eoN5 3 rfl rfl) (HdK.nth eoN5 4 rfl rfl) (HdK.nth eoB4 5 rfl rfl) (HdK.nth eoN5 5 rfl rfl) (HdK.nth eoS0 16 rfl rfl) (HdK.nth eoN5 6 rfl rfl) xC7 (HdK.nth eoN5 7 rfl rfl) (HdK.nth eoS0 17 rfl rfl) (HdK.nth eoT0 23 rfl rfl) (HdK.nth eoB4 6 rfl rfl) (HdK.nth eoN5 8 rfl rfl) (HdK.nth eoN5 9 rfl rfl) (HdK.nth eoB4 7 rfl rfl) (HdK.nth eoN5 10 rfl rfl) (HdK.nth eoS0 18 rfl rfl) (HdK.nth eoN5 11 rfl rfl) xC8 (HdK.nth eoN5 12 rfl rfl) (HdK.nth eoS0 19 rfl rfl) (HdK.nth eoT1 0 rfl rfl) (HdK.nth eoB4 8 rfl rfl) (HdK.nth eoN5 13 rfl rfl) (HdK.nth eoN5 14 rfl rfl) (HdK.nth eoB4 9 rfl rfl) (HdK.nth eoN5 15 rfl rfl) (HdK.nth eoS0 20 rfl rfl) (HdK.nth eoN5 16 rfl rfl) (HdK.nth eoN5 17 rfl rfl) xC9 (HdK.nth eoN5 18 rfl rfl) (HdK.nth eoS0 21 rfl rfl) (HdK.nth eoT1 1 rfl rfl) (HdK.nth eoB4 10 rfl rfl) (HdK.nth eoN5 19 rfl rfl) (HdK.nth eoN5 20 rfl rfl) (HdK.nth eoB4 11 rfl rfl) (HdK.nth eoN5 21 rfl rfl) (HdK.nth eoS0 22 rfl rfl) (HdK.nth eoN5 22 rfl rfl) xC10 (HdK.nth eoN5 23 rfl rfl) (HdK.nth eoS0 23 rfl rfl) (HdK.nth eoT1 2 rfl rfl) (HdK.nth eoB4 12 rfl rfl) (HdK.nth eoN6 0 rfl rfl) (HdK.nth eoN6 1 rfl rfl) (HdK.nth eoB4 13 rfl rfl) (HdK.nth eoN6 2 rfl rfl) (HdK.nth eoS1 0 rfl rfl) (HdK.nth eoN6 3 rfl rfl) xC11 (HdK.nth eoN6 4 rfl rfl) (HdK.nth eoS1 1 rfl rfl) (HdK.nth eoT1 3 rfl rfl) (HdK.nth eoB4 14 rfl rfl) (HdK.nth eoN6 5 rfl rfl) (HdK.nth eoN6 6 rfl rfl) (HdK.nth eoB4 15 rfl rfl) (HdK.nth eoN6 7 rfl rfl) (HdK.nth eoS1 2 rfl rfl) (HdK.nth eoN6 8 rfl rfl) xC12 (HdK.nth eoN6 9 rfl rfl) (HdK.nth eoS1 3 rfl rfl) (HdK.nth eoT1 4 rfl rfl) (HdK.nth eoB4 16 rfl rfl) (HdK.nth eoN6 10 rfl rfl) (HdK.nth eoN6 11 rfl rfl) (HdK.nth eoB4 17 rfl rfl) (HdK.nth eoN6 12 rfl rfl) (HdK.nth eoS1 4 rfl rfl) (HdK.nth eoN6 13 rfl rfl) xC13 (HdK.nth eoN6 14 rfl rfl) (HdK.nth eoS1 5 rfl rfl) (HdK.nth eoT1 5 rfl rfl) (HdK.nth eoB4 18 rfl rfl) (HdK.nth eoN6 15 rfl rfl) (HdK.nth eoN6 16 rfl rfl) (HdK.nth eoB4 19 rfl rfl) (HdK.nth eoN6 17 rfl rfl) (HdK.nth eoS1 6 rfl rfl) (HdK.nth eoN6 18 rfl rfl) xC14 (HdK.nth eoN6 19 rfl rfl) (HdK.nth eoS1 7 rfl rfl) (HdK.nth eoT1 6 rfl rfl) (HdK.nth eoB4 20 rfl rfl) (HdK.nth eoN6 20 rfl rfl) (HdK.nth eoN6 21 rfl rfl) (HdK.nth eoB4 21 rfl rfl) (HdK.nth eoN6 22 rfl rfl) (HdK.nth eoS1 8 rfl rfl) (HdK.nth eoN6 23 rfl rfl) xC15 (HdK.nth eoN7 0 rfl rfl) (HdK.nth eoS1 9 rfl rfl) (HdK.nth eoT1 7 rfl rfl) (HdK.nth eoB4 22 rfl rfl) (HdK.nth eoN7 1 rfl rfl) (HdK.nth eoN7 2 rfl rfl) (HdK.nth eoB4 23 rfl rfl) (HdK.nth eoN7 3 rfl rfl) (HdK.nth eoS1 10 rfl rfl) (HdK.nth eoN7 4 rfl rfl) (HdK.nth eoS1 11 rfl rfl) (HdK.nth eoS1 12 rfl rfl) (HdK.nth eoS1 13 rfl rfl) (HdK.nth eoS1 14 rfl rfl) (HdK.nth eoS1 15 rfl rfl) (HdK.nth eoS1 16 rfl rfl) (HdK.nth eoS1 17 rfl rfl) (HdK.nth eoS1 18 rfl rfl) (HdK.nth eoS1 19 rfl rfl) (HdK.nth eoS1 20 rfl rfl) (HdK.nth eoS1 21 rfl rfl) (HdK.nth eoS1 22 rfl rfl) (HdK.nth eoS1 23 rfl rfl) (HdK.nth eoS2 0 rfl rfl) (HdK.nth eoS2 1 rfl rfl) (HdK.nth eoS2 2 rfl rfl) (HdK.nth eoS2 3 rfl rfl) (HdK.nth eoS2 4 rfl rfl) (HdK.nth eoS2 5 rfl rfl) (HdK.nth eoS2 6 rfl rfl) (HdK.nth eoS2 7 rfl rfl) (HdK.nth eoS2 8 rfl rfl) (HdK.nth eoS2 9 rfl rfl) (HdK.nth eoS2 10 rfl rfl) (HdK.nth eoS2 11 rfl rfl) (HdK.nth eoS2 12 rfl rfl) (HdK.nth eoS2 13 rfl rfl) (HdK.nth eoS2 14 rfl rfl) (HdK.nth eoS2 15 rfl rfl) (HdK.nth eoS2 16 rfl rfl) (HdK.nth eoS2 17 rfl rfl) (HdK.nth eoS2 18 rfl rfl) (HdK.nth eoS2 19 rfl rfl) (HdK.nth eoS2 20 rfl rfl) (HdK.nth eoS2 21 rfl rfl) (HdK.nth eoS2 22 rfl rfl) (HdK.nth eoS2 23 rfl rfl) (HdK.nth eoS3 0 rfl rfl) (HdK.nth eoS3 1 rfl rfl) (HdK.nth eoS3 2 rfl rfl) (HdK.nth eoS3 3 rfl rfl) (HdK.nth eoS3 4 rfl rfl) (HdK.nth eoS3 5 rfl rfl) (HdK.nth eoS3 6 rfl rfl) (HdK.nth eoS3 7 rfl rfl) (HdK.nth eoS3 8 rfl rfl) (HdK.nth eoS3 9 rfl rfl) (HdK.nth eoS3 10 rfl rfl) (HdK.nth eoS3 11 rfl rfl) (HdK.nth eoS3 12 rfl rfl) (HdK.nth eoS3 13 rfl rfl) (HdK.nth eoS3 14 rfl rfl) (HdK.nth eoS3 15 rfl rfl) (HdK.nth eoM0 0 rfl rfl) (HdK.nth eoS3 16 rfl rfl) (HdK.nth eoM0 1 rfl rfl) (HdK.nth eoS3 17 rfl rfl) (HdK.nth eoM0 2 rfl rfl) (HdK.nth eoS3 18 rfl rfl) (HdK.nth eoM0 3 rfl rfl) (HdK.nth eoS3 19 rfl rfl) (HdK.nth eoM0 4 rfl rfl) (HdK.nth eoS3 20 rfl rfl) (HdK.nth eoM0 5 rfl rfl) (HdK.nth eoS3 21 rfl rfl) (HdK.nth eoM0 6 rfl rfl) (HdK.nth eoS3 22 rfl rfl) (HdK.nth eoM0 7 rfl rfl) (HdK.nth eoS3 23 rfl rfl) (HdK.nth eoM0 8 rfl rfl) (HdK.nth eoS4 0 rfl rfl) (HdK.nth eoM0 9 rfl rfl) (HdK.nth eoS4 1 rfl rfl) (HdK.nth eoM0 10 rfl rfl) (HdK.nth eoS4 2 rfl rfl) (HdK.nth eoM0 11 rfl rfl) (HdK.nth eoS4 3 rfl rfl) (HdK.nth eoM0 12 rfl rfl) (HdK.nth eoS4 4 rfl rfl) (HdK.nth eoM0 13 rfl rfl) (HdK.nth eoS4 5 rfl rfl) (HdK.nth eoM0 14 rfl rfl) (HdK.nth eoS4 6 rfl rfl) (HdK.nth eoM0 15 rfl rfl) (HdK.nth eoN7 5 rfl rfl) (HdK.nth eoS4 7 rfl rfl) (HdK.nth eoB5 0 rfl rfl) (HdK.nth eoB5 1 rfl rfl) (HdK.nth eoB5 2 rfl rfl) (HdK.nth eoN7 6 rfl rfl) (HdK.nth eoB5 3 rfl rfl) (HdK.nth eoB5 4 rfl rfl) (HdK.nth eoN7 7 rfl rfl) (HdK.nth eoN7 8 rfl rfl) (HdK.nth eoN7 9 rfl rfl) (HdK.nth eoS4 8 rfl rfl) (HdK.nth eoS4 9 rfl rfl) (HdK.nth eoS4 10 rfl rfl) (HdK.nth eoN7 10 rfl rfl) (HdK.nth eoN7 11 rfl rfl) (HdK.nth eoN7 12 rfl rfl) (HdK.nth eoN7 13 rfl rfl) (HdK.nth eoN7 14 rfl rfl) (HdK.nth eoN7 15 rfl rfl) (HdK.nth eoN7 16 rfl rfl) (HdK.nth eoN7 17 rfl rfl) (HdK.nth eoN7 18 rfl rfl) (HdK.nth eoN7 19 rfl rfl) (HdK.nth eoB5 5 rfl rfl) (HdK.nth eoB5 6 rfl rfl) (HdK.nth eoB5 7 rfl rfl) (HdK.nth eoN7 20 rfl rfl) (HdK.nth eoB5 8 rfl rfl) (HdK.nth eoB5 9 rfl rfl) (HdK.nth eoN7 21 rfl rfl) (HdK.nth eoN7 22 rfl rfl) (HdK.nth eoN7 23 rfl rfl) (HdK.nth eoN8 0 rfl rfl) (HdK.nth eoN8 1 rfl rfl) (HdK.nth eoN8 2 rfl rfl) (HdK.nth eoN8 3 rfl rfl) (HdK.nth eoN8 4 rfl rfl) (HdK.nth eoN8 5 rfl rfl) (HdK.nth eoN8 6 rfl rfl) (HdK.nth eoB5 10 rfl rfl) (HdK.nth eoN8 7 rfl rfl) (HdK.nth eoQ0 0 rfl rfl) (HdK.nth eoB5 11 rfl rfl) (HdK.nth eoB5 12 rfl rfl) (HdK.nth eoS4 11 rfl rfl) (HdK.nth eoT1 8 rfl rfl) (HdK.nth eoB5 13 rfl rfl) (HdK.nth eoS4 12 rfl rfl) (HdK.nth eoT1 9 rfl rfl) (HdK.nth eoB5 14 rfl rfl) (HdK.nth eoS4 13 rfl rfl) (HdK.nth eoT1 10 rfl rfl) (HdK.nth eoB5 15 rfl rfl) (HdK.nth eoN8 8 rfl rfl) (HdK.nth eoN8 9 rfl rfl) (HdK.nth eoN8 10 rfl rfl) (HdK.nth eoS4 14 rfl rfl) (HdK.nth eoS4 15 rfl rfl) (HdK.nth eoS4 16 rfl rfl) (HdK.nth eoM0 16 rfl rfl) (HdK.nth eoN8 11 rfl rfl) (HdK.nth eoN8 12 rfl rfl) (HdK.nth eoN8 13 rfl rfl) (HdK.nth eoS4 17 rfl rfl) (HdK.nth eoS4 18 rfl rfl) (HdK.nth eoS4 19 rfl rfl) (HdK.nth eoM0 17 rfl rfl) (HdK.nth eoN8 14 rfl rfl) (HdK.nth eoN8 15 rfl rfl) (HdK.nth eoN8 16 rfl rfl) (HdK.nth eoB5 16 rfl rfl) (HdK.nth eoB5 17 rfl rfl) (HdK.nth eoB5 18 rfl rfl) (HdK.nth eoN8 17 rfl rfl) (HdK.nth eoB5 19 rfl rfl) (HdK.nth eoB5 20 rfl rfl) (HdK.nth eoN8 18 rfl rfl) (HdK.nth eoN8 19 rfl rfl) (HdK.nth eoN8 20 rfl rfl) (HdK.nth eoB5 21 rfl rfl) (HdK.nth eoB5 22 rfl rfl) (HdK.nth eoB5 23 rfl rfl) (HdK.nth eoN8 21 rfl rfl) (HdK.nth eoB6 0 rfl rfl) (HdK.nth eoB6 1 rfl rfl) (HdK.nth eoN8 22 rfl rfl) (HdK.nth eoN8 23 rfl rfl) (HdK.nth eoN9 0 rfl rfl) (HdK.nth eoN9 1 rfl rfl) (HdK.nth eoN9 2 rfl rfl) (HdK.nth eoN9 3 rfl rfl) (HdK.nth eoB6 2 rfl rfl) (HdK.nth eoB6 3 rfl rfl) (HdK.nth eoB6 4 rfl rfl) (HdK.nth eoN9 4 rfl rfl) (HdK.nth eoB6 5 rfl rfl) (HdK.nth eoB6 6 rfl rfl) (HdK.nth eoN9 5 rfl rfl) (HdK.nth eoN9 6 rfl rfl) (HdK.nth eoN9 7 rfl rfl) (HdK.nth eoL0 2 rfl rfl) (HdK.nth eoB6 7 rfl rfl) (HdK.nth eoB6 8 rfl rfl)
    exact ⟨K, fd, Toy.spLaw K, KX, hb, fun H a ns hl _ hS => ⟨a, ns, rfl, hS, hl, fun _ => rfl⟩, hF⟩
