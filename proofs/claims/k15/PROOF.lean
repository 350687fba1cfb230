import PyProof.Rows.All
import Wide.All
import OpenK.AllK
import Wide.FinOn
import HandS.ForMost
import HandS.Exc
import HandS.TryOnly
import HandS.WordsExc
import HandS.Wide
import HandS.Gcd
import HandS.IsInst
import HandS.Codes
import HandS.Defaults
import HandS.OwnEq
import HandS.HotCalls
import HandS.ExcInitHot
import HandS.SuiteRaise
import HandS.RaiseFrom
import HandS.NestedHot
import KE.KExcRaise
import HandS.ExcOwn
import HandS.Hot
import HandS.Star
import KE.KParD
import HandS.MakeKw
import HandS.MakeKwOnly
import HandS.ClsMeth
import HandS.DictComp
import HandS.ExcInit
import HandS.ExcField
import HandS.ExcIs
import HandS.TryMany
import KE.KExcIs
import KE.KOpsOwn
import KE.SortKeyHeap
import KE.SortData
import HandS.SortKw
import HandS.RaiseMore
import HandS.DictTup
import HandS.Conv
import HandS.Style
import HandS.Flow
import HandS.StrMore
import HandS.Property
import KE.KxField
import HandS.WideBits
import HandS.FStr
import KE.KCallOwn
import HandS.ClsMeth
import HandS.Comp
import HandS.Iter
import HandS.Walk
import PySem.Challenge.RW_fontgap_k15_limits_and_even_fonts
set_option Elab.async false
set_option maxRecDepth 100000
set_option maxHeartbeats 4000000
set_option exponentiation.threshold 2000
namespace Toy
open PySem L2
def top (i : Nat) : Stmt := PySem.Challenge.pw_fontgap_k15_limits_and_even_fonts.main.body.getD i (.Pass ⟨0, 0, 0, 0⟩)
/-! ### the bag of draws -/
/-- a bag stands at b: the script's ints at l, the place, the rest, the state, the count -/
def BagAt (H : Hp) (b l : Addr) : Prop := ∃ (ns : List Int) (p q r c : Int), H b = some (.lst [.ref l, .int p, .int q, .int r, .int c]) ∧ H l = some (.lst (ns.map V.int)) ∧ 0 ≤ p ∧ 0 ≤ r ∧ r < 2147483647
def Keep (b : Addr) (H H' : Hp) : Prop := ∀ a o, H a = some o → a ≠ b → H' a = some o
def spBag (K : PySem.W.Frag) : Sp := fun vs H Q _ => ∃ (a : Addr) (ns : List Int), vs = [.ref a] ∧ SqL K H a (ns.map V.int) ∧ ∀ b l H', BagAt H' b l → H b = none → Same H H' → Q (.ref b) H'
def spTake : Sp := fun vs H Q _ => ∃ (b l : Addr) (n : Int), vs = [.ref b, .int n] ∧ 0 < n ∧ n.natAbs < 2 ^ 300 ∧ BagAt H b l ∧
  ∀ (d : Int) H', 0 ≤ d → d < n → BagAt H' b l → Keep b H H' → Q (.int d) H'
abbrev sBag : Stmt := top 24
abbrev sTake : Stmt := top 25
theorem cut63 (ns : List Int) : cutV (ns.map V.int) none (some 63) = ((ns.take (HT.sIx (ns.map V.int).length (ns.map V.int).length (some 63) - HT.sIx (ns.map V.int).length 0 none)).drop 0).map V.int ∨ True := .inr trivial
theorem cut_map (ns : List Int) (lo hi : Option Int) : ∃ ms : List Int, cutV (ns.map V.int) lo hi = ms.map V.int := by
  unfold cutV
  rw [← List.map_drop, ← List.map_take]
  exact ⟨_, rfl⟩
section
variable {P : Program} {w : World} {K : PySem.W.Frag} {mg : Str → Option Value} {base : Heap}
theorem scBag : FnScope ["_law_script"] ["_law_script"] (defScope sBag) := ⟨rfl, rfl, rfl, by decide +kernel, rfl, by decide +kernel, by decide +kernel⟩
theorem ok_bag {f : Addr} {fd : FuncData} (F : Fun K "_law_bag" "_law_bag" sBag f fd) (mL : mg "list" = none) : FnOk P w K mg base CX0 1 f fd ["_law_script"] (spBag K) := by
  refine F.ok scBag (fun vs H Q E h => ?_) (fun cdv A outer s H vs Q E hr h => ?_)
  · obtain ⟨a, ns, rfl, _⟩ := h
    rfl
  · obtain ⟨a, ns, rfl, hS, k⟩ := h
    refine ⟨_, pss_one (ps_ret (pe_lst (pa_cons (pe_callTy call_list_of (by rfl) mL (by decide +kernel) (pa_cons (pe_slice sl_list (pv 0) po_none (po_some pe_int)) pa_nil)) (pa_cons pe_int (pa_cons pe_int (pa_cons pe_int (pa_cons pe_int pa_nil))))))), ?_⟩
    refine ⟨_, rfl, _, rfl, a, _, rfl, hS, fun p np => ?_⟩
    obtain ⟨ms, em⟩ := cut_map ns none (some 63)
    refine ⟨p, _, rfl, .inl (SqL.of upd_same), fun l nl => ?_⟩
    refine ⟨by show 5 ≤ sizeLine; decide, fun b nb => ?_⟩
    have hlp : l ≠ p := fun z => by rw [z, upd_same] at nl; cases nl
    have hbl : l ≠ b := fun z => by rw [← z, upd_same] at nb; cases nb
    have hbp : p ≠ b := fun z => by rw [← z, upd_ne (Ne.symm hlp), upd_same] at nb; cases nb
    refine k b l _ ⟨ms, 0, 0, 7, 0, upd_same, ?_, by decide, by decide, by decide⟩ ?_ ?_
    · rw [upd_ne hbl, upd_same, em]
    · rw [upd_ne (Ne.symm hbl), upd_ne (Ne.symm hbp)] at nb
      exact nb
    · intro c o e
      have hcp : c ≠ p := ne_of_none e np
      have hcl : c ≠ l := fun z => by rw [z] at e; rw [upd_ne hlp] at nl; rw [nl] at e; cases e
      have hcb : c ≠ b := fun z => by rw [z] at e; rw [upd_ne (Ne.symm hbl), upd_ne (Ne.symm hbp)] at nb; rw [nb] at e; cases e
      rw [upd_ne hcb, upd_ne hcl, upd_ne hcp]
      exact e
end
section
variable {P : Program} {w : World} {K : PySem.W.Frag} {mg : Str → Option Value} {base : Heap}
theorem scTake : FnScope ["_law_bag_here", "_law_size", "_law_digit", "_law_cell"] ["_law_bag_here", "_law_size"] (defScope sTake) := ⟨rfl, rfl, rfl, by decide +kernel, rfl, by decide +kernel, by decide +kernel⟩
theorem fm_nn (a : Int) {n : Int} (h : 0 < n) : 0 ≤ a.fmod n ∧ a.fmod n < n := by
  rw [Int.fmod_eq_emod_of_nonneg _ (by omega)]
  exact ⟨Int.emod_nonneg _ (by omega), Int.emod_lt_of_pos _ h⟩
theorem bag_keep {H : Hp} {b : Addr} {o : HO} : Keep b H (upd H b o) := fun a u e h => by rw [upd_ne h]; exact e
theorem Keep.trans {b : Addr} {H H1 H2 : Hp} (a : Keep b H H1) (c : Keep b H1 H2) : Keep b H H2 := fun x o e h => c x o (a x o e h) h
theorem Keep.refl {b : Addr} {H : Hp} : Keep b H H := fun _ _ e _ => e
theorem ok_take {f : Addr} {fd : FuncData} (F : Fun K "_law_take" "_law_take" sTake f fd) (mL : mg "len" = none) (mI : mg "int" = none) : FnOk P w K mg base CX0 1 f fd ["_law_bag_here", "_law_size"] spTake := by
  refine F.ok scTake (fun vs H Q E h => ?_) (fun cdv A outer s H vs Q E hr h => ?_)
  · obtain ⟨b, l, n, rfl, _⟩ := h
    rfl
  · obtain ⟨b, l, n, rfl, n0, nW, ⟨ns, p, q, r, c, hb, hl, p0, r0, r1⟩, k⟩ := h
    have wd : CDivW 0 n := wide_div n0 nW (by decide) (by decide)
    have nn : n ≠ 0 := by omega
    refine ⟨_, pss_cons (ps_if (pt_cmpR op_ge (pe_ix ix_list (pv 0) pe_int (fun _ _ => rfl)) (pe_op op_pow pe_int pe_int) (nomark _))
        (pss_cons (ps_set (i := 2) scTake.nd rfl (Or.inl rfl) (pe_op op_modN (pe_callTy call_int1 (by rfl) mI (by decide +kernel) (pa_cons (pe_ix ix_list (pv 0) pe_int (fun _ _ => rfl)) pa_nil)) (pv 1)))
        (pss_cons (ps_asg (pe_op op_fdivW (pe_ix ix_list (pv 0) pe_int (fun _ _ => rfl)) (pv 1)) (pg_sub (pv 0) pe_int set_list))
        (pss_one (ps_ret (pv 2))))) pss_nil)
      (pss_cons (ps_set (i := 3) scTake.nd rfl (Or.inl rfl) pe_int)
      (C8.pss_cut (ps_if (pt_cmpR op_lt (pe_ix ix_list (pv 0) pe_int (fun _ _ => rfl)) (pe_callB call_len_seq (by rfl) mL PySem.boot_len (pa_cons (pe_ix ix_list (pv 0) pe_int (fun _ _ => rfl)) pa_nil)) (nomark _))
        (pss_cons (ps_set (i := 3) scTake.nd rfl (Or.inl rfl) (pe_ix ix_list (pe_ix ix_list (pv 0) pe_int (fun _ _ => rfl)) (pe_ix ix_list (pv 0) pe_int (fun _ _ => rfl)) (fun _ _ => rfl)))
        (pss_one (ps_asg (pe_op op_add (pe_ix ix_list (pv 0) pe_int (fun _ _ => rfl)) pe_int) (pg_sub (pv 0) pe_int set_list)))) pss_nil)
      (pss_cons (ps_if (pt_cmpR op_ge (pv 3) (pe_op op_pow pe_int pe_int) (nomark _))
        (pss_cons (ps_asg (pe_op op_fdivW (pv 3) (pv 1)) (pg_sub (pv 0) pe_int set_list))
        (pss_one (ps_ret (pe_op op_modN (pe_callTy call_int1 (by rfl) mI (by decide +kernel) (pa_cons (pv 3) pa_nil)) (pv 1))))) pss_nil)
      (pss_cons (ps_asg (pe_op op_add (pe_ix ix_list (pv 0) pe_int (fun _ _ => rfl)) pe_int) (pg_sub (pv 0) pe_int set_list))
      (pss_cons (ps_asg (pe_op op_mod (pe_callTy call_int1 (by rfl) mI (by decide +kernel) (pa_cons (pe_op op_add (pe_op op_add (pe_op op_mul (pe_ix ix_list (pv 0) pe_int (fun _ _ => rfl)) pe_int) (pv 3)) (pe_op op_mul (pe_ix ix_list (pv 0) pe_int (fun _ _ => rfl)) pe_int)) pa_nil)) pe_int) (pg_sub (pv 0) pe_int set_list))
      (pss_one (ps_ret (pe_op op_modN (pe_op op_fdiv (pe_op op_mod (pe_callTy call_int1 (by rfl) mI (by decide +kernel) (pa_cons (pe_op op_mul (pe_ix ix_list (pv 0) pe_int (fun _ _ => rfl)) (pe_ix ix_list (pv 0) pe_int (fun _ _ => rfl))) pa_nil)) pe_int) pe_int) (pv 1))))))))), ?_⟩
    have at2 : ∀ (a0 a1 a2 a3 a4 : V), atI [a0, a1, a2, a3, a4] 2 = some a2 := fun _ _ _ _ _ => rfl
    -- if bag[2] >= 10 ** 18
    refine ⟨_, rfl, b, _, _, _, rfl, rfl, SqL.of hb, rfl, 10, 18, rfl, rfl, ⟨by decide, by decide, by decide⟩, _, _, rfl, rfl, _, rfl, ?_⟩
    refine ite2 (fun _ => ?_) (fun _ => ?_)
    · refine ⟨_, rfl, b, _, _, _, rfl, rfl, SqL.of hb, rfl, .inl ⟨_, rfl, ?_⟩⟩
      refine ⟨_, rfl, _, _, rfl, rfl, nn, ?_⟩
      refine ⟨_, rfl, b, _, _, _, rfl, rfl, SqL.of hb, rfl, _, rfl, _, _, rfl, rfl, ⟨wd.1, wd.2⟩, ?_⟩
      refine ⟨_, rfl, b, _, _, 2, rfl, rfl, hb, rfl, ?_⟩
      refine ⟨_, rfl, k _ _ (fm_nn _ n0).1 (fm_nn _ n0).2 ⟨ns, p, q / n, r, c, upd_same, ?_, p0, r0, r1⟩ bag_keep⟩
      rw [upd_ne (ne_of hl hb (by intro z; cases ns with | nil => cases z | cons a t => cases z))]
      exact hl
    · -- cell = 0; the join
      refine ⟨fun σ' H' => ∃ (p' cell : Int) (v : Option V), σ' = [some (.ref b), some (.int n), v, some (.int cell)] ∧ 0 ≤ p' ∧ H' b = some (.lst [.ref l, .int p', .int q, .int r, .int c]) ∧ H' l = some (.lst (ns.map V.int)) ∧ Keep b H H', ?_, ?_⟩
      · refine ⟨_, rfl, b, _, _, _, rfl, rfl, SqL.of hb, rfl, _, rfl, b, _, _, _, rfl, rfl, SqL.of hb, rfl, l, _, rfl, .inl (SqL.of hl), _, _, rfl, rfl, _, rfl, ?_⟩
        refine ite2 (fun hp => ?_) (fun _ => ?_)
        · have hp' : p < ((ns.map V.int).length : Int) := of_decide_eq_true hp
          rw [List.length_map] at hp'
          obtain ⟨m, rfl⟩ : ∃ m : Nat, p = (m : Int) := ⟨p.toNat, by omega⟩
          have hm : m < ns.length := by omega
          refine ⟨_, rfl, b, _, _, _, rfl, rfl, SqL.of hb, rfl, _, rfl, b, _, _, _, rfl, rfl, SqL.of hb, rfl, l, _, _, .int ns[m], rfl, rfl, SqL.of hl, atI_nat (by rw [List.getElem?_map, List.getElem?_eq_getElem hm]; rfl), ?_⟩
          refine ⟨_, rfl, b, _, _, _, rfl, rfl, SqL.of hb, rfl, _, _, rfl, rfl, ?_⟩
          refine ⟨_, rfl, b, _, _, 1, rfl, rfl, hb, rfl, ?_⟩
          refine ⟨(m : Int) + 1, ns[m], none, rfl, by omega, upd_same, ?_, bag_keep⟩
          rw [upd_ne (ne_of hl hb (by intro z; cases ns with | nil => cases z | cons a t => cases z))]
          exact hl
        · exact ⟨p, 0, none, rfl, p0, hb, hl, Keep.refl⟩
      · rintro σ' H' ⟨p', cell, v, rfl, p0', hb', hl', kp⟩
        have hbl : ∀ o, upd H' b o l = some (.lst (ns.map V.int)) := fun o => by
          rw [upd_ne (ne_of hl' hb' (by intro z; cases ns with | nil => cases z | cons a t => cases z))]
          exact hl'
        refine ⟨_, rfl, 10, 18, rfl, rfl, ⟨by decide, by decide, by decide⟩, _, _, rfl, rfl, _, rfl, ?_⟩
        refine ite2 (fun _ => ?_) (fun _ => ?_)
        · refine ⟨_, rfl, _, rfl, _, _, rfl, rfl, ⟨wd.1, wd.2⟩, ?_⟩
          refine ⟨_, rfl, b, _, _, 2, rfl, rfl, hb', rfl, ?_⟩
          refine ⟨_, rfl, .inl ⟨_, rfl, ?_⟩⟩
          refine ⟨_, rfl, _, _, rfl, rfl, nn, ?_⟩
          exact k _ _ (fm_nn _ n0).1 (fm_nn _ n0).2 ⟨ns, p', cell / n, r, c, upd_same, hbl _, p0', r0, r1⟩ (kp.trans bag_keep)
        · refine ⟨_, rfl, b, _, _, _, rfl, rfl, SqL.of hb', rfl, _, _, rfl, rfl, ?_⟩
          refine ⟨_, rfl, b, _, _, 4, rfl, rfl, hb', rfl, ?_⟩
          refine ⟨_, rfl, b, _, _, _, rfl, rfl, SqL.of upd_same, rfl, _, _, rfl, rfl, .inr (by decide), ?_⟩
          refine ⟨_, rfl, _, _, rfl, rfl, ?_⟩
          refine ⟨_, rfl, b, _, _, _, rfl, rfl, SqL.of upd_same, rfl, _, _, rfl, rfl, .inr (by decide), ?_⟩
          refine ⟨_, _, rfl, rfl, .inl ⟨_, rfl, ?_⟩⟩
          refine ⟨_, _, rfl, rfl, (by show (0 : Int) < 2147483647; decide), ?_⟩
          refine ⟨_, rfl, b, _, _, 3, rfl, rfl, upd_same, rfl, ?_⟩
          have z0 : ∀ x : Int, 0 ≤ x % 2147483647 ∧ x % 2147483647 < 2147483647 := fun x => by omega
          generalize (r * 48271 + cell + (c + 1) * 69621 : Int) = x
          obtain ⟨y0, y1⟩ := z0 x
          refine ⟨_, rfl, b, _, _, _, rfl, rfl, SqL.of upd_same, rfl, _, rfl, b, _, _, _, rfl, rfl, SqL.of upd_same, rfl, _, _, rfl, rfl, .inl ⟨by omega, by omega⟩, .inl ⟨_, rfl, ?_⟩⟩
          refine ⟨_, _, rfl, rfl, (by show (0 : Int) < 2147483629; decide), ?_⟩
          refine ⟨_, _, rfl, rfl, ⟨by decide, by decide⟩, ?_⟩
          refine ⟨_, rfl, _, _, rfl, rfl, nn, ?_⟩
          refine k _ _ (fm_nn _ n0).1 (fm_nn _ n0).2 ⟨ns, p', q, x % 2147483647, c + 1, upd_same, ?_, p0', y0, y1⟩ ((kp.trans bag_keep).trans bag_keep)
          rw [upd_upd]
          exact hbl _
end
/-! ### rules of my own -/
section
variable {X : Cx}
/-- // by any divisor but 0, below 2 ^ 9000 in size -/
def CDivX (_ j : Int) : Prop := j ≠ 0 ∧ j.natAbs.log2 < 9000
theorem op_fdivX : OpR X (binaryOp .FloorDiv) (rI CDivX fun i j => .int (i.fdiv j)) := opI fun i j _ _ _ _ _ hc q =>
  PyProof.Rows.floordiv_int hc.1 q (.inl (PyProof.noPylong_of_log2 hc.2))
theorem divx {i j : Int} {b : Nat} (h : j ≠ 0) (hb : j.natAbs < 2 ^ b) (h0 : 0 < b) (h9 : b ≤ 9000) : CDivX i j := ⟨h, Nat.lt_of_lt_of_le (PySem.Flt.log2_lt_of h0 hb) h9⟩
/-- C(e, ..) whose __init__ may raise, wished for at the caller's slots -/
def tMakeS (C : Addr) (sp : Sp) (dvs : List V) (E : St → XK) (t : TA) : TE := fun σ H Q => t σ H fun vs H1 => ∀ x dx, H1 x = none → H1 dx = none → dx ≠ x →
  sp (.ref x :: (vs ++ dvs)) (upd (upd H1 dx (.own x)) x (.ins C dx [])) (fun v H2 => v = .non ∧ Q (.ref x) H2) (E σ)
theorem pe_makeS {CX : CXT} {k : Nat} {f C : Addr} {fd : FuncData} {ps : List Str} {sp : Sp} {E : St → XK} {x : Str} {p pos : Pos} {e : Expr} {es : List Expr} {t : TA} {ds : List Value} {dvs : List V}
    (M : Mk X.K C f) (F : FnOk X.prog X.w X.K X.mg X.base CX k f fd ps sp) (hr : Room (k + 1) X.A) (hg : Gl X x) (hm : X.mg x = some (.ref C)) (hb : Binds X.K fd ps ds) (hd : Vals dvs ds) (hx : ∀ σ, PassesAt CX X σ (E σ))
    (ha : PA X (e :: es) t) (hdb : (x == ("__debug__" : Str)) = false := by decide) (he : starEach (e :: es) X.env = (false, eval e X.env) :: starEach es X.env := by rfl) (hpl : (backTo pos (starEach es X.env)).any (·.1) = false := by rfl) :
    PE X (.Call (.Name x p) (e :: es) [] pos) (tMakeS C sp dvs E t) := by
  refine ⟨fun pins s σ H Q I h => ?_⟩
  refine PySem.wpAny_Call_Name_kw (ld_glob I hg hm ?_ hdb)
  refine PySem.W.callWith_K (h₀ := X.base) I.ok.mod.kin M.kp (thn (ha.run pos pins s σ H _ I h) fun us s1 ⟨vs, H1, I1, r, q1⟩ => ⟨I1.kIn, ?_⟩) he hpl
  have hq := q1 (s1.heap.objs.size + 1) s1.heap.objs.size (I1.hok.fresh (Nat.le_succ _)) (I1.hok.fresh (Nat.le_refl _)) (Nat.ne_of_lt (Nat.lt_succ_self _))
  have I2 := Inv.made (C := C) I1
  have r2 : Vals (V.ref (s1.heap.objs.size + 1) :: (vs ++ dvs)) (Value.ref (s1.heap.objs.size + 1) :: (us ++ ds)) := .cons rfl (r.append hd)
  have hl : (Value.ref (s1.heap.objs.size + 1) :: us ++ ds).length = ps.length := by
    have e := r2.length
    rw [F.len _ _ _ _ hq] at e
    exact e.symm
  refine wpAny_call (make_map (f := f) I1.kIn M.makes M.init (beq_iff_eq.mp M.fn) (codeAny_mono (F.run _ X.stack _ _ ⟨Value.ref (s1.heap.objs.size + 1) :: us, []⟩ (Value.ref (s1.heap.objs.size + 1) :: (us ++ ds)) _ _ (E σ) (hr.make C us [])
    (I2.env0.make C us []) (hb _ (Value.ref (s1.heap.objs.size + 1) :: us) I2.kIn hl) r2 hq) fun r s' hq' => ?_))
  cases r with
  | error e => exact hx σ pins _ _ e s' I2 hq'
  | ok fl =>
    cases fl with
    | ret u =>
      obtain ⟨v, H', I3, rv, ev, q3⟩ := I2.after hq'
      subst ev
      exact ⟨rv, ⟨V.ref (s1.heap.objs.size + 1), H', I3, rfl, q3⟩⟩
    | next => exact False.elim hq'
    | brk => exact False.elim hq'
    | cont => exact False.elim hq'
end
/-! ### an own error with one field -/
theorem upd_exc {H : Hp} {a dx : Addr} {u1 u2 u3 o : HO} (ha : H a = none) (hd : dx ≠ a) : upd (del (upd (upd (upd H a u1) dx u2) a u3) a) dx o = upd H dx o := by
  funext b
  by_cases h1 : b = dx
  · rw [h1, upd_same, upd_same]
  · rw [upd_ne h1, upd_ne h1]
    by_cases h2 : b = a
    · rw [h2, del_same, ha]
    · rw [del_ne h2, upd_ne h2, upd_ne h1, upd_ne h2]
/-- C.__init__(self, y): self.f = y -/
def spEx1 (C : Addr) (f : Str) : Sp := fun vs H Q _ => ∃ (a : Addr) (y : V), vs = [.ref a, y] ∧ H a = some (exo a C none) ∧ ∀ dx, H dx = none → dx ≠ a → Q .non (upd (upd H dx (exd dx [(f, y)])) a (exo a C (some dx)))
theorem mkO1 {C : Addr} {f : Str} {ta : TA} {σ : St} {H : Hp} {Q : XK} (h : ta σ H fun vs H1 => ∃ y, vs = [y] ∧ ∀ d, H1 d = none → Q (.ref C) (some d) (upd H1 d (.xd [(f, y)]))) (hm : ∀ (P R : List V → Hp → Prop), (∀ vs H, P vs H → R vs H) → ta σ H P → ta σ H R) : tMkO C (spEx1 C f) [] ta σ H Q := by
  refine hm _ _ (fun vs H1 ⟨y, ev, k⟩ => ?_) h
  subst ev
  refine ⟨by show 1 ≤ 1000; decide, fun a na => ⟨a, y, rfl, upd_same, fun dx hdx nda => ⟨rfl, dx, [(f, y)], upd_same, ?_, ?_, ?_⟩⟩⟩
  · rw [upd_ne nda, upd_same]
  · rw [upd_ne nda] at hdx
    exact hdx
  · rw [upd_exc na nda]
    rw [upd_ne nda] at hdx
    exact k dx hdx
/-- what the written part says of such a class and its __init__ -/
structure ErrC (K : PySem.W.Frag) (mg : Str → Option Value) (x : Str) (C fI : Addr) : Prop where
  g : mg x = some (.ref C)
  T : OexC K C
  iC : PySem.W.findIn K (.ref C) "__init__" = some (some (.ref fI))
  tI : PySem.W.typeIn K (.ref fI) = some (.type "function")
/-- raise C(e) -/
def tRaise1 (C : Addr) (f : Str) (W : WX) (te : TE) : TS := fun _ σ H => te σ H fun y H1 => ∀ d, H1 d = none → W (.ref C) (some d) σ (upd H1 d (.xd [(f, y)]))
section
variable {X : Cx}
theorem ps_raise1 {CX : CXT} {x f : Str} {C fI : Addr} {k : Nat} {fd : FuncData} {te : TE} {W : WX} {a : Expr} {p pos pos2 : Pos} (R : ErrC X.K X.mg x C fI) (F1 : FnOk X.prog X.w X.K X.mg X.base CX k fI fd ["self", f] (spEx1 C f)) (hr : Room (k + 1) X.A) (hb : Binds X.K fd ["self", f] [])
    (hx : Passes CX X (fun _ _ _ => False)) (hc : X.calm = true) (tk : Takes X W) (ha : PE X a te) (hm : ∀ σ H (P R : V → Hp → Prop), (∀ v H, P v H → R v H) → te σ H P → te σ H R) (hg : Gl X x := by rfl) (hdb : (x == ("__debug__" : Str)) = false := by decide)
    (he : starEach (a :: []) X.env = (false, eval a X.env) :: starEach [] X.env := by rfl) (hpl : (backTo pos (starEach [] X.env)).any (·.1) = false := by rfl) :
    PS X (.Raise (some (.Call (.Name x p) [a] [] pos)) none pos2) (tRaise1 C f W te) := by
  have q := ps_raise hc tk (pmk_oex (p := p) (e := a) (es := []) R.T R.iC R.tI F1 hr hb .nil hx hg R.g (pa_cons ha pa_nil he) hdb he hpl) (pos := pos2)
  refine ⟨fun pins s σ H D I h => q.run pins s σ H D I ?_⟩
  refine mkO1 (f := f) ?_ (fun P R hpr h => ?_)
  · exact hm σ H _ _ (fun y H1 k => ⟨y, rfl, k⟩) h
  · exact hm σ H _ _ (fun v H1 k => hpr _ _ k) h
theorem mono_tVar {i : Nat} (σ : St) (H : Hp) (P R : V → Hp → Prop) (h : ∀ v H, P v H → R v H) : tVar i σ H P → tVar i σ H R := fun ⟨v, e, p⟩ => ⟨v, e, h v H p⟩
end
/-! ### kinds of values -/
/-- v is an int (a truth value too): i; a truth value: b -/
def Kd (K : PySem.W.Frag) (H : Hp) (v : V) (i b : Bool) : Prop := ∃ T : String, TyX K H v (.type T) ∧ kitB T "int" = some i ∧ kitB T "bool" = some b
theorem Kd.int {K : PySem.W.Frag} {H : Hp} {n : Int} : Kd K H (.int n) true false := ⟨"int", .base (.int n), by decide +kernel, by decide +kernel⟩
theorem Kd.bl {K : PySem.W.Frag} {H : Hp} {n : Bool} : Kd K H (.bl n) true true := ⟨"bool", .base (.bl n), by decide +kernel, by decide +kernel⟩
theorem Kd.non {K : PySem.W.Frag} {H : Hp} : Kd K H .non false false := ⟨"NoneType", .base .non, by decide +kernel, by decide +kernel⟩
theorem Kd.str {K : PySem.W.Frag} {H : Hp} {z : Str} : Kd K H (.str z) false false := ⟨"str", .base (.str z), by decide +kernel, by decide +kernel⟩
theorem Kd.lst {K : PySem.W.Frag} {H : Hp} {a : Addr} {xs : List V} (e : H a = some (.lst xs)) : Kd K H (.ref a) false false := ⟨"list", .base (.lst e), by decide +kernel, by decide +kernel⟩
theorem Kd.tup {K : PySem.W.Frag} {H : Hp} {a : Addr} {xs : List V} (e : H a = some (.tup xs)) : Kd K H (.ref a) false false := ⟨"tuple", .base (.tup e), by decide +kernel, by decide +kernel⟩
/-! ### is_whole, and the law's own of that shape -/
def spWhole (K : PySem.W.Frag) : Sp := fun vs H Q _ => ∃ (v : V) (i b : Bool), vs = [v] ∧ Kd K H v i b ∧ Q (.bl (i && !b)) H
section
variable {P : Program} {w : World} {K : PySem.W.Frag} {mg : Str → Option Value} {base : Heap}
abbrev sWhole : Stmt := top 11
theorem scWhole : FnScope ["value"] ["value"] (defScope sWhole) := ⟨rfl, rfl, rfl, by decide +kernel, rfl, by decide +kernel, by decide +kernel⟩
theorem ok_whole {f : Addr} {fd : FuncData} (F : Fun K "is_whole" "is_whole" sWhole f fd) (mIs : mg "isinstance" = none) (mI : mg "int" = none) (mB : mg "bool" = none) : FnOk P w K mg base CX0 1 f fd ["value"] (spWhole K) := by
  refine F.ok scWhole (fun vs H Q E h => ?_) (fun cdv A outer s H vs Q E hr h => ?_)
  · obtain ⟨v, i, b, rfl, _⟩ := h
    rfl
  · obtain ⟨v, i, b, rfl, ⟨T, ty, k1, k2⟩, k⟩ := h
    refine ⟨_, pss_one (ps_ret (pe_and (pe_callB call_isi (by rfl) mIs (by decide +kernel) (pa_cons (pv 0) (pa_cons (pe_bltn (v := .ty "int") (by rfl) mI (by decide +kernel) rfl) pa_nil)))
      (pe_one (pe_not (pe_callB call_isi (by rfl) mIs (by decide +kernel) (pa_cons (pv 0) (pa_cons (pe_bltn (v := .ty "bool") (by rfl) mB (by decide +kernel) rfl) pa_nil))))))), ?_⟩
    refine ⟨_, rfl, _, _, _, _, i, rfl, .ty "int", ty, kit_ty k1, i, rfl, ?_⟩
    cases i with
    | false => exact iteF k
    | true =>
      refine iteT ?_
      exact ⟨_, rfl, _, _, _, _, b, rfl, .ty "bool", ty, kit_ty k2, b, rfl, k⟩
/-! ### an error's __init__ -/
abbrev sEI : Stmt := inClass (top 4) 0
theorem scEI : FnScope ["self", "value"] ["self", "value"] (defScope sEI) := ⟨rfl, rfl, rfl, by decide +kernel, rfl, by decide +kernel, by decide +kernel⟩
theorem ok_ei {f C : Addr} {fd : FuncData} (F : Fun K "__init__" "InvalidNumber.__init__" sEI f fd) (T : OexC K C) (hno : PySem.W.findIn K (.ref C) "value" = some none) : FnOk P w K mg base CX0 1 f fd ["self", "value"] (spEx1 C "value") := by
  refine F.ok scEI (fun vs H Q E h => ?_) (fun cdv A outer s H vs Q E hr h => ?_)
  · obtain ⟨v, i, rfl, _⟩ := h
    rfl
  · obtain ⟨a, y, rfl, ha, k⟩ := h
    refine ⟨_, pss_one (ps_ost (pv 0) (pv 1)), ?_⟩
    exact ⟨_, rfl, _, rfl, a, C, rfl, T, hno, .inl ⟨ha, fun dx n ne => k dx n ne⟩⟩
end
/-! ### what stays -/
theorem TyOf.sm {K : PySem.W.Frag} {H H' : Hp} {v : V} {t : Value} (s : Same H H') (h : TyOf K H v t) : TyOf K H' v t := by
  cases h with
  | non => exact .non
  | bl x => exact .bl x
  | int i => exact .int i
  | str x => exact .str x
  | flt x => exact .flt x
  | lst e => exact .lst (s _ _ e)
  | frz e => exact .frz (s _ _ e)
  | tup e => exact .tup (s _ _ e)
  | dK e => exact .dK (s _ _ e)
  | dT e => exact .dT (s _ _ e)
  | ins e cl ha hn htk hm => exact .ins (s _ _ e) cl ha hn htk hm
theorem TyX.sm {K : PySem.W.Frag} {H H' : Hp} {v : V} {t : Value} (s : Same H H') (h : TyX K H v t) : TyX K H' v t := by
  cases h with
  | base b => exact .base (TyOf.sm s b)
  | byt b => exact .byt b
  | set e => exact .set (s _ _ e)
  | kList e c => exact .kList e c
  | kTuple e c => exact .kTuple e c
  | kDict e c => exact .kDict e c
  | fTuple e => exact .fTuple (s _ _ e)
  | fDict e => exact .fDict (s _ _ e)
theorem Kd.sm {K : PySem.W.Frag} {H H' : Hp} {v : V} {i b : Bool} (s : Same H H') : Kd K H v i b → Kd K H' v i b := fun ⟨T, ty, k1, k2⟩ => ⟨T, TyX.sm s ty, k1, k2⟩
theorem same_upd {H : Hp} {a : Addr} {o : HO} (h : H a = none) : Same H (upd H a o) := fun b u e => by
  rw [upd_ne (ne_of_none e h)]
  exact e
theorem fresh_of {H : Hp} {a b : Addr} {u : HO} (h : H a = none) (e : H b = some u) : b ≠ a := fun z => by rw [z, h] at e; cases e
/-! ### what the laws of ratios share -/
structure At (K : PySem.W.Frag) (mg : Str → Option Value) (x : Str) (f : Addr) : Prop where
  g : mg x = some (.ref f)
  k : PySem.W.keepIn K (.ref f) = true
theorem BagAt.sm {H H' : Hp} {b l : Addr} (s : Same H H') : BagAt H b l → BagAt H' b l := fun ⟨ns, p, q, r, c, h1, h2, h3⟩ => ⟨ns, p, q, r, c, s _ _ h1, s _ _ h2, h3⟩
theorem BagAt.ne {H : Hp} {a b l : Addr} : BagAt H b l → H a = none → a ≠ b := fun ⟨ns, p, q, r, c, h1, _⟩ h z => by rw [z, h1] at h; cases h
theorem BagAt.nl {H : Hp} {a b l : Addr} : BagAt H b l → H a = none → a ≠ l := fun ⟨ns, p, q, r, c, _, h2, _⟩ h z => by rw [z, h2] at h; cases h
theorem BagAt.up {H : Hp} {a b l : Addr} {o : HO} (h1 : a ≠ b) (h2 : a ≠ l) : BagAt H b l → BagAt (upd H a o) b l := fun ⟨ns, p, q, r, c, e1, e2, h3⟩ => ⟨ns, p, q, r, c, (upd_ne (Ne.symm h1)).trans e1, (upd_ne (Ne.symm h2)).trans e2, h3⟩
theorem atI_in {α : Type} {xs : List α} {d : Int} (h0 : 0 ≤ d) (h1 : d < (xs.length : Int)) : ∃ v, atI xs d = some v ∧ v ∈ xs := by
  obtain ⟨m, rfl⟩ : ∃ m : Nat, d = (m : Int) := ⟨d.toNat, by omega⟩
  have hm : m < xs.length := by omega
  exact ⟨xs[m], atI_nat (List.getElem?_eq_getElem hm), List.getElem_mem hm⟩
def spLaw (K : PySem.W.Frag) : Sp := fun vs H Q _ => ∃ (a : Addr) (ns : List Int), vs = [.ref a] ∧ SqL K H a (ns.map V.int) ∧ ns.length ≤ 63 ∧ ∀ H', Q (.bl true) H'
/-! ### own errors: their class called; held as values -/
section
variable {X : Cx} {C fI : Addr} {k : Nat} {fd : FuncData} {ps : List Str} {sp : Sp} {pins : List (Addr × Obj)} {σ : L2.St}
/-- the room of a call of the class -/
theorem err_bind {H1 : Hp} {us ds : List Value} {vs dvs : List V} {a : Addr} {Q : VK} {E : XK} {CX : CXT} (F1 : FnOk X.prog X.w X.K X.mg X.base CX k fI fd ps sp) (rv : Vals vs us) (rd : Vals dvs ds) (q : sp (.ref a :: (vs ++ dvs)) H1 Q E) :
    Vals (V.ref a :: (vs ++ dvs)) (Value.ref a :: (us ++ ds)) ∧ ((Value.ref a :: us) ++ ds).length = ps.length := by
  have all : Vals (V.ref a :: (vs ++ dvs)) (Value.ref a :: (us ++ ds)) := .cons rfl (rv.append rd)
  exact ⟨all, by rw [List.cons_append, ← all.length]; exact F1.len _ _ _ _ q⟩
/-- C(..) of an own error whose __init__ keeps to sp: where the object stands, and what __init__ leaves -/
theorem err_call {CX : CXT} {x : Str} (R : ErrC X.K X.mg x C fI) (F1 : FnOk X.prog X.w X.K X.mg X.base CX k fI fd ps sp) (hr : Room (k + 1) X.A) {ds : List Value} {dvs : List V} (hb : Binds X.K fd ps ds) (rd : Vals dvs ds)
    {H1 : Hp} {s1 : Shared} {us : List Value} {vs : List V} {Qa : Addr → VK} {Ea : XK} {T : Value → Shared → Prop} {E : Value → Shared → Prop} (I1 : Inv X pins σ H1 s1) (rv : Vals vs us) (hz : vs.length ≤ 1000)
    (q1 : ∀ a, H1 a = none → sp (.ref a :: (vs ++ dvs)) (upd H1 a (exo a C none)) (Qa a) Ea)
    (good : ∀ (a : Addr) (h2 : Heap) (v : V) (s' : Shared), s1.heap.objs.size ≤ a → (∀ b o, s1.heap.get? b = some o → h2.get? b = some o) → Inv X pins σ (upd H1 a (exo a C none)) { s1 with heap := h2 } →
      CE X.stack X.prog X.w (upd H1 a (exo a C none)) { s1 with heap := h2 } (Qa a) .none s' → T (.ref a) s')
    (bad : ∀ (a : Addr) (h2 : Heap) (er : Value) (s' : Shared), Inv X pins σ (upd H1 a (exo a C none)) { s1 with heap := h2 } → CX X.stack (upd H1 a (exo a C none)) { s1 with heap := h2 } Ea er s' → E er s')
    (nn : ∀ a v H2, Qa a v H2 → v = .non) : wpAny (model X.prog X.w) X.A (call (.ref C) us) T E s1 := by
  rcases s1 with ⟨hp, g, dr, tk, os⟩
  rcases R.T.cls with ⟨nm, q, N, bs, bm, sn, sub, ab, col, dd, k0, k1, k2, k3, k5, inK, isVE⟩
  -- the args' tuple, then the error
  let a := hp.objs.size + 1
  let h2 := (hp.push (PySem.W.kdv_tup us)).push (PySem.HandSPX.excO C hp.objs.size)
  have keeps : ∀ b o, hp.get? b = some o → h2.get? b = some o := fun b o e => Heap.get?_push_of_some _ (Heap.get?_push_of_some _ e)
  have new : hp.objs.size ≤ a := Nat.le_add_right _ _
  have here : h2.get? a = some (PySem.HandSPX.excO C hp.objs.size) := by
    show ((hp.push (PySem.W.kdv_tup us)).push (PySem.HandSPX.excO C hp.objs.size)).get? (hp.objs.size + 1) = _
    heap_get
  have J : Inv X pins σ (upd H1 a (exo a C none)) ⟨h2, g, dr, tk, os⟩ := I1.laid (t' := tk) keeps new (exo_ok here)
  have q := q1 a (I1.hok.fresh new)
  obtain ⟨all, len⟩ := err_bind (H1 := upd H1 a (exo a C none)) F1 rv rd q
  have fits : us.length ≤ sizeLine := by
    have e1 := rv.length
    have e2 : sizeLine = 16777216 := sizeLine_eq
    omega
  have run := F1.run (X.A.under (.builtin "type.__call__" ⟨.ref C :: us, []⟩)) X.stack _ _ ⟨Value.ref a :: us, []⟩ _ _ (Qa a) Ea (hr.make C us []) (J.env0.make C us []) (hb _ (Value.ref a :: us) J.kIn len) all q
  refine wpAny_call (PySem.HandSPX.call_own PySem.F.excBase_ValueError (fun Y => PySem.HandSPX.refsVE_contains Y bm isVE) (I1.kIn _ _ inK) (PySem.W.looks_findIn I1.kIn R.iC) (fun self => PySem.W.bind_fn I1.kIn self R.tI) fits (codeAny_mono run ?_))
  rintro (er | (_ | _ | _ | u)) s' z
  · exact bad a h2 er s' J z
  · exact (show False from z).elim
  · exact (show False from z).elim
  · exact (show False from z).elim
  · obtain ⟨v, H2, z1, z2, z3, z4, rel, z5⟩ := id z
    have e := nn a v H2 z5
    subst e
    have e2 : u = .none := rel
    subst e2
    exact ⟨rfl, good a h2 .non s' new keeps J z⟩
/-- the class's name, its arguments, then the call -/
theorem err_written {e : Expr} {es : List Expr} {x : Str} {p pos : Pos} {ta : TA} {s : Shared} {H : Hp} {T : Value → Shared → Prop} {Q : List V → Hp → Prop} (R : ErrC X.K X.mg x C fI) (hg : Gl X x) (ha : PA X (e :: es) ta) (hdb : (x == ("__debug__" : Str)) = false)
    (he : starEach (e :: es) X.env = (false, eval e X.env) :: starEach es X.env) (hpl : (backTo pos (starEach es X.env)).any (·.1) = false) (I : Inv X pins σ H s) (h : ta σ H Q)
    (go : ∀ us s1 vs H1, Inv X pins σ H1 s1 → Vals vs us → Q vs H1 → wpAny (model X.prog X.w) X.A (call (.ref C) us) T X.xe s1) :
    wpAny (model X.prog X.w) X.A (eval (.Call (.Name x p) (e :: es) [] pos) X.env) T X.xe s := by
  refine PySem.wpAny_Call_Name_kw (ld_glob I hg R.g ?_ hdb)
  refine PySem.W.callWith_K (h₀ := X.base) I.ok.mod.kin R.T.kC (wpAny_mono (ha.run pos pins s σ H _ I h) (fun us s1 told => ?_) fun _ _ z => z) he hpl
  obtain ⟨vs, H1, I1, rv, q⟩ := told
  exact ⟨I1.kIn, go us s1 vs H1 I1 rv q⟩
end
/-! what follows for values, for `isinstance` of them, and for `raise` -/
def tExv (C : Addr) (sp : Sp) (dvs : List V) (ta : TA) : TE := fun σ H Q => ta σ H fun vs H1 => vs.length ≤ 1000 ∧ ∀ a, H1 a = none → sp (.ref a :: (vs ++ dvs)) (upd H1 a (exo a C none)) (fun v H2 => v = .non ∧ Q (.ref a) H2) E0
section
variable {X : Cx} {e : Expr} {es : List Expr} {pos p : Pos} {ta : TA} {x : Str} {C fI : Addr} {k : Nat} {fd : FuncData} {ps : List Str} {sp : Sp}
theorem pe_exv {ds : List Value} {dvs : List V} (R : ErrC X.K X.mg x C fI) (F1 : FnOk X.prog X.w X.K X.mg X.base CX0 k fI fd ps sp) (hr : Room (k + 1) X.A) (hb : Binds X.K fd ps ds) (hd : Vals dvs ds) (hg : Gl X x) (ha : PA X (e :: es) ta)
    (hdb : (x == ("__debug__" : Str)) = false := by decide) (he : starEach (e :: es) X.env = (false, eval e X.env) :: starEach es X.env := by rfl) (hpl : (backTo pos (starEach es X.env)).any (·.1) = false := by rfl) :
    PE X (.Call (.Name x p) (e :: es) [] pos) (tExv C sp dvs ta) :=
  ⟨fun _ _ _ _ Q I h => err_written R hg ha hdb he hpl I h fun _ _ _ _ I1 rv q =>
    err_call R F1 hr hb hd I1 rv q.1 q.2 (fun a _ _ _ _ _ J z => by
      obtain ⟨v, H2, J2, _, _, w⟩ := J.after z
      exact ⟨.ref a, H2, J2, rfl, w⟩) (fun _ _ _ _ _ z => False.elim z) (fun _ _ _ z => z.1)⟩
/-- a held error of the class at D, its fields in the dict at d -/
def rIsV (K : PySem.W.Frag) : List V → Hp → VK → Prop := fun xs H Q => ∃ (a D d : Addr) (fs : List (Str × V)) (c : V) (cv : Value) (b : Bool), xs = [.ref a, c] ∧ ExcC K D ∧ H a = some (exo a D (some d)) ∧ H d = some (exd d fs) ∧ ClsV c cv ∧ PySem.W.kitOne K (.ref D) cv = some b ∧ Q (.bl b) H
theorem call_isV : CallR X (.builtin "isinstance") (rIsV X.K) := by
  rintro pins s σ H _ _ Q I (_ | ⟨r1, _ | ⟨r2, _ | _⟩⟩) ⟨a, D, d, fs, c, cv, b, e0, EC, at1, at2, isC, told, q⟩ <;> cases e0
  have e1 : _ = Value.ref a := r1
  subst e1
  rw [isC.eq r2]
  obtain ⟨_, atE⟩ := exo_at I.hok at1
  obtain ⟨_, ns, _⟩ := exd_at I.hok at2
  obtain ⟨od, atD, _⟩ := lookIn_ns ns
  have cls : (PySem.W.clsIn X.K D).isSome = true := by
    obtain ⟨_, y, _⟩ := PySem.W.any_some EC.hd
    exact Option.isSome_iff_exists.mpr ⟨_, y⟩
  exact PySem.W.kia_one (PySem.W.kitx_exc cls EC.hg EC.hk EC.hs EC.ha EC.hn EC.ht EC.hm) I.kIn (show PySem.W.InstAt s.heap a _ D (some od) from ⟨atE, rfl, rfl, atD⟩) told (by intro z; cases z) fun tk => ⟨.bl b, H, I.tok tk, rfl, q⟩
/-- the same error, to be raised; its context is None -/
theorem pmkN_oex {CX : CXT} (R : ErrC X.K X.mg x C fI) (F1 : FnOk X.prog X.w X.K X.mg X.base CX k fI fd ps sp) (hr : Room (k + 1) X.A) (hb : Binds X.K fd ps []) (hx : Passes CX X (fun _ _ _ => False)) (hg : Gl X x) (ha : PA X (e :: es) ta)
    (hdb : (x == ("__debug__" : Str)) = false := by decide) (he : starEach (e :: es) X.env = (false, eval e X.env) :: starEach es X.env := by rfl) (hpl : (backTo pos (starEach es X.env)).any (·.1) = false := by rfl) :
    L2N.PMk X (.Call (.Name x p) (e :: es) [] pos) (tMkO C sp [] ta) := fun pins s σ H Q I h => by
  refine err_written R hg ha hdb he hpl I h fun us s1 vs H1 I1 rv q => err_call R F1 hr hb .nil I1 rv q.1 q.2 (fun a h2 v s' new keeps J z => ?_) (fun a h2 er s' J z => hx _ _ _ _ er s' J z) (fun _ _ _ z => z.1)
  obtain ⟨v', H2, zo, zb, zu, zk, _, _, d, fs, at1, at2, free, w⟩ := z
  rcases s1 with ⟨hp, g, dr, tk, os⟩
  rcases s' with ⟨h', g', dr', tk', os'⟩
  obtain ⟨t0, G, JG, sub, gone, there, na⟩ := mk_end0 (d2 := dr') (t2 := tk') I1 new keeps zu zk zo zb at1 at2 free
  refine ⟨a, _, _, ⟨G, g', dr', tk', os'⟩, _, .ref C, some d, rfl, JG, sub, gone, there, ⟨rfl, rfl, ?_⟩, rfl, rfl, na, rfl, zb, raises_own R.T.exC R.T.tyC, w⟩
  intro vs hv
  cases hv
  rfl
end
/-! ### an own error with two fields -/
theorem upd_exc2 {H : Hp} {a dx : Addr} {u1 u2 u3 u4 o : HO} (ha : H a = none) (hd : dx ≠ a) : upd (del (upd (upd (upd (upd H a u1) dx u2) a u3) dx u4) a) dx o = upd H dx o := by
  funext b
  by_cases h1 : b = dx
  · rw [h1, upd_same, upd_same]
  · rw [upd_ne h1, upd_ne h1]
    by_cases h2 : b = a
    · rw [h2, del_same, ha]
    · rw [del_ne h2, upd_ne h1, upd_ne h2, upd_ne h1, upd_ne h2]
def spEx2 (C : Addr) (f g : Str) : Sp := fun vs H Q _ => ∃ (a : Addr) (x y : V), vs = [.ref a, x, y] ∧ H a = some (exo a C none) ∧ ∀ dx, H dx = none → dx ≠ a → Q .non (upd (upd (upd H dx (exd dx [(f, x)])) a (exo a C (some dx))) dx (exd dx [(g, y), (f, x)]))
theorem mkO2 {C : Addr} {f g : Str} {ta : TA} {σ : St} {H : Hp} {Q : XK} (h : ta σ H fun vs H1 => ∃ x y, vs = [x, y] ∧ ∀ d, H1 d = none → Q (.ref C) (some d) (upd H1 d (.xd [(g, y), (f, x)]))) (hm : ∀ (P R : List V → Hp → Prop), (∀ vs H, P vs H → R vs H) → ta σ H P → ta σ H R) : tMkO C (spEx2 C f g) [] ta σ H Q := by
  refine hm _ _ (fun vs H1 ⟨x, y, ev, k⟩ => ?_) h
  subst ev
  refine ⟨by show 2 ≤ 1000; decide, fun a na => ⟨a, x, y, rfl, upd_same, fun dx hdx nda => ⟨rfl, dx, [(g, y), (f, x)], ?_, upd_same, ?_, ?_⟩⟩⟩
  · rw [upd_ne (Ne.symm nda), upd_same]
  · rw [upd_ne nda] at hdx
    exact hdx
  · rw [upd_exc2 na nda]
    rw [upd_ne nda] at hdx
    exact k dx hdx
/-- raise C(a, b) -/
def tRaise2 (C : Addr) (f g : Str) (W : WX) (te tu : TE) : TS := fun _ σ H => te σ H fun x H1 => tu σ H1 fun y H2 => ∀ d, H2 d = none → W (.ref C) (some d) σ (upd H2 d (.xd [(g, y), (f, x)]))
section
variable {X : Cx}
theorem ps_raise2 {CX : CXT} {x f g : Str} {C fI : Addr} {k : Nat} {fd : FuncData} {te tu : TE} {W : WX} {a b : Expr} {p pos pos2 : Pos} (R : ErrC X.K X.mg x C fI) (F1 : FnOk X.prog X.w X.K X.mg X.base CX k fI fd ["self", f, g] (spEx2 C f g)) (hr : Room (k + 1) X.A) (hb : Binds X.K fd ["self", f, g] [])
    (hx : Passes CX X (fun _ _ _ => False)) (hc : X.calm = true) (tk : Takes X W) (ha : PE X a te) (hb2 : PE X b tu) (hm : ∀ σ H (P R : V → Hp → Prop), (∀ v H, P v H → R v H) → te σ H P → te σ H R) (hm2 : ∀ σ H (P R : V → Hp → Prop), (∀ v H, P v H → R v H) → tu σ H P → tu σ H R) (hg : Gl X x := by rfl) (hdb : (x == ("__debug__" : Str)) = false := by decide)
    (he : starEach [a, b] X.env = (false, eval a X.env) :: starEach [b] X.env := by rfl) (he2 : starEach [b] X.env = (false, eval b X.env) :: starEach [] X.env := by rfl) (hpl : (backTo pos (starEach [b] X.env)).any (·.1) = false := by rfl) :
    PS X (.Raise (some (.Call (.Name x p) [a, b] [] pos)) none pos2) (tRaise2 C f g W te tu) := by
  have q := ps_raise hc tk (pmk_oex (p := p) (e := a) (es := [b]) R.T R.iC R.tI F1 hr hb .nil hx hg R.g (pa_cons ha (pa_cons hb2 pa_nil he2) he) hdb he hpl) (pos := pos2)
  refine ⟨fun pins s σ H D I h => q.run pins s σ H D I ?_⟩
  refine mkO2 (f := f) (g := g) ?_ (fun P R hpr h => ?_)
  · exact hm σ H _ _ (fun u H1 k => hm2 σ H1 _ _ (fun v H2 k2 => ⟨u, v, rfl, k2⟩) k) h
  · exact hm σ H _ _ (fun u H1 k => hm2 σ H1 _ _ (fun v H2 k2 => hpr _ _ k2) k) h
end
/-! ### _put_advance, _put_kern -/
/-! ### try with several clauses, each with the error's name; nothing else leaves -/
section
open PyProof.Rows
/-- behind a suite the name in slot i is gone -/
def unset (i : Nat) (D : Ends) : Ends := { nx := fun σ H => D.nx (σ.set i none) H, rt := D.rt, bk := fun σ H => D.bk (σ.set i none) H, ct := fun σ H => D.ct (σ.set i none) H }
/-- a clause as data: the class, the slot of the name, the suite's reading -/
abbrev Cls1 := Value × Nat × (Addr → Value → Option Addr → TS)
def wManyA (K : PySem.W.Frag) (D : Ends) : List Cls1 → WX
  | [] => fun _ _ _ _ => False
  | (c, i, ts) :: r => fun cls d σ H => ∃ b, PySem.W.exmOne K cls c = some b ∧ (b = true → ∀ a, H a = none → ts a cls d (unset i D) (σ.set i (some (.ref a))) H) ∧ (b = false → wManyA K D r cls d σ H)
/-- handlers against clauses; Z: what is kept of the error's object -/
inductive HdsZ (Z : Value → Option Addr → Obj → Prop) (X : Cx) : List ExceptHandler → List Cls1 → Prop
  | nil : HdsZ Z X [] []
  | cons {x n : Str} {c : Value} {i : Nat} {ts : Addr → Value → Option Addr → TS} {b0 : Stmt} {suite : List Stmt} {np hp : Pos} {hds : List ExceptHandler} {l : List Cls1} (hc : Names X x c) (hi : X.N[i]? = some n) (hl : X.env.kindOf n = some .local)
      (hs : ∀ (a : Addr) (oe : Obj) (cls : Value) (d : Option Addr) (pn : List (Addr × Obj)), Z cls d oe → (∃ vs, oe.data = .fields vs) → PSs (X.suite a ((a, oe) :: pn)) (b0 :: suite) (ts a cls d)) (r : HdsZ Z X hds l) :
      HdsZ Z X (.ExceptHandler (some (.Name x np)) (some n) (b0 :: suite) hp :: hds) ((c, i, ts) :: l)
abbrev HdsA (X : Cx) : List ExceptHandler → List Cls1 → Prop := HdsZ Zc X
variable {X : Cx} {body : List Stmt} {h0 : ExceptHandler} {hds : List ExceptHandler} {l : List Cls1} {pos : Pos} {tb : WX → TS}
/-- the clauses, one behind another, looked at with the landed error -/
theorem hds_run {Z : Value → Option Addr → Obj → Prop} (zc : ∀ cls d o, Z cls d o → Zc cls d o) {pins : List (Addr × Obj)} {σ : L2.St} {H : Hp} {B h3 : Heap} {D : Ends} {a : Addr} {cls : Value} {d : Option Addr} {sI s' : Shared} {oe : Obj} {vs : Array Value} (hs : X.stack = X.env :: X.outer) (hf : X.env.frame = some X.env.locals) (hN : X.N.Nodup)
    (J : Inv X pins σ H sI) (nb : ∀ b o, sI.heap.get? b = some o → b ∉ frs X.stack → B.get? b = some o) (up : sI.heap.UpToSlots h3) (fl : HandSPX.FlyingZ B (X.env :: X.outer) a (Z cls d) h3) (na : H a = none) (os : s'.os = sI.os) (ag : AllBare s'.gens)
    (nL : a ≠ X.env.locals) (nF : a ∉ X.fs) (he : h3.get? a = some oe) (hz : Z cls d oe) (hd : oe.data = .fields vs) :
    ∀ {hds : List ExceptHandler} {l : List Cls1}, HdsZ Z X hds l → wManyA X.K D l cls d σ H → wpAny (model X.prog X.w) X.A (handleBy (.ref a) X.env hds) (SP X pins D) X.xe { s' with heap := h3 } := by
  have ok := J.ok
  have J3 : Inv X pins σ H { s' with heap := h3 } := J.landed nb fl.1 up os ag
  have S3 := J3.suite he hd na nL nF
  have LT : PySem.W.Looks (model X.prog X.w) h3 (typeOf (.ref a)) cls := fun A Q E s k q => wpAny_typeOf_ref (k _ _ he) (by rw [(zc _ _ _ hz).1]; exact q)
  intro hds l hk
  induction hk with
  | nil => exact False.elim
  | @cons x n c i ts b0 suite np hp hds2 l2 hc hi hl hsu r ih =>
    rintro ⟨b, hb, yes, no⟩
    refine wpAny_handleBy_cons (codeAny_handlers_test ?_) (by intro q; cases q)
    have LM := PySem.W.exm_one (M := model X.prog X.w) J3.kIn LT hb
    have look : ∀ {Q : Value → Shared → Prop} {E : Value → Shared → Prop}, Q c { s' with heap := h3 } → wpAny (model X.prog X.w) (X.A.mark (some (.ref a))) (eval (.Name x np) X.env) Q E { s' with heap := h3 } := fun q => by
      obtain ⟨hg, hdbg, hm | ⟨hm, hv, hnn⟩⟩ := hc
      · exact ld_glob (X := X.suite a ((a, oe) :: (X.pn ++ pins))) S3 hg hm q hdbg
      · exact ld_blt (X := X.suite a ((a, oe) :: (X.pn ++ pins))) S3 hg hm hv q hnn hdbg
    refine look (LM.here ?_)
    cases b with
    | false => exact ih (no rfl)
    | true =>
      refine codeAny_handlers_suite_as (HandSPX.lands_againZ fl fun h4 fl4 up4 => ?_)
      obtain ⟨oe4, vs4, he4, hz4, hd4⟩ := fl4.there
      have S4 := (J.landed (s' := { s' with heap := h4 }) nb fl4.1 (up.trans up4) os ag).suite he4 hd4 na nL nF
      refine store_ok (X := X.suite a ((a, oe4) :: (X.pn ++ pins))) (v := .ref a) S4 hN hi (.inl hl) rfl (fun s5 S5 => ?_) (.inr hl)
      refine wpAny_mono ((hsu a oe4 cls d (X.pn ++ pins) hz4 ⟨_, hd4⟩).run [] s5 _ H _ S5 (yes rfl a na)) (fun f s6 q6 => ?_) (fun _ _ z => z.elim)
      have bye : ∀ {σ6 : L2.St} {H6 : Hp} {R : Shared → Prop}, Inv (X.suite a ((a, oe4) :: (X.pn ++ pins))) [] σ6 H6 s6 → (∀ s7, Inv X pins (σ6.set i none) H6 s7 → R s7) →
          wpAny (model X.prog X.w) X.A (do bindName X.env n .none; unbindBehindTheSuite X.env n hp) (fun _ s7 => R s7) X.xe s6 := fun S6 k => gone_ok (S6.unsuite ok) hN hi hl k
      cases f with
      | next => obtain ⟨σ6, H6, S6, q⟩ := q6; exact bye S6 fun _ J7 => ⟨_, _, J7, q⟩
      | brk => obtain ⟨σ6, H6, S6, q⟩ := q6; exact bye S6 fun _ J7 => ⟨_, _, J7, q⟩
      | cont => obtain ⟨σ6, H6, S6, q⟩ := q6; exact bye S6 fun _ J7 => ⟨_, _, J7, q⟩
      | ret u => obtain ⟨v6, σ6, H6, S6, r6, q⟩ := q6; exact bye S6 fun _ J7 => ⟨_, _, _, J7, r6, q⟩
/-- the error is none of the running frames -/
theorem not_frame {B h3 : Heap} {a : Addr} {Zo : Obj → Prop} {oe : Obj} {vs : Array Value} (fl : HandSPX.FlyingZ B (X.env :: X.outer) a Zo h3) (he : h3.get? a = some oe) (hd : oe.data = .fields vs) (hf : X.env.frame = some X.env.locals) : a ≠ X.env.locals ∧ a ∉ X.fs := by
  have no : ∀ e ∈ X.env :: X.outer, e.frame ≠ some a := fun e he1 he2 => by
    obtain ⟨_, o', e', hnf⟩ := fl.2.2.1.mem (List.mem_filterMap.mpr ⟨e, he1, he2⟩)
    cases he.symm.trans e'
    exact hnf _ hd
  exact ⟨fun z => no _ List.mem_cons_self (by rw [hf, z]), fun hm => let ⟨e, h1, h2⟩ := List.mem_filterMap.mp hm; no e (List.mem_cons_of_mem _ h1) h2⟩
/-- the body of a try, its errors wished for by xe -/
theorem try_run {pn : List (Addr × Obj)} {xe : Value → Shared → Prop} {pins : List (Addr × Obj)} {s : Shared} {σ : L2.St} {H : Hp} {D : Ends} {t : TS} (I : Inv X pins σ H s) (hpn : pn = X.pn ++ pins) (b : PSs (X.tr pn xe) body t) (h : t D σ H) (xe' : xe = fun e s1 => wpAny (model X.prog X.w) X.A (noteFrame e X.env) (fun _ s2 => wpAny (model X.prog X.w) X.A (setFlight e none) (fun _ s3 => wpAny (model X.prog X.w) X.A (handleBy e X.env (h0 :: hds)) (SP X pins D) X.xe s3) X.xe s2) X.xe s1) :
    wpAny (model X.prog X.w) X.A (exec (.Try body (h0 :: hds) [] [] pos) X.env) (SP X pins D) X.xe s := by
  subst hpn xe'
  have ok := I.ok
  refine wpAny_Try_except (wpAny_mono (b.run [] s σ H D (I.toTry _) h) (fun f s1 q => ?_) (fun _ _ z => z))
  rcases f with _ | _ | _ | u
  · obtain ⟨σ1, H1, J, z⟩ := q
    exact wpAny_execs_nil ⟨σ1, H1, J.ofTry ok, z⟩
  · obtain ⟨σ1, H1, J, z⟩ := q
    exact ⟨σ1, H1, J.ofTry ok, z⟩
  · obtain ⟨σ1, H1, J, z⟩ := q
    exact ⟨σ1, H1, J.ofTry ok, z⟩
  · obtain ⟨v, σ1, H1, J, rest⟩ := q
    exact ⟨v, σ1, H1, J.ofTry ok, rest⟩
theorem ps_try_manyA (hs : X.stack = X.env :: X.outer) (hf : X.env.frame = some X.env.locals) (hN : X.N.Nodup)
    (hb : ∀ (W : WX) (pn : List (Addr × Obj)) (xe : Value → Shared → Prop), Takes (X.tr pn xe) W → PassesOwn (model X.prog X.w) X.A X.env xe → PSs (X.tr pn xe) body (tb W))
    (hh : HdsA X (h0 :: hds) l) : PS X (.Try body (h0 :: hds) [] [] pos) (fun D σ H => tb (wManyA X.K D l) D σ H) := by
  refine ⟨fun pins s σ H D I h => try_run I rfl (hb (wManyA X.K D l) _ _ ?_ PassesOwn.looking) h rfl⟩
  rintro u s' ⟨a, B, sI, pins', σ', H', cls, d, rfl, J', nb, up, sky, na, os, ag, w⟩
  show wpAny (model X.prog X.w) X.A (noteFrame (.ref a) X.env) _ _ _
  refine Sky.land Zc.steady (by rw [I.ok.frames, hs]) hf (by rw [← hs]; exact sky) fun h3 fl up3 => ?_
  obtain ⟨oe, vs, he, hz, hd⟩ := fl.there
  obtain ⟨n1, n2⟩ := not_frame fl he hd hf
  exact hds_run (fun _ _ _ z => z) hs hf hN (J'.ofTry I.ok) nb (up.trans up3) fl na os ag n1 n2 he hz hd hh w
/-! the same where the error's context is None: the suites may call defs -/
theorem ps_try_manyN (hs : X.stack = X.env :: X.outer) (hf : X.env.frame = some X.env.locals) (hN : X.N.Nodup)
    (hb : ∀ (W : WX) (pn : List (Addr × Obj)) (xe : Value → Shared → Prop), L2N.Takes (X.tr pn xe) W → PassesOwn (model X.prog X.w) X.A X.env xe → PSs (X.tr pn xe) body (tb W))
    (hh : HdsZ L2N.Zn X (h0 :: hds) l) : PS X (.Try body (h0 :: hds) [] [] pos) (fun D σ H => tb (wManyA X.K D l) D σ H) := by
  refine ⟨fun pins s σ H D I h => try_run I rfl (hb (wManyA X.K D l) _ _ ?_ PassesOwn.looking) h rfl⟩
  rintro u s' ⟨a, B, sI, pins', σ', H', cls, d, rfl, J', nb, up, sky, na, os, ag, w⟩
  show wpAny (model X.prog X.w) X.A (noteFrame (.ref a) X.env) _ _ _
  refine L2N.Sky.land L2N.Zn.steady (by rw [I.ok.frames, hs]) hf (by rw [← hs]; exact sky) fun h3 fl up3 => ?_
  obtain ⟨oe, vs, he, hz, hd⟩ := fl.there
  obtain ⟨n1, n2⟩ := not_frame fl he hd hf
  exact hds_run (fun _ _ _ z => z.zc) hs hf hN (J'.ofTry I.ok) nb (up.trans up3) fl na os ag n1 n2 he hz hd hh w
/-- a clause whose suite calls defs -/
theorem HdsN.cons {x n : Str} {c : Value} {i : Nat} {ts : Addr → Value → Option Addr → TS} {b0 : Stmt} {suite : List Stmt} {np hp : Pos} (hc : Names X x c) (hi : X.N[i]? = some n) (hl : X.env.kindOf n = some .local)
    (hs : ∀ (a : Addr) (oe : Obj) (cls : Value) (d : Option Addr) (pn : List (Addr × Obj)), Zc cls d oe → (∃ vs, oe.data = .fields vs) → L2H.HotC (X.suite a ((a, oe) :: pn)) → PSs (X.suite a ((a, oe) :: pn)) (b0 :: suite) (ts a cls d)) (r : HdsZ L2N.Zn X hds l) :
    HdsZ L2N.Zn X (.ExceptHandler (some (.Name x np)) (some n) (b0 :: suite) hp :: hds) ((c, i, ts) :: l) :=
  .cons hc hi hl (fun a oe cls d pn hz hf => hs a oe cls d pn hz.zc hf (let ⟨vs, hv⟩ := hf; ⟨(a, oe), ⟨rfl, vs, hv, hz.2.2 vs hv⟩, List.mem_cons_self⟩)) r
end
section
variable {X : Cx} {CX : CXT} {x f g : Str} {C fI : Addr} {k : Nat} {fd : FuncData} {te tu : TE} {W : WX} {a b : Expr} {p pos pos2 : Pos}
/-- raise C(e), its context None -/
theorem ps_raise1N (R : ErrC X.K X.mg x C fI) (F1 : FnOk X.prog X.w X.K X.mg X.base CX k fI fd ["self", f] (spEx1 C f)) (hr : Room (k + 1) X.A) (hb : Binds X.K fd ["self", f] [])
    (hx : Passes CX X (fun _ _ _ => False)) (hc : X.calm = true) (tk : L2N.Takes X W) (ha : PE X a te) (hm : ∀ σ H (P R : V → Hp → Prop), (∀ v H, P v H → R v H) → te σ H P → te σ H R) (hg : Gl X x := by rfl) (hdb : (x == ("__debug__" : Str)) = false := by decide)
    (he : starEach (a :: []) X.env = (false, eval a X.env) :: starEach [] X.env := by rfl) (hpl : (backTo pos (starEach [] X.env)).any (·.1) = false := by rfl) :
    PS X (.Raise (some (.Call (.Name x p) [a] [] pos)) none pos2) (tRaise1 C f W te) :=
  ⟨fun pins s σ H D I h => (L2N.ps_raise hc tk (pmkN_oex R F1 hr hb hx hg (pa_cons ha pa_nil he) hdb he hpl)).run pins s σ H D I
    (mkO1 (f := f) (hm σ H _ _ (fun y _ k => ⟨y, rfl, k⟩) h) fun _ _ hpr z => hm σ H _ _ (fun _ _ k => hpr _ _ k) z)⟩
theorem ps_raise2N (R : ErrC X.K X.mg x C fI) (F1 : FnOk X.prog X.w X.K X.mg X.base CX k fI fd ["self", f, g] (spEx2 C f g)) (hr : Room (k + 1) X.A) (hb : Binds X.K fd ["self", f, g] [])
    (hx : Passes CX X (fun _ _ _ => False)) (hc : X.calm = true) (tk : L2N.Takes X W) (ha : PE X a te) (hb2 : PE X b tu) (hm : ∀ σ H (P R : V → Hp → Prop), (∀ v H, P v H → R v H) → te σ H P → te σ H R) (hm2 : ∀ σ H (P R : V → Hp → Prop), (∀ v H, P v H → R v H) → tu σ H P → tu σ H R) (hg : Gl X x := by rfl) (hdb : (x == ("__debug__" : Str)) = false := by decide)
    (he : starEach [a, b] X.env = (false, eval a X.env) :: starEach [b] X.env := by rfl) (he2 : starEach [b] X.env = (false, eval b X.env) :: starEach [] X.env := by rfl) (hpl : (backTo pos (starEach [b] X.env)).any (·.1) = false := by rfl) :
    PS X (.Raise (some (.Call (.Name x p) [a, b] [] pos)) none pos2) (tRaise2 C f g W te tu) :=
  ⟨fun pins s σ H D I h => (L2N.ps_raise hc tk (pmkN_oex R F1 hr hb hx hg (pa_cons ha (pa_cons hb2 pa_nil he2) he) hdb he hpl)).run pins s σ H D I
    (mkO2 (f := f) (g := g) (hm σ H _ _ (fun u _ k => hm2 σ _ _ _ (fun v _ k2 => ⟨u, v, rfl, k2⟩) k) h) fun _ _ hpr z => hm σ H _ _ (fun _ _ k => hm2 σ _ _ _ (fun _ _ k2 => hpr _ _ k2) k) z)⟩
end
/-! ### in an except suite: defs proved there, C(..), == of two lists with one own object each -/
namespace HQ
open L2H
section
variable {P : Program} {w : World} {K : PySem.W.Frag} {mg : Str → Option Value} {base : Heap} {x qual : Str} {f : Addr} {fd : FuncData} {N ps : List Str} {k : Nat} {sp : Sp}
/-- the body of a def, walked under a handled error -/
def BodyH (P : Program) (w : World) (K : PySem.W.Frag) (mg : Str → Option Value) (base : Heap) (qual : Str) (f : Addr) (N : List Str) (sc : Scope) (body : List Stmt) (k : Nat) (sp : Sp) : Prop :=
  ∀ (cdv : Value) (A : Around) (outer : List Env) (s : Shared) (H : Hp) (vs : List V) (Q : VK) (E : XK) (p : Addr × Obj), Hot1 A p → RoomH k (A.deeper (PyProof.Rows.envOfC qual sc s.heap.objs.size f cdv)) → sp vs H Q E →
    ∃ t, PSs (cxH CX0 P w K mg base N qual sc f cdv A outer s H E p) body t ∧ t { nx := fun _ H' => Q .non H', rt := Q } (L2.start N vs) H
theorem okH {st : Stmt} (F : Fun K x qual st f fd) (S : FnScope N ps (defScope st)) (len : ∀ vs H Q E, sp vs H Q E → vs.length = ps.length) (body : BodyH P w K mg base qual f N (defScope st) (defBody st) k sp) : FnH P w K mg base CX0 (k + 1) f fd ps sp := by
  rcases F.ex with ⟨_, _, _, _, _, _, cdv, _, _, e, at_, code⟩
  subst e
  exact fn_ofH at_ code S len (body cdv)
theorem okDH {params : Arguments} {body : List Stmt} {scope : Scope} {dvs : List V} {kws : List (Str × V)} (F : FunD K x qual params body scope dvs kws f fd) (S : FnScope N ps scope) (len : ∀ vs H Q E, sp vs H Q E → vs.length = ps.length)
    (hbody : BodyH P w K mg base qual f N scope body k sp) : FnH P w K mg base CX0 (k + 1) f fd ps sp := by
  rcases F.ex with ⟨_, _, _, _, _, _, _, cdv, _, _, e, at_, code, _⟩
  subst e
  exact fn_ofH at_ code S len (hbody cdv)
end
section
variable {X : Cx} {k : Nat} {f C : Addr} {fd : FuncData} {ps : List Str} {sp : Sp} {pins : List (Addr × Obj)} {σ : L2.St}
theorem pin_of {H : Hp} {s : Shared} {p : Addr × Obj} (I : Inv X pins σ H s) (hp : p ∈ X.pn) : PinOk X.stack H s p := by
  obtain ⟨there, free, loc, fs, cell⟩ := I.pin p (List.mem_append_left _ hp)
  refine ⟨there, free, fun m => ?_, cell⟩
  rcases List.mem_cons.mp (I.stkSub p.1 m) with z | z
  · exact loc z
  · exact fs z
/-- what a def that leaves no error gives its caller -/
theorem back_of {H : Hp} {s : Shared} {r : Result} {s' : Shared} {Q : VK} (I : Inv X pins σ H s) (z : CR CX0 X.stack X.prog X.w H s Q E0 r s') : ∃ u, r = .ok (.ret u) ∧ EP X pins σ Q u s' := by
  rcases r with e | (_ | _ | _ | u)
  · exact (show False from z).elim
  · exact (show False from z).elim
  · exact (show False from z).elim
  · exact (show False from z).elim
  · exact ⟨u, rfl, I.after z⟩
/-- C(..) -/
theorem pe_makeH {x : Str} {p pos : Pos} {e : Expr} {es : List Expr} {t : TA} {ds : List Value} {dvs : List V}
    (M : Mk X.K C f) (F : FnH X.prog X.w X.K X.mg X.base CX0 k f fd ps sp) (hr : RoomH (k + 1) X.A) (hc : HotC X) (hg : Gl X x) (hm : X.mg x = some (.ref C)) (hb : Binds X.K fd ps ds) (hd : Vals dvs ds)
    (ha : PA X (e :: es) t) (hdb : (x == ("__debug__" : Str)) = false := by decide) (he : starEach (e :: es) X.env = (false, eval e X.env) :: starEach es X.env := by rfl) (hpl : (backTo pos (starEach es X.env)).any (·.1) = false := by rfl) :
    PE X (.Call (.Name x p) (e :: es) [] pos) (tMake C sp dvs E0 t) := by
  obtain ⟨pn, hot, mem⟩ := hc
  refine ⟨fun pins s σ H Q I h => PySem.wpAny_Call_Name_kw (ld_glob I hg hm ?_ hdb)⟩
  refine PySem.W.callWith_K (h₀ := X.base) I.ok.mod.kin M.kp (wpAny_mono (ha.run pos pins s σ H _ I h) (fun us s1 told => ?_) fun _ _ z => z) he hpl
  obtain ⟨vs, H1, I1, rv, q1⟩ := told
  refine ⟨I1.kIn, ?_⟩
  -- the instance and its dict
  have q := q1 (s1.heap.objs.size + 1) s1.heap.objs.size (I1.hok.fresh (Nat.le_succ _)) (I1.hok.fresh (Nat.le_refl _)) (Nat.ne_of_lt (Nat.lt_succ_self _))
  have J := Inv.made (C := C) I1
  have all : Vals (V.ref (s1.heap.objs.size + 1) :: (vs ++ dvs)) (Value.ref (s1.heap.objs.size + 1) :: (us ++ ds)) := .cons rfl (rv.append hd)
  have len : (Value.ref (s1.heap.objs.size + 1) :: us ++ ds).length = ps.length := by
    rw [List.cons_append, ← all.length]
    exact F.len _ _ _ _ q
  have run := F.run _ X.stack _ _ ⟨Value.ref (s1.heap.objs.size + 1) :: us, []⟩ _ _ _ E0 pn (hr.make C us []) ⟨hot.1, hot.2⟩ (pin_of J mem) (J.env0.make C us []) (hb _ (Value.ref (s1.heap.objs.size + 1) :: us) J.kIn len) all q
  refine wpAny_call (make_map (f := f) I1.kIn M.makes M.init (beq_iff_eq.mp M.fn) (codeAny_mono run fun r s' z => ?_))
  obtain ⟨u, rfl, v, H', J', ru, ev, w⟩ := back_of J z
  subst ev
  exact ⟨ru, .ref (s1.heap.objs.size + 1), H', J', rfl, w⟩
/-- the place of a comparison inside ==: as deep as is said, else the suite's own -/
structure Near (X : Cx) (n : Nat) (A : Around) : Prop where
  room : RoomH n A
  frames : A.frames = X.A.frames
  handled : A.handled = X.A.handled
/-- the state somewhere behind: nothing that was tracked is lost -/
def Later (X : Cx) (pins : List (Addr × Obj)) (σ : L2.St) (H : Hp) (s : Shared) : Prop := ∃ H', Inv X pins σ H' s ∧ Ext H H'
/-- two instances by their own __eq__ -/
theorem eq_inst {n : Nat} {A : Around} {R : Addr → Addr → Hp → Prop} {H H0 : Hp} {s : Shared} {a b dx dy : Addr} {fs gs : List (Str × V)} (F : FnH X.prog X.w X.K X.mg X.base CX0 n f fd ps (spEq R)) (hc : HotC X)
    (hs : PySem.W.findIn X.K (.ref C) "__eq__" = some (some (.ref f))) (hf : PySem.W.isFn X.K (.ref f) = true) (hb : Binds X.K fd ps []) (near : Near X n A) (I : Inv X pins σ H s) (x0 : Ext H0 H) (ea : H a = some (.ins C dx fs)) (eb : H b = some (.ins C dy gs)) (hR : R a b H) :
    wpAny (model X.prog X.w) A (richCompare .Eq (.ref a) (.ref b)) (fun v s' => v = .bool true ∧ Later X pins σ H0 s') X.xe s := by
  obtain ⟨pn, hot, mem⟩ := hc
  obtain ⟨_, ja, _⟩ := ins_get I.hok ea
  obtain ⟨_, jb, _⟩ := ins_get I.hok eb
  obtain ⟨_, ja, _⟩ := ja.look
  obtain ⟨_, jb, _⟩ := jb.look
  obtain ⟨_, fr⟩ := I.fr
  have q : spEq R [.ref a, .ref b] H (fun v H' => v = .bl true ∧ Ext H H') E0 := ⟨a, b, rfl, hR, fun _ e => ⟨rfl, e⟩⟩
  have two : Vals [V.ref a, V.ref b] [Value.ref a, Value.ref b] := .cons rfl (.cons rfl .nil)
  have env : Env0 X.prog X.w X.K X.mg X.base A X.stack s H := by
    obtain ⟨z1, z2, z3, z4, z5, z6, z7, z8⟩ := I.env0
    exact ⟨near.frames.trans z1, z2, z3, z4, z5, z6, z7, z8⟩
  have bind := hb s [.ref a, .ref b] I.kIn (F.len _ _ _ _ q)
  have hot2 : Hot1 A pn := ⟨near.handled.trans hot.1, hot.2⟩
  have run := F.run A X.stack s H ⟨[.ref a, .ref b], []⟩ _ _ _ E0 pn near.room hot2 (pin_of I mem) env bind two q
  refine PySem.W.cmp_K (op := .Eq) (tb := .ref C) (by have := near.room.un; omega) fr I.ok.mod.kin ja jb.type (by simp [PySem.W.notFirst]) hs hf (wpAny_call (codeAny_mono run fun r s' z => ?_))
  obtain ⟨u, rfl, v, H', J, ru, ev, x1⟩ := back_of I z
  subst ev
  have eu : u = .bool true := ru
  subst eu
  exact ⟨rfl, H', J, x0.trans x1⟩
/-- [a] == [b] -/
def rEq1 (C : Addr) (R : Addr → Addr → Hp → Prop) : R2 := fun x y H Q => ∃ p q a b dx dy fs gs, x = .ref p ∧ y = .ref q ∧ H p = some (.lst [.ref a]) ∧ H q = some (.lst [.ref b]) ∧ H a = some (.ins C dx fs) ∧ H b = some (.ins C dy gs) ∧
  (∀ H', Ext H H' → R a b H') ∧ ∀ H', Ext H H' → Q (.bl true) H'
theorem op_eq1 {n : Nat} {R : Addr → Addr → Hp → Prop} (F : FnH X.prog X.w X.K X.mg X.base CX0 n f fd ps (spEq R)) (hc : HotC X) (hs : PySem.W.findIn X.K (.ref C) "__eq__" = some (some (.ref f))) (hf : PySem.W.isFn X.K (.ref f) = true) (hb : Binds X.K fd ps [])
    (hr : RoomH (n + 1) X.A) : OpR X (compareOp .Eq) (rEq1 C R) := by
  rintro pins s σ H _ _ v u Q I rx ry ⟨p, q, a, b, dx, dy, fs, gs, rfl, rfl, hp, hq, ea, eb, hR, go⟩
  have e1 : v = Value.ref p := rx
  have e2 : u = Value.ref q := ry
  subst e1 e2
  have near : Near X n X.A.in1 := ⟨⟨by have := hr.dp; show X.A.depth + 3 * n + 5 < _; omega, by have := hr.un; show X.A.units + 1 + 16 * n + 200 < _; omega⟩, rfl, rfl⟩
  -- a list of one object, seen in the heap
  have seen : ∀ {H' : Hp} {s' : Shared} {l c : Addr}, Inv X pins σ H' s' → H' l = some (.lst [.ref c]) → ∃ m, s'.heap.get? l = some { cls := .type "list", data := .seq #[Value.ref c] m } := fun {H' s' l c} J e => by
    obtain ⟨_, its, m, r, at_⟩ := J.hok l _ e
    cases r with
    | cons h t =>
      cases t
      rw [show _ = Value.ref c from h] at at_
      exact ⟨m, at_⟩
  refine wpAny_mono (GQ.rc_listG (N := 1) (Q := fun r s' => r = .bool true ∧ Later X pins σ H s') (by have := hr.un; omega) (fun _ s' => Later X pins σ H s') (fun i s' z => ?_) (fun s' z => ⟨rfl, z⟩) ⟨H, I, Ext.rfl'⟩) (fun r s' z => ?_) fun _ _ z => z
  · obtain ⟨H1, J, x1⟩ := id z
    obtain ⟨m1, l1⟩ := seen J (x1 _ _ hp)
    obtain ⟨m2, l2⟩ := seen J (x1 _ _ hq)
    refine ⟨_, _, m1, m2, l1, l2, rfl, rfl, fun h1 _ => ?_⟩
    have i0 : i = 0 := Nat.lt_one_iff.mp h1
    subst i0
    show wpAny _ X.A.in1 (eqBool (.ref a) (.ref b)) _ _ _
    by_cases same : a = b
    · subst same
      exact SeqAt.EqAt.same (A := X.A.in1) (s := s') (.ref a) X.prog X.w X.xe _ ⟨rfl, H1, J, x1⟩
    · exact GQ.eqBool_refG same (wpAny_mono (eq_inst F hc hs hf hb near J x1 (x1 _ _ ea) (x1 _ _ eb) (hR _ x1)) (fun r s2 w => ⟨true, w.1, rfl, w.2⟩) fun _ _ w => w)
  · obtain ⟨rfl, H', J, x1⟩ := z
    exact ⟨.bl true, H', J, rfl, go H' x1⟩
end
end HQ
/-! ### an error that is caught and let fly again -/
section
open PyProof.Rows
variable {X : Cx} {pins pins' : List (Addr × Obj)} {σ : L2.St} {H : Hp} {s : Shared}
/-- objects that the def neither met at its entry nor tracks may be left out of sight -/
theorem forget (I : Inv X pins' σ H s) (L : List Addr) (hp : ∀ p ∈ X.pn ++ pins, p ∈ X.pn ++ pins') (e0 : ∀ b ∈ L, X.s_0.heap.get? b = none) (hL : ∀ b ∈ L, H b = none) (nl : X.env.locals ∉ L) (nc : ∀ x c, X.env.cells.lookup x = some c → c ∉ L) (np : ∀ p ∈ X.pn ++ pins, p.1 ∉ L) :
    ∃ G : Heap, (∀ b o, G.get? b = some o → s.heap.get? b = some o) ∧ (∀ b ∈ L, G.get? b = none) ∧ Inv X pins σ H { s with heap := G } := by
  obtain ⟨G, same, gone⟩ := restrict s.heap fun b => decide (b ∉ L)
  have stay : ∀ b o, b ∉ L → s.heap.get? b = some o → G.get? b = some o := fun b o n e => (same b (decide_eq_true n)).trans e
  have none' : ∀ b ∈ L, G.get? b = none := fun b m => gone b (decide_eq_false fun z => z m)
  have back : ∀ b o, G.get? b = some o → s.heap.get? b = some o := fun b o e => by
    by_cases m : b ∈ L
    · rw [none' b m] at e; cases e
    · rw [← same b (decide_eq_true m)]; exact e
  have old : ∀ b o, X.s_0.heap.get? b = some o → b ∉ L := fun b o e m => by rw [e0 b m] at e; cases e
  have trk : ∀ b u, H b = some u → b ∉ L := fun b u e m => by rw [hL b m] at e; cases e
  have cel : ∀ x c v, X.env.cells.lookup x = some c → s.heap.IsCell c v → G.IsCell c v := fun x c v e ⟨o, ho, hv⟩ => ⟨o, stay c o (nc x c e) ho, hv⟩
  refine ⟨G, back, none', I.ok, I.os, I.bare, ⟨fun b o e n hb hx => stay _ _ (old b o e) (I.base.keep b o e n hb hx), fun b o e n hb hx => ?_, I.base.free, fun b o e hx => ?_, I.base.tups, I.base.frzs, I.base.tbls⟩, ?_, fun x c e => ?_, I.free, I.freeC, fun p m => ?_, fun b u e => ?_, I.len⟩
  · obtain ⟨sl, q⟩ := I.base.slot b o e n hb hx
    exact ⟨sl, stay _ _ (old b o e) q⟩
  · obtain ⟨o', q⟩ := I.base.there b o e hx
    exact ⟨o', stay _ _ (old b o e) q⟩
  · obtain ⟨m, ⟨o, es, ep, ho, r⟩, look⟩ := I.loc
    refine ⟨m, ⟨o, es, ep, stay _ _ nl ho, r⟩, fun i x v h1 h2 h3 => ?_⟩
    obtain ⟨u, rv, l⟩ := look i x v h1 h2 h3
    exact ⟨u, rv, l.imp id fun ⟨k, c, ec, z⟩ => ⟨k, c, ec, cel x c _ ec z⟩⟩
  · obtain ⟨v, z⟩ := I.cell x c e
    exact ⟨v, cel x c v e z⟩
  · obtain ⟨q, r⟩ := I.pin p (hp p m)
    exact ⟨stay _ _ (np p m) q, r⟩
  · exact (I.hok b u e).stay (fun c v hc q => stay c v (hc.elim (fun z => z ▸ trk b u e) fun z => trk c _ z) q) (fun _ q => q) fun _ _ q => q
/-- what is known, once for all, of an error at a that was caught here, its traceback's record at T -/
structure Caught (X : Cx) (pins : List (Addr × Obj)) (a T : Addr) : Prop where
  e0 : ∀ b ∈ [a, T], X.s_0.heap.get? b = none
  nl : X.env.locals ∉ [a, T]
  nc : ∀ x c, X.env.cells.lookup x = some c → c ∉ [a, T]
  np : ∀ p ∈ X.pn ++ pins, p.1 ∉ [a, T]
  nT : T ≠ a
  fr : ∀ b ∈ [a, T], b ∉ frs X.stack
/-- such an error, where it stands as it was caught: out of sight again -/
theorem Caught.again {a T : Addr} {oe oT : Obj} {vs ts : Array Value} {fl : Value} {Z : Obj → Prop} (C : Caught X pins a T) (I : Inv X pins' σ H s) (hp : ∀ p ∈ X.pn ++ pins, p ∈ X.pn ++ pins') (ha : s.heap.get? a = some oe) (hT : s.heap.get? T = some oT) (na : H a = none) (nT : H T = none)
    (hz : Z oe) (hd : oe.data = .fields vs) (h1 : vs[1]? = some (.ref T)) (ht : oT.data = .fields ts) (h3 : ts[3]? = some fl) :
    ∃ (B : Heap) (sI : Shared), Inv X pins σ H sI ∧ (∀ b o, sI.heap.get? b = some o → b ∉ frs X.stack → B.get? b = some o) ∧ sI.heap.UpToSlots s.heap ∧ s.os = sI.os ∧ B.StaysIn s.heap ∧ B.get? a = none ∧ s.heap.FunFrames B X.stack ∧ HandSPX.TracedZ s.heap B a Z fl := by
  have two : ∀ b ∈ [a, T], H b = none := fun b m => by
    rcases List.mem_cons.mp m with z | z
    · rw [z]; exact na
    · rw [List.mem_singleton.mp z]; exact nT
  obtain ⟨G, sub, gone, J⟩ := forget (pins := pins) I [a, T] hp C.e0 two C.nl C.nc C.np
  have hid : ∀ b, G.get? b = none → (PySem.W.hideAll G (frs X.stack)).get? b = none := fun b e => by
    cases q : (PySem.W.hideAll G (frs X.stack)).get? b with
    | none => rfl
    | some o => rw [PySem.W.of_hideAll _ q] at e; cases e
  refine ⟨PySem.W.hideAll G (frs X.stack), { s with heap := G }, J, fun b o e n => PySem.W.hideAll_get _ e n, Heap.UpToSlots.of_keeps sub, rfl, fun b o e => sub b o (PySem.W.of_hideAll _ e), hid _ (gone a List.mem_cons_self), funFrames_none I.stack fun b m => PySem.W.hideAll_none _ m, ?_⟩
  exact ⟨oe, vs, T, oT, ts, ha, hz, hd, h1, hid _ (gone T (List.mem_cons_of_mem _ List.mem_cons_self)), C.nT, hT, ht, h3⟩
end
section
open PyProof.Rows
variable {X : Cx} {pins pins' : List (Addr × Obj)} {σ : L2.St} {H : Hp} {s s' sI : Shared} {B : Heap}
/-- one object more is pinned -/
theorem inv_pin (I : Inv X pins σ H s) {T : Addr} {oT : Obj} (h : s.heap.get? T = some oT ∧ H T = none ∧ T ≠ X.env.locals ∧ T ∉ X.fs ∧ ∀ v, oT.data ≠ .cell v) : Inv X ((T, oT) :: pins) σ H s :=
  ⟨I.ok, I.os, I.bare, I.base, I.loc, I.cell, I.free, I.freeC, fun p m => by
    rcases List.mem_append.mp m with m | m
    · exact I.pin p (List.mem_append_left _ m)
    · rcases List.mem_cons.mp m with z | m
      · subst z; exact h
      · exact I.pin p (List.mem_append_right _ m), I.hok, I.len⟩
/-- and let go -/
theorem inv_unpin {q : Addr × Obj} (I : Inv X (q :: pins) σ H s) : Inv X pins σ H s :=
  ⟨I.ok, I.os, I.bare, I.base, I.loc, I.cell, I.free, I.freeC, fun p m => I.pin p (by
    rcases List.mem_append.mp m with m | m
    · exact List.mem_append_left _ m
    · exact List.mem_append_right _ (List.mem_cons_of_mem _ m)), I.hok, I.len⟩
/-- what has landed stands on no ground of ours: neither the error nor its record was there -/
theorem caught_of (J : Inv X pins σ H sI) (nb : ∀ b o, sI.heap.get? b = some o → b ∉ frs X.stack → B.get? b = some o) {a T : Addr} (nT : T ≠ a) (fa : a ∉ frs X.stack) (fT : T ∉ frs X.stack) (ba : B.get? a = none) (bT : B.get? T = none) (hs : X.env.locals ∈ frs X.stack) (hfs : ∀ b, b ∈ X.fs → b ∈ frs X.stack) (hx : X.ex = []) :
    Caught X pins a T ∧ H T = none := by
  have gone : ∀ b ∈ [a, T], sI.heap.get? b = none := fun b m => by
    cases e : sI.heap.get? b with
    | none => rfl
    | some o =>
      rcases List.mem_cons.mp m with z | z
      · subst z; rw [nb _ _ e fa] at ba; cases ba
      · rw [List.mem_singleton.mp z] at e; rw [nb _ _ e fT] at bT; cases bT
  have frn : ∀ b ∈ [a, T], b ∉ frs X.stack := fun b m => by
    rcases List.mem_cons.mp m with z | z
    · rw [z]; exact fa
    · rw [List.mem_singleton.mp z]; exact fT
  refine ⟨⟨fun b m => ?_, fun m => frn _ m hs, fun x c e m => ?_, fun p hp m => ?_, nT, frn⟩, ?_⟩
  · cases e : X.s_0.heap.get? b with
    | none => rfl
    | some o =>
      obtain ⟨o', q⟩ := J.base.there b o e (by rw [hx]; exact List.not_mem_nil)
      rw [gone b m] at q; cases q
  · obtain ⟨v, o, q, _⟩ := J.cell x c e
    rw [gone c m] at q; cases q
  · have q := (J.pin p hp).1
    rw [gone _ m] at q; cases q
  · cases e : H T with
    | none => rfl
    | some u =>
      obtain ⟨o, q⟩ := objOk_get (J.hok T u e)
      rw [gone T (List.mem_cons_of_mem _ List.mem_cons_self)] at q; cases q
/-- a bare raise: the error that is being handled flies on -/
theorem bare_ok {A : Around} {Q : Flow → Shared → Prop} {E : Value → Shared → Prop} {l : List Env} {a L : Addr} {Z : Obj → Prop} {pos : Pos} {env : Env} (hh : A.handled = some (.ref a)) (hf : env.frame = some L) (fl : HandSPX.FlyingZ B l a Z s.heap)
    (h : ∀ h4, HandSPX.HeldZ B l a Z L h4 → s.heap.UpToSlots h4 → E (.ref a) { s with heap := h4 }) : wpAny (model X.prog X.w) A (exec (.Raise none none pos) env) Q E s := by
  refine wpAny_Raise_bare ?_
  obtain ⟨k1, k2, k3, oe, vs, T, oT, ts, he, hz, hd, h1, hr⟩ := id fl
  unfold raiseBare raiseStmt
  refine wpAny_bind (wpAny_handled ?_)
  rw [hh]
  dsimp only
  refine wpAny_bind (wpAny_rule ?_)
  refine wpAny_bind (wpAny_field he hd h1 ?_)
  rw [if_neg (show ¬ ((Value.ref T == Value.none) = true) from by simp)]
  rw [hf]
  refine wpAny_bind ?_
  exact HandSPX.setFlight_upZ fl fun h4 hh4 up4 => wpAny_throw (h h4 hh4 up4)
end
section
open PyProof.Rows
variable {X : Cx} {x : Str} {c : Value} {body suite : List Stmt} {b0 : Stmt} {np hp pos : Pos} {tb : WX → TS} {ts : Value → Option Addr → TS} {Wout : WX}
/-- what a suite is told: the error may fly again -/
def AgainOk (X : Cx) (a : Addr) (pn : List (Addr × Obj)) (W : L2.St → Hp → Prop) : Prop := ∀ (p : Pos) (pins : List (Addr × Obj)) (s : Shared) (σ : L2.St) (H : Hp) (Q : Flow → Shared → Prop), Inv (L2H.suiteX X a pn) pins σ H s → W σ H →
  wpAny (model X.prog X.w) (X.A.mark (some (.ref a))) (exec (.Raise none none p) X.env) Q X.xe s
/-- its reading -/
def tAgain (K : PySem.W.Frag) (c : Value) (tb : WX → TS) (ts : Value → Option Addr → TS) : TS := fun D σ H => tb (fun cls d σ1 H1 => PySem.W.exmOne K cls c = some true ∧ ts cls d D σ1 H1) D σ H
/-- try .. except C: a suite that may end in a bare raise; the clause takes all that the body raises -/
theorem ps_try_again (hs : X.stack = X.env :: X.outer) (hf : X.env.frame = some X.env.locals) (hx : X.ex = []) (hc : Names X x c) (hpa : ∀ hd : Option Value, PassesOwnAt (model X.prog X.w) (X.A.mark hd) X.A X.env X.xe) (tk : L2.Takes X Wout)
    (hb : ∀ (W : WX) (pn : List (Addr × Obj)) (xe : Value → Shared → Prop), L2N.Takes (X.tr pn xe) W → PassesOwn (model X.prog X.w) X.A X.env xe → PSs (X.tr pn xe) body (tb W))
    (hsu : ∀ (a : Addr) (oe : Obj) (cls : Value) (d : Option Addr) (pn : List (Addr × Obj)), L2N.Zn cls d oe → L2H.HotC (L2H.suiteX X a ((a, oe) :: pn)) → AgainOk X a ((a, oe) :: pn) (Wout cls d) → PSs (L2H.suiteX X a ((a, oe) :: pn)) (b0 :: suite) (ts cls d)) :
    PS X (.Try body [.ExceptHandler (some (.Name x np)) none (b0 :: suite) hp] [] [] pos) (tAgain X.K c tb ts) := by
  refine ⟨fun pins s σ H D I h => try_run I rfl (hb _ _ _ ?_ PassesOwn.looking) h rfl⟩
  rintro u s' ⟨a, B, sI, pins', σ', H', cls, d, rfl, J', nb, up, sky, na, os, ag, hex, w⟩
  show wpAny (model X.prog X.w) X.A (noteFrame (.ref a) X.env) _ _ _
  have ok := I.ok
  have J : Inv X pins σ' H' sI := J'.ofTry ok
  refine L2N.Sky.land L2N.Zn.steady (by rw [ok.frames, hs]) hf (by rw [← hs]; exact sky) fun h3 fl up3 => ?_
  obtain ⟨oe, vs, he, hz, hd⟩ := fl.there
  obtain ⟨n1, n2⟩ := not_frame fl he hd hf
  have J3 : Inv X pins σ' H' { s' with heap := h3 } := J.landed nb fl.1 (up.trans up3) os ag
  have S3 := J3.suite he hd na n1 n2
  refine wpAny_handleBy_cons (codeAny_handlers_test ?_) (by intro q; cases q)
  have LT : PySem.W.Looks (model X.prog X.w) h3 (typeOf (.ref a)) cls := fun A Q E s k q => wpAny_typeOf_ref (k _ _ he) (by rw [hz.1]; exact q)
  have LM := PySem.W.exm_one (M := model X.prog X.w) J3.kIn LT hex
  have look : ∀ {Q : Value → Shared → Prop} {E : Value → Shared → Prop}, Q c { s' with heap := h3 } → wpAny (model X.prog X.w) (X.A.mark (some (.ref a))) (eval (.Name x np) X.env) Q E { s' with heap := h3 } := fun q => by
    obtain ⟨hg, hdbg, hm | ⟨hm, hv, hnn⟩⟩ := hc
    · exact ld_glob (X := X.suite a ((a, oe) :: (X.pn ++ pins))) S3 hg hm q hdbg
    · exact ld_blt (X := X.suite a ((a, oe) :: (X.pn ++ pins))) S3 hg hm hv q hnn hdbg
  refine look (LM.here ?_)
  refine codeAny_handlers_suite ?_
  refine HandSPX.lands_againZ fl fun h4 fl4 up4 => ?_
  obtain ⟨k1, k2, k3, oe4, vs4, T, oT, ts4, he4, hz4, hd4, h14, hBT, hTa, hT, hdT, h3T⟩ := id fl4
  have J4 : Inv X pins σ' H' { s' with heap := h4 } := J.landed nb fl4.1 ((up.trans up3).trans up4) os ag
  have noF : ∀ {b : Addr} {o : Obj} {v : Array Value}, h4.get? b = some o → o.data = .fields v → b ∉ frs X.stack := fun {b o v} e dd hm => by
    rw [hs] at hm
    obtain ⟨_, o', e', hnf⟩ := k3.mem hm
    cases e.symm.trans e'
    exact hnf _ dd
  have inL : X.env.locals ∈ frs X.stack := by rw [hs]; exact List.mem_filterMap.mpr ⟨X.env, List.mem_cons_self, hf⟩
  have inF : ∀ b, b ∈ X.fs → b ∈ frs X.stack := fun b hm => by
    rw [hs]
    obtain ⟨e, h1, h2⟩ := List.mem_filterMap.mp hm
    exact List.mem_filterMap.mpr ⟨e, List.mem_cons_of_mem _ h1, h2⟩
  have fa := noF he4 hd4
  have fT := noF hT hdT
  obtain ⟨C, nT⟩ := caught_of J nb hTa fa fT k2 hBT inL inF hx
  have J5 : Inv X ((T, oT) :: pins) σ' H' { s' with heap := h4 } := inv_pin J4 ⟨hT, nT, fun z => fT (z ▸ inL), fun m => fT (inF _ m), fun v q => by rw [hdT] at q; cases q⟩
  have S5 := J5.suite he4 hd4 na n1 n2
  have hot : L2H.HotC (L2H.suiteX X a ((a, oe4) :: (X.pn ++ ((T, oT) :: pins)))) := ⟨(a, oe4), ⟨rfl, vs4, hd4, hz4.2.2 vs4 hd4⟩, List.mem_cons_self⟩
  have ag5 : AgainOk X a ((a, oe4) :: (X.pn ++ ((T, oT) :: pins))) (Wout cls d) := fun p pins6 s6 σ6 H6 Q S6 w6 => by
    have U6 : Inv X ((T, oT) :: pins) σ6 H6 s6 := L2H.unsuiteX S6 ok
    have pa := S6.pin (a, oe4) (List.mem_append_left _ List.mem_cons_self)
    have pT := U6.pin (T, oT) (List.mem_append_right _ List.mem_cons_self)
    obtain ⟨B6, sJ, V6, nb6, up6, os6, st6, bn6, ff6, tr6⟩ := Caught.again (pins' := pins) C (inv_unpin U6) (fun p m => m) pa.1 pT.1 pa.2.1 pT.2.1 hz4 hd4 h14 hdT h3T
    refine bare_ok (l := X.stack) (Z := L2N.Zn cls d) rfl hf ⟨st6, bn6, ff6, tr6⟩ fun h7 held up7 => tk _ _ ?_
    exact ⟨a, B6, sJ, pins, σ6, H6, cls, d, rfl, V6, nb6, up6.trans up7, .inr (.inr ⟨held.1, held.2.1, held.2.2.1, L2H.tracedZ_imp (fun _ z => z.zc) held.2.2.2⟩), pa.2.1, os6, U6.bare, w6⟩
  refine wpAny_mono ((hsu a oe4 cls d _ hz4 hot ag5).run [] _ _ H' _ (L2H.suiteX_of S5) w) (fun f s6 q6 => ?_) (fun e6 s6 z => hpa (some (.ref a)) e6 s6 z)
  cases f with
  | next => obtain ⟨σ6, H6, S6, q⟩ := q6; exact ⟨_, _, inv_unpin (L2H.unsuiteX S6 ok), q⟩
  | brk => obtain ⟨σ6, H6, S6, q⟩ := q6; exact ⟨_, _, inv_unpin (L2H.unsuiteX S6 ok), q⟩
  | cont => obtain ⟨σ6, H6, S6, q⟩ := q6; exact ⟨_, _, inv_unpin (L2H.unsuiteX S6 ok), q⟩
  | ret u => obtain ⟨v6, σ6, H6, S6, r6, q⟩ := q6; exact ⟨_, _, _, inv_unpin (L2H.unsuiteX S6 ok), r6, q⟩
end
section
open PyProof.Rows
variable {X : Cx} {pins : List (Addr × Obj)} {σ : L2.St} {H : Hp}
/-- an error in the air, its frame noted -/
theorem sky_note {M : Model} {A : Around} {E : Value → Shared → Prop} {B : Heap} {s : Shared} {env : Env} {outer : List Env} {L a : Addr} {Z : Obj → Prop} {Q : Unit → Shared → Prop} (hZ : HandSPX.Steady Z) (hfr : A.frames = some (env :: outer)) (hf : env.frame = some L) (x : Sky B (env :: outer) a Z L s.heap)
    (hQ : ∀ h', HandSPX.HeldZ B (env :: outer) a Z L h' → s.heap.UpToSlots h' → Q () { s with heap := h' }) : wpAny M A (noteFrame (.ref a) env) Q E s := by
  rcases x with ⟨g1, g2, g3, oe, vs, he, hz, hd, h1⟩ | fl | held
  · exact HandSPX.look_newZ hZ hfr g3 hf he g1 g2 hd h1 hz hQ
  · exact HandSPX.looks_onZ hZ hfr hf fl hQ
  · exact HandSPX.againZ hf held.2.2.2 (hQ s.heap held (Heap.UpToSlots.refl _))
/-- the context of a suite that may raise, its errors wished for by xe -/
abbrev suiteE (X : Cx) (a : Addr) (pn : List (Addr × Obj)) (xe : Value → Shared → Prop) : Cx := { X.suite a pn with xe := xe }
theorem unsuiteE {s : Shared} {a : Addr} {q : Addr × Obj} {pn' : List (Addr × Obj)} {xe : Value → Shared → Prop} (I : Inv (suiteE X a (q :: (X.pn ++ pins)) xe) pn' σ H s) (ok : X.Ok) : Inv X pins σ H s :=
  Inv.unsuite (X := X) (a := a) (q := q) (pn' := pn') (show Inv (X.suite a (q :: (X.pn ++ pins))) pn' σ H s from I.wish fun _ _ => False) ok
/-- a frame's facts of an error's objects -/
theorem notFr {B h : Heap} {l : List Env} {b : Addr} {o : Obj} {v : Array Value} (k : h.FunFrames B l) (e : h.get? b = some o) (d : o.data = .fields v) : b ∉ frs l := fun hm => by
  obtain ⟨_, o', e', hnf⟩ := k.mem hm
  cases e.symm.trans e'
  exact hnf _ d
variable {x n : Str} {c : Value} {i : Nat} {body suite : List Stmt} {b0 : Stmt} {np hp pos : Pos} {tb : WX → TS} {ts : Addr → Value → Option Addr → TS} {Wout : WX}
/-- its reading -/
def tAsX (K : PySem.W.Frag) (c : Value) (i : Nat) (tb : WX → TS) (ts : Addr → Value → Option Addr → TS) : TS := fun D σ H => tb (fun cls d σ1 H1 => PySem.W.exmOne K cls c = some true ∧ ∀ a, H1 a = none → ts a cls d (unset i D) (σ1.set i (some (.ref a))) H1) D σ H
/-- try .. except C as n: a suite that may raise another error; the clause takes all that the body raises -/
theorem ps_try_asX (hs : X.stack = X.env :: X.outer) (hf : X.env.frame = some X.env.locals) (hx : X.ex = []) (hN : X.N.Nodup) (hc : Names X x c) (hi : X.N[i]? = some n) (hl : X.env.kindOf n = some .local)
    (hpa : ∀ hd : Option Value, PassesOwnAt (model X.prog X.w) (X.A.mark hd) X.A X.env X.xe) (tk : L2.Takes X Wout)
    (hb : ∀ (W : WX) (pn : List (Addr × Obj)) (xe : Value → Shared → Prop), L2N.Takes (X.tr pn xe) W → PassesOwn (model X.prog X.w) X.A X.env xe → PSs (X.tr pn xe) body (tb W))
    (hsu : ∀ (a : Addr) (oe : Obj) (cls : Value) (d : Option Addr) (pn : List (Addr × Obj)) (xe : Value → Shared → Prop), L2N.Zn cls d oe → (∃ vs, oe.data = .fields vs) → X.base.get? a = none → L2H.HotC (suiteE X a ((a, oe) :: pn) xe) →
      L2.Takes (suiteE X a ((a, oe) :: pn) xe) (fun cls2 d2 σ2 H2 => Wout cls2 d2 (σ2.set i none) H2) → PSs (suiteE X a ((a, oe) :: pn) xe) (b0 :: suite) (ts a cls d)) :
    PS X (.Try body [.ExceptHandler (some (.Name x np)) (some n) (b0 :: suite) hp] [] [] pos) (tAsX X.K c i tb ts) := by
  refine ⟨fun pins s σ H D I h => try_run I rfl (hb _ _ _ ?_ PassesOwn.looking) h rfl⟩
  rintro u s' ⟨a, B, sI, pins', σ', H', cls, d, rfl, J', nb, up, sky, na, os, ag, hex, w⟩
  show wpAny (model X.prog X.w) X.A (noteFrame (.ref a) X.env) _ _ _
  have ok := I.ok
  have J : Inv X pins σ' H' sI := J'.ofTry ok
  have hfr : X.A.frames = some (X.env :: X.outer) := by rw [ok.frames, hs]
  refine L2N.Sky.land L2N.Zn.steady hfr hf (by rw [← hs]; exact sky) fun h3 fl up3 => ?_
  obtain ⟨oe, vs, he, hz, hd⟩ := fl.there
  obtain ⟨n1, n2⟩ := not_frame fl he hd hf
  have S3 := (J.landed (s' := { s' with heap := h3 }) nb fl.1 (up.trans up3) os ag).suite he hd na n1 n2
  have K3 := (J.landed (s' := { s' with heap := h3 }) nb fl.1 (up.trans up3) os ag).kIn
  refine wpAny_handleBy_cons (codeAny_handlers_test ?_) (by intro q; cases q)
  have LT : PySem.W.Looks (model X.prog X.w) h3 (typeOf (.ref a)) cls := fun A Q E s k q => wpAny_typeOf_ref (k _ _ he) (by rw [hz.1]; exact q)
  have LM := PySem.W.exm_one (M := model X.prog X.w) K3 LT hex
  have look : ∀ {Q : Value → Shared → Prop} {E : Value → Shared → Prop}, Q c { s' with heap := h3 } → wpAny (model X.prog X.w) (X.A.mark (some (.ref a))) (eval (.Name x np) X.env) Q E { s' with heap := h3 } := fun q => by
    obtain ⟨hg, hdbg, hm | ⟨hm, hv, hnn⟩⟩ := hc
    · exact ld_glob (X := X.suite a ((a, oe) :: (X.pn ++ pins))) S3 hg hm q hdbg
    · exact ld_blt (X := X.suite a ((a, oe) :: (X.pn ++ pins))) S3 hg hm hv q hnn hdbg
  refine look (LM.here ?_)
  refine codeAny_handlers_suite_as (HandSPX.lands_againZ fl fun h4 fl4 up4 => ?_)
  obtain ⟨oe4, vs4, he4, hz4, hd4⟩ := fl4.there
  have S4 := (J.landed (s' := { s' with heap := h4 }) nb fl4.1 ((up.trans up3).trans up4) os ag).suite he4 hd4 na n1 n2
  have inL : X.env.locals ∈ frs X.stack := by rw [hs]; exact List.mem_filterMap.mpr ⟨X.env, List.mem_cons_self, hf⟩
  have inF : ∀ b, b ∈ X.fs → b ∈ frs X.stack := fun b hm => by
    rw [hs]
    obtain ⟨e, h1, h2⟩ := List.mem_filterMap.mp hm
    exact List.mem_filterMap.mpr ⟨e, List.mem_cons_of_mem _ h1, h2⟩
  have fa : a ∉ frs X.stack := by rw [hs]; exact notFr fl4.2.2.1 he4 hd4
  have ba : X.base.get? a = none := by
    cases q : X.base.get? a with
    | none => rfl
    | some o =>
      have z := nb _ _ (J.bk a o q) fa
      rw [fl4.2.1] at z; cases z
  have hot : ∀ xe, L2H.HotC (suiteE X a ((a, oe4) :: (X.pn ++ pins)) xe) := fun _ => ⟨(a, oe4), ⟨rfl, vs4, hd4, hz4.2.2 vs4 hd4⟩, List.mem_cons_self⟩
  refine store_ok (X := X.suite a ((a, oe4) :: (X.pn ++ pins))) (v := .ref a) S4 hN hi (.inl hl) rfl (fun s5 S5 => ?_) (.inr hl)
  refine wpAny_mono ((hsu a oe4 cls d (X.pn ++ pins) _ hz4 ⟨_, hd4⟩ ba (hot _) ?tk).run [] s5 _ H' _ (S5.wish _) (w a na)) (fun f s6 q6 => ?_) (fun e6 s6 z => z)
  case tk =>
    rintro u2 s6 ⟨b, B6, sI6, pins6, σ6, H6, cls6, d6, rfl, IY, nb6, up6, sky6, nbb, os6, ag6, w6⟩
    have IX : Inv X pins σ6 H6 sI6 := unsuiteE IY ok
    show wpAny _ _ (noteFrame (.ref b) X.env) _ _ _
    refine sky_note Zc.steady hfr hf (by rw [← hs]; exact sky6) fun h7 held up7 => ?_
    obtain ⟨k1, k2, k3, oe7, vs7, T7, oT7, ts7, he7, hz7, hd7, h17, hBT, hTb, hT7, hdT7, h37⟩ := id held
    have J7 : Inv X pins σ6 H6 { s6 with heap := h7 } := IX.landed nb6 k1 (up6.trans up7) os6 ag6
    have fb : b ∉ frs X.stack := by rw [hs]; exact notFr k3 he7 hd7
    have fT : T7 ∉ frs X.stack := by rw [hs]; exact notFr k3 hT7 hdT7
    obtain ⟨C, nT⟩ := caught_of IX nb6 hTb fb fT k2 hBT inL inF hx
    have J8 := inv_pin J7 (T := T7) (oT := oT7) ⟨hT7, nT, fun z => fT (z ▸ inL), fun m => fT (inF _ m), fun v q => by rw [hdT7] at q; cases q⟩
    have J9 := inv_pin J8 (T := b) (oT := oe7) ⟨he7, nbb, fun z => fb (z ▸ inL), fun m => fb (inF _ m), fun v q => by rw [hd7] at q; cases q⟩
    refine gone_ok J9 hN hi hl fun s9 V9 => ?_
    have pb := V9.pin (b, oe7) (List.mem_append_right _ List.mem_cons_self)
    have pT := V9.pin (T7, oT7) (List.mem_append_right _ (List.mem_cons_of_mem _ List.mem_cons_self))
    have U9 : Inv X pins (σ6.set i none) H6 s9 := inv_unpin (inv_unpin V9)
    obtain ⟨B9, sJ, V10, nb9, up9, os9, st9, bn9, ff9, tr9⟩ := Caught.again (pins' := pins) C U9 (fun p m => m) pb.1 pT.1 pb.2.1 pT.2.1 hz7 hd7 h17 hdT7 h37
    unfold PySem.passOn
    refine wpAny_bind (wpAny_field pb.1 hd7 h17 ?_)
    rw [if_neg (show ¬ ((Value.ref T7 == Value.none) = true) from by simp), hf]
    refine wpAny_bind ?_
    refine HandSPX.setFlight_anyZ st9 ff9 tr9 fun h11 g1 g2 g3 g4 => wpAny_throw (hpa (some (.ref a)) _ _ (tk _ _ ?_))
    exact ⟨b, B9, sJ, pins, _, H6, cls6, d6, rfl, V10, nb9, up9.trans g4, .inr (.inr ⟨g1, bn9, g2, g3⟩), pb.2.1, os9, U9.bare, w6⟩
  have bye : ∀ {σ6 : L2.St} {H6 : Hp} {s6 : Shared} {xe : Value → Shared → Prop} {R : Shared → Prop}, Inv (suiteE X a ((a, oe4) :: (X.pn ++ pins)) xe) [] σ6 H6 s6 → (∀ s7, Inv X pins (σ6.set i none) H6 s7 → R s7) →
      wpAny (model X.prog X.w) X.A (do bindName X.env n .none; unbindBehindTheSuite X.env n hp) (fun _ s7 => R s7) X.xe s6 := fun S6 k => gone_ok (unsuiteE S6 ok) hN hi hl k
  cases f with
  | next => obtain ⟨σ6, H6, S6, q⟩ := q6; exact bye S6 fun _ J7 => ⟨_, _, J7, q⟩
  | brk => obtain ⟨σ6, H6, S6, q⟩ := q6; exact bye S6 fun _ J7 => ⟨_, _, J7, q⟩
  | cont => obtain ⟨σ6, H6, S6, q⟩ := q6; exact bye S6 fun _ J7 => ⟨_, _, J7, q⟩
  | ret u => obtain ⟨v6, σ6, H6, S6, r6, q⟩ := q6; exact bye S6 fun _ J7 => ⟨_, _, _, J7, r6, q⟩
end
section
open PyProof.Rows
variable {X : Cx} {pins : List (Addr × Obj)} {σ : L2.St} {H : Hp} {s : Shared}
/-- a name of the def's own that holds an object: nothing changes -/
theorem ld_own {E : Value → Shared → Prop} {Q : Value → Shared → Prop} {i : Nat} {n : Str} {cp : Pos} {a0 : Addr} (I : Inv X pins σ H s) (hN : X.N[i]? = some n) (hv : Vis X.env.scope n) (hσ : σ[i]? = some (some (.ref a0))) (hd : (n == ("__debug__" : Str)) = false) (hcd : (n == ("__classdict__" : Str)) = false)
    (q : Q (.ref a0) s) : wpAny (model X.prog X.w) X.A (eval (.Name n cp) X.env) Q E s := by
  obtain ⟨m, hn, hl⟩ := I.loc
  obtain ⟨u, r, l⟩ := hl i n _ hN hσ hv
  have hu : u = .ref a0 := r
  subst hu
  rcases l with ⟨hk, hm⟩ | ⟨hk | hk, c, hc, hcell⟩
  · exact wpAny_Name (wpAny_loadName_local I.ok.kind hk hn hm q) hd
  · exact wpAny_Name (wpAny_loadName_cell I.ok.kind hk hc hcell q) hd
  · exact wpAny_Name (wpAny_loadName_free I.ok.kind hk hc hcell q hcd) hd
theorem fields_set {vs : Array Value} {i j : Nat} {x y : Value} (n : i ≠ j) (h : vs[j]? = some y) : (vs.setIfInBounds i x)[j]? = some y := by
  rw [Array.getElem?_setIfInBounds, if_neg n]
  exact h
/-- raise X(..) from n, in an except suite whose error n holds -/
theorem ps_raise_from {W : WX} {e : Expr} {t : L2.St → Hp → XK → Prop} {i : Nat} {n : Str} {cp pos : Pos} {a0 : Addr} {o0 : Obj} (hh : X.A.handled = some (.ref a0)) (hm : (a0, o0) ∈ X.pn) (hv0 : ∃ vs, o0.data = .fields vs ∧ vs[2]? = some .none) (hb : X.base.get? a0 = none) (hr : Raises X o0.cls) (tk : L2.Takes X W) (he : L2H.PMk5 X e t)
    (hN : X.N[i]? = some n) (hv : Vis X.env.scope n) (hd : (n == ("__debug__" : Str)) = false := by decide) (hcd : (n == ("__classdict__" : Str)) = false := by decide) :
    PS X (.Raise (some e) (some (.Name n cp)) pos) (fun _ σ H => σ[i]? = some (some (.ref a0)) ∧ t σ H fun cls d H' => W cls d σ H') := by
  refine ⟨fun pins s σ H D I h => ?_⟩
  obtain ⟨hσ, ht⟩ := h
  obtain ⟨v0, d0, c0⟩ := hv0
  refine wpAny_Raise_from (wpAny_mono (he pins s σ H _ I ht) (fun u s1 hu => ?_) fun _ _ z => z)
  obtain ⟨⟨a, oe, vs, sI, H', cls, d, rfl, J, k, hne, ha, hz, hdt, h1, na, os, ag, r, q⟩, h5⟩ := hu
  have J1 : Inv X pins σ H' s1 := J.landed (B := sI.heap) (fun _ _ z _ => z) k (Heap.UpToSlots.of_keeps k) os ag
  refine ld_own J1 hN hv hσ hd hcd ?_
  have P0 := (J1.pin (a0, o0) (List.mem_append_left _ hm)).1
  have n0 : a0 ≠ a := fun z => by
    have p := (J.pin (a0, o0) (List.mem_append_left _ hm)).1
    rw [show (a0, o0).1 = a from z, hne] at p; cases p
  obtain ⟨r1, r2⟩ := r (model X.prog X.w) sI.heap J.kIn
  obtain ⟨r3, r4⟩ := hr (model X.prog X.w) X.base I.ok.mod.kin
  have A0 : RaiseAt (model X.prog X.w) X.base s1.heap a0 o0 v0 o0.cls := ⟨P0, rfl, d0, J1.bk, hb, r3, r4⟩
  have A1 : RaiseAt (model X.prog X.w) sI.heap s1.heap a oe vs cls := ⟨ha, hz.1, hdt, k, hne, r1, r2⟩
  have A3 := (A1.set 3 (.ref a0)).set 4 (.bool true)
  have sz : 4 < vs.size := h5 a oe vs rfl ha hdt
  have f1 : ((vs.setIfInBounds 3 (Value.ref a0)).setIfInBounds 4 (Value.bool true))[1]? = some Value.none := fields_set (by decide) (fields_set (by decide) h1)
  have stay : ∀ {b : Addr} {o : Obj}, b ≠ a → s1.heap.get? b = some o → ((s1.heap.update a (Obj.mapFields (·.setIfInBounds 3 (.ref a0)))).update a (Obj.mapFields (·.setIfInBounds 4 (.bool true)))).get? b = some o := fun nb z => by
    rw [Heap.get?_update_other _ _ (Ne.symm nb), Heap.get?_update_other _ _ (Ne.symm nb)]
    exact z
  refine raise_from_tree A1 sz (.inr ⟨a0, o0, v0, o0.cls, rfl, X.base, A0⟩) ?_
  refine setFlight_fresh A3.at_ A3.dat f1 ?_
  refine HotX.raiseNew_hot (x1 := a0) ⟨hh, o0, v0, stay n0 P0, d0, c0⟩ n0 A3.at_ A3.dat (by rw [Array.size_setIfInBounds, Array.size_setIfInBounds]; omega) (tk _ _ ?_)
  have A4 := A3.set 2 (.ref a0)
  refine XE.new J (fun b o z => ?_) hne A4.at_ ⟨A4.cl, by rw [HandSPX.dict_mapFields, HandSPX.dict_mapFields, HandSPX.dict_mapFields]; exact hz.2.1⟩ A4.dat (fields_set (by decide) f1) na os ag q
  exact A4.keep b o z
end
/-! ### iterating where an error is being handled -/
section
open PyProof.Rows HotX
variable {prog : Program} {w : World} {A : Around} {E : Value → Shared → Prop} {s : Shared} {x1 : Addr}
/-- the iterator's own error, made while another is handled -/
theorem stop_hot {α : Type} {Q : α → Shared → Prop} (hot : HotAt A x1 s.heap) (k : ∀ (h' : Heap) (e : Addr), (∀ b o, s.heap.get? b = some o → h'.get? b = some o) → ({ s with heap := h' } : Shared).TypeIs (.ref e) "StopIteration" → E (.ref e) { s with heap := h' }) :
    wpAny (model prog w) A (newExc (.type "StopIteration") [] >>= fun e => (raiseNew e : Sem α)) Q E s := by
  obtain ⟨hh, o1, v1, g1, d1, c1⟩ := hot
  refine wpAny_bind ?_
  unfold newExc newTuple
  refine wpAny_bind (wpAny_newObj_type (wpAny_bind (m := firstArgMember _ _) (wpAny_of_eq (a := Value.none) (by first | rfl | (simp only [firstArgMember]; rfl)) (wpAny_newObj_type ?_ (by size_fits)))) (by size_fits))
  have old : ∀ {b : Addr} {o : Obj} {oa ob : Obj}, s.heap.get? b = some o → ((s.heap.push oa).push ob).get? b = some o := fun z => Heap.get?_push_of_some _ (Heap.get?_push_of_some _ z)
  have ne : ∀ {b : Addr} {o : Obj} {oa : Obj}, s.heap.get? b = some o → b < (s.heap.push oa).objs.size := fun z => Heap.lt_size (Heap.get?_push_of_some _ z)
  refine raiseNew_hot ⟨hh, o1, v1, old g1, d1, c1⟩ (Nat.ne_of_lt (ne g1)) (Heap.get?_push_size _ rfl) rfl (by first | (simp; done) | (simp; omega)) (k _ _ (fun b o z => ?_) ⟨_, Heap.get?_update_self _ (Heap.get?_push_size _ rfl) rfl, rfl⟩)
  exact (Heap.get?_update_other _ _ (Nat.ne_of_gt (ne z))).trans (old z)
theorem list_end_hot {it l : Addr} {i : Nat} {items : Array Value} {Q : Option Value → Shared → Prop} (hot : HotAt A x1 s.heap) (nx : x1 ≠ it) (hit : s.heap.IsListIter it l i) (hl : s.heap.IsList l items) (hx : items[i]? = none)
    (hQ : ∀ h', (∀ b o, b ≠ it → s.heap.get? b = some o → h'.get? b = some o) → Q none { s with heap := h' }) : wpAny (model prog w) A (pyNext (.ref it)) Q E s := by
  obtain ⟨o, ho, hc, hd⟩ := id hit
  obtain ⟨ol, hol, _, nl, hdl⟩ := hl
  obtain ⟨hh, o1, v1, g1, d1, c1⟩ := hot
  have keep : ∀ {f : Obj → Obj} {b : Addr} {u : Obj}, b ≠ it → s.heap.get? b = some u → (s.heap.update it f).get? b = some u := fun n z => (Heap.get?_update_other _ _ (Ne.symm n)).trans z
  refine wpAny_bind (wpAny_attempt (wpAny_callSpecial?_slot (name := Str.ofString "__next__") hit.typeIs slot_listiter_next (wpAny_call_entry slot_listiter_next hit.typeIs entry_listiter_next ?_ (args_listiter_next _))))
  refine wpAny_bind (m := field (.ref it) 0) (wpAny_field ho hd (x := .ref l) rfl ?_)
  rw [if_neg (show ¬ ((Value.ref l == Value.none) = true) from Bool.false_ne_true)]
  refine wpAny_bind (m := field (.ref it) 1) (wpAny_field ho hd (x := .int i 0) rfl (wpAny_bind (m := seqItems? (.ref l)) (wpAny_seqItems hol hdl ?_)))
  simp only [Int.toNat_natCast, hx]
  refine wpAny_bind (wpAny_rule (wpAny_bind (wpAny_setField ho hd (by simp) ?_)))
  refine stop_hot (x1 := x1) ⟨hh, o1, v1, keep nx g1, d1, c1⟩ fun h' e k ty => wpAny_bind (wpAny_isInstance (T := "StopIteration") (b := true) ty isSubtype_stop (wpAny_pure (hQ h' fun b u n z => k b u (keep n z))))
end
section
open PyProof.Rows HotX
/-- the handled error is none of the iterator's objects -/
theorem hot_apart {X : Cx} {pins : List (Addr × Obj)} {σ : L2.St} {H : Hp} {s : Shared} (c : L2H.HotC X) (I : Inv X pins σ H s) {it : Addr} (f : FpOk X pins H it) : ∃ x1, HotAt X.A x1 s.heap ∧ x1 ≠ it := by
  obtain ⟨p, ⟨hh, v1, d1, c1⟩, hp⟩ := c
  have m : p ∈ X.pn ++ pins := List.mem_append_left _ hp
  exact ⟨p.1, ⟨hh, p.2, v1, (I.pin p m).1, d1, c1⟩, f.2.2.2.2.2 p m⟩
theorem turn_listH {P : Program} {w : World} {K : PySem.W.Frag} {tg : Expr} (a it : Addr) : L2H.TurnH P w K tg (Itl K a) [it] it fun i h => h.IsListIter it a i := by
  have only : ∀ {b : Addr}, b ∈ [it] → b = it := fun m => List.mem_singleton.mp m
  refine ⟨List.mem_cons_self, fun i h st b m => ?_, fun i h h' st k => st.at fun o z => k it List.mem_cons_self o z, ?_, ?_, fun _ _ _ _ _ st q => wpAny_pyIter_listiter st q⟩
  · obtain ⟨o, z, _, d⟩ := st
    exact ⟨o, by rw [only m]; exact z, fun v y => by rw [d] at y; cases y⟩
  · rintro X rfl rfl rfl hc i pins s σ H E I hf st ⟨xs, x, hq, hx⟩
    obtain ⟨its, rv, p, hz⟩ := I.list hq
    obtain ⟨u, hu, ru⟩ := rv.get hx
    obtain ⟨f0, f1, f2, f3, f4, f5⟩ := hf it List.mem_cons_self
    refine wpAny_pyNext_list_item st p.isList (x := u) (by simpa using hu) fun h2 st2 sb => ⟨u, rfl, ?_⟩
    obtain ⟨o, z, c, d⟩ := id st2
    have I2 : Inv X pins σ H { s with heap := h2 } := I.turned (t' := s.toks) (fun b o hb e => (sb.2 b hb).trans e) f0 f1 f3 f4 f5
    exact go_of (s := { s with heap := h2 }) z c d (by decide) ⟨x, H, I2, ru, ⟨rfl, fun ys hy => I.list_inj hy hq ▸ hx⟩, st2, fun b m => (hf b m).1⟩
  · rintro X rfl rfl rfl hc i pins s σ H E I hf st ⟨xs, hq, hx⟩
    obtain ⟨its, rv, p, hz⟩ := I.list hq
    have F := hf it List.mem_cons_self
    obtain ⟨x1, hot, ne⟩ := hot_apart hc I F
    have hl := rv.length
    exact list_end_hot hot ne st p.isList (by simp; omega) fun h2 k => ⟨rfl, I.turned (t' := s.toks) (fun b o n z => k b o n z) F.1 F.2.1 F.2.2.2.1 F.2.2.2.2.1 F.2.2.2.2.2⟩
variable {X : Cx} {tg : Expr}
/-- for .. in a list, in an except suite -/
theorem pi_listH {l : Expr} {tl : TE} (hl : PE X l tl) : L2H.PIH X tg l (iList X.K tl) := by
  refine ⟨fun pins s σ H R I h => thn (hl.run pins s σ H _ I h) ?_⟩
  rintro v s1 ⟨_, H1, I1, r1, a, rfl, ⟨xs, hq⟩, q⟩
  cases r1
  obtain ⟨its, rv, p, _⟩ := I1.list hq
  refine wpAny_pyIter_list p.isList ⟨s1.heap.objs.size, [s1.heap.objs.size], _, _, H1, rfl, I1.kept (t' := s1.toks) fun b o z => Heap.get?_push_of_some _ z, turn_listH a _, ⟨_, Heap.get?_push_size _ rfl, rfl, rfl⟩, fun b m => ?_, q⟩
  rw [List.mem_singleton.mp m]
  exact I1.fpOk (Nat.le_refl _) (I1.hok.fresh (Nat.le_refl _))
end
section
open PyProof.Rows HotX
variable {prog : Program} {w : World} {A : Around} {E : Value → Shared → Prop} {s : Shared} {x1 : Addr}
theorem tuple_end_hot {it t : Addr} {i : Nat} {items : Array Value} {Q : Option Value → Shared → Prop} (hot : HotAt A x1 s.heap) (nx : x1 ≠ it) (hit : IsTupIter s.heap it t i) (ht : IsTup s.heap t items) (hx : items[i]? = none)
    (hQ : ∀ h', (∀ b o, b ≠ it → s.heap.get? b = some o → h'.get? b = some o) → Q none { s with heap := h' }) : wpAny (model prog w) A (pyNext (.ref it)) Q E s := by
  obtain ⟨o, ho, hc, hd⟩ := id hit
  obtain ⟨ol, hol, _, nl, hdl⟩ := ht
  obtain ⟨hh, o1, v1, g1, d1, c1⟩ := hot
  have keep : ∀ {f : Obj → Obj} {b : Addr} {u : Obj}, b ≠ it → s.heap.get? b = some u → (s.heap.update it f).get? b = some u := fun n z => (Heap.get?_update_other _ _ (Ne.symm n)).trans z
  refine wpAny_bind (wpAny_attempt (wpAny_callSpecial?_slot (name := Str.ofString "__next__") hit.typeIs slot_tupleiter_next (wpAny_call_entry slot_tupleiter_next hit.typeIs entry_tupleiter_next ?_ (args_tupleiter_next _))))
  refine wpAny_bind (m := field (.ref it) 0) (wpAny_field ho hd (x := .ref t) rfl ?_)
  rw [if_neg (show ¬ ((Value.ref t == Value.none) = true) from Bool.false_ne_true)]
  refine wpAny_bind (m := field (.ref it) 1) (wpAny_field ho hd (x := .int i 0) rfl (wpAny_bind (m := seqItems? (.ref t)) (wpAny_seqItems hol hdl ?_)))
  simp only [Int.toNat_natCast, hx]
  refine wpAny_bind (wpAny_rule (wpAny_bind (wpAny_setField ho hd (by simp) ?_)))
  refine stop_hot (x1 := x1) ⟨hh, o1, v1, keep nx g1, d1, c1⟩ fun h' e k ty => wpAny_bind (wpAny_isInstance (T := "StopIteration") (b := true) ty isSubtype_stop (wpAny_pure (hQ h' fun b u n z => k b u (keep n z))))
/-- a, b, .. = a tuple, where an error is being handled -/
theorem assign_tup_hot {env : Env} {elts : List Expr} {k : Nat} {pos : Pos} {t : Addr} {items : Array Value} {Q : Unit → Shared → Prop} (hot : HotAt A x1 s.heap) (ht : IsTup s.heap t items) (hn : (assignEach elts env).length = items.size) (hstar : (assignEach elts env).findIdx? (·.1) = none)
    (h : ∀ h', (∀ b o, s.heap.get? b = some o → h'.get? b = some o) → wpAny (model prog w) A (assignInOrder ((assignEach elts env).map (·.2)) items.toList) Q E { s with heap := h' }) : wpAny (model prog w) A (assign (.Tuple elts k pos) env (.ref t)) Q E s := by
  obtain ⟨hh, o1, v1, g1, d1, c1⟩ := hot
  have far : ∀ {b : Addr} {o : Obj}, s.heap.get? b = some o → b ≠ s.heap.objs.size := fun z => Nat.ne_of_lt (Heap.lt_size z)
  have tIn : ∃ o, s.heap.get? t = some o := let ⟨o, z, _⟩ := ht; ⟨o, z⟩
  obtain ⟨ot, zt⟩ := tIn
  rw [assign_Tuple]
  refine wpAny_bind (wpAny_standAt ?_)
  unfold unpack
  rw [hn, hstar]
  refine wpAny_bind (wpAny_holding ?_)
  unfold unpackItems
  refine wpAny_bind ?_
  unfold notIterableAtAll
  refine wpAny_bind (wpAny_specialOf ht.typeIs slot_tuple_iter.lookup (wpAny_pure ?_))
  simp only [Bool.false_eq_true, if_false]
  refine wpAny_bind (wpAny_holding (iter_tuple ht ?_))
  refine wpAny_bind (wpAny_holding (draw_tuple (far zt) items.size 0 _ _ ⟨_, Heap.get?_push_size _ rfl, rfl, rfl⟩ (ht.push _) (by omega) fun h2 it2 same2 => ?_))
  have k2 : ∀ {b : Addr} {o : Obj}, s.heap.get? b = some o → h2.get? b = some o := fun z => same2.extBut _ _ (far z) (Heap.get?_push_of_some _ z)
  rw [List.drop_zero, List.take_of_length_le (by simp), if_neg (by simp)]
  refine wpAny_bind (wpAny_holding (tuple_end_hot (x1 := x1) ⟨hh, o1, v1, k2 g1, d1, c1⟩ (far g1) it2 ((ht.push _).extBut same2.extBut (far zt)) (by simp) fun h3 k3 => ?_))
  simp only [Option.isSome_none, Bool.false_eq_true, if_false]
  exact wpAny_pure (h h3 fun b o z => k3 b o (far z) (k2 z))
end
section
open PyProof.Rows HotX
variable {X : Cx}
theorem pg_tupH {es : List Expr} {k : Nat} {t : TGs} {n : Nat} {pos : Pos} (hc : L2H.HotC X) (h : PGs X es t) (hn : (assignEach es X.env).length = n := by rfl) (hst : (assignEach es X.env).findIdx? (·.1) = none := by rfl) : PG X (.Tuple es k pos) (gTup X.K n t) := by
  refine ⟨fun pins s σ H v u Q I r hw => ?_⟩
  obtain ⟨a, xs, rfl, hq, hl, hw⟩ := hw
  cases r
  obtain ⟨its, rv, ht, _⟩ := I.tuple hq
  obtain ⟨x1, hot⟩ := hc.at I
  have hlen := rv.length
  exact assign_tup_hot hot ht (by simp; omega) hst fun h2 k2 => h.run pins _ σ H xs _ Q (I.kept (t' := s.toks) k2) (by simpa using rv) hw
end
/-! ### def f(a, .., **d), called with keywords -/
section
open PyProof.Rows PySem.W
theorem push_upd (h : Heap) (o : Obj) (f : Obj → Obj) : (h.push o).update h.objs.size f = h.push (f o) := by
  obtain ⟨a, l⟩ := h
  show Heap.mk ((a.push o).modify a.size f) l = Heap.mk (a.push (f o)) l
  congr 1
  refine Array.ext (by simp) fun i h1 h2 => ?_
  have hi : i < a.size + 1 := by simpa using h2
  rw [Array.getElem_modify]
  by_cases e : a.size = i
  · subst e; simp
  · have lt : i < a.size := by omega
    rw [if_neg e, Array.getElem_push_lt lt, Array.getElem_push_lt lt]
variable {prog : Program} {w : World} {A : Around} {E : Value → Shared → Prop}
theorem put_last {k : Str} {hsh : Int} {key v : Value} : ∀ {es : List DictEntry}, (∀ e ∈ es, e.key.isStr k = false) → putL k hsh key v es = es ++ [⟨hsh, key, v⟩] ∧ es.any (fun e => e.key.isStr k) = false
  | [], _ => ⟨rfl, rfl⟩
  | e :: r, h => by
    obtain ⟨i1, i2⟩ := put_last (k := k) (hsh := hsh) (key := key) (v := v) (es := r) fun x m => h x (List.mem_cons_of_mem _ m)
    have e0 := h e List.mem_cons_self
    refine ⟨?_, by rw [List.any_cons, e0, i2]; rfl⟩
    show (if e.key.isStr k = true then _ else e :: putL k hsh key v r) = _
    rw [e0, if_neg Bool.false_ne_true, i1]
    rfl
/-- one keyword more in the new dict -/
theorem kw_put {h : Heap} {es : List DictEntry} {n : Nat} {k : Str} {v : Value} {s : Shared} {Q : Unit → Shared → Prop} (hs : s.heap = h.push (dictOf es n)) (f1 : ∀ e ∈ es, e.key.isStr k = false) (f2 : ∀ e ∈ es, e.refKey = false)
    (q : Q () { s with heap := h.push (dictOf (es ++ [⟨PyData.keyHash w.params k, .str k s.toks, v⟩]) (n + 1)), toks := s.toks + 1 }) : wpAny (model prog w) A (nsSet h.objs.size k v) Q E s := by
  have at_ : s.heap.get? h.objs.size = some (dictOf es n) := by rw [hs]; exact Heap.get?_push_size _ rfl
  have no : es.any (fun e => e.refKey) = false := by
    rw [List.any_eq_false]
    exact fun e m => by rw [f2 e m]; exact Bool.false_ne_true
  obtain ⟨p1, p2⟩ := put_last (hsh := PyData.keyHash w.params k) (key := .str k s.toks) (v := v) f1
  have made : Obj.putName k (PyData.keyHash w.params k) (.str k s.toks) v (dictOf es n) = dictOf (es ++ [⟨PyData.keyHash w.params k, .str k s.toks, v⟩]) (n + 1) := by
    rw [putName_dict, p1]
    show dictOf _ (if es.any (fun e => e.key.isStr k) = true then n else n + 1) = _
    rw [p2, if_neg Bool.false_ne_true]
  have may : aRefKeyMayBeTheName k es.toArray = false := by
    rw [aRefKeyMayBeTheName_at, ← Array.any_toList, ← Array.any_toList]
    show (!(es.any fun e => e.key.isStr k) && es.any fun e => e.refKey) = false
    rw [no, Bool.and_false]
  unfold nsSet
  refine wpAny_bind (wpAny_bind (wpAny_askSetting (wpAny_pure (wpAny_bind (wpAny_mkText (wpAny_bind (wpAny_loadPart (s := { s with toks := s.toks + 1 }) at_ ?_)))))))
  dsimp only
  rw [may]
  refine wpAny_updatePart (s := { s with toks := s.toks + 1 }) at_ ?_
  show Q () { s with heap := s.heap.update h.objs.size _, toks := s.toks + 1 }
  rw [hs, push_upd]
  show Q () { s with heap := h.push (Obj.putName k (PyData.keyHash w.params k) (.str k s.toks) v (dictOf es n)), toks := s.toks + 1 }
  rw [made]
  exact q
/-- all of them -/
theorem kw_fill {h : Heap} {Q : PUnit → Shared → Prop} : ∀ (kw : List (Str × Value)) (s : Shared) (es : List DictEntry) (n : Nat), s.heap = h.push (dictOf es n) → (∀ e ∈ es, ∀ x ∈ kw, e.key.isStr x.1 = false) → (∀ e ∈ es, e.refKey = false) → (kw.map (·.1)).Nodup →
    Q ⟨⟩ { s with heap := h.push (dictOf (es ++ kwEs w.params s.toks kw) (n + kw.length)), toks := s.toks + kw.length } →
    wpAny (model prog w) A (forIn kw PUnit.unit fun x _ => (nsSet h.objs.size x.1 x.2 >>= fun _ => pure (ForInStep.yield PUnit.unit))) Q E s
  | [], s, es, n, hs, _, _, _, q => by
    rw [List.forIn_nil]
    have e : ({ s with heap := h.push (dictOf (es ++ kwEs w.params s.toks []) (n + 0)), toks := s.toks + 0 } : Shared) = s := by
      show ({ s with heap := h.push (dictOf (es ++ []) n), toks := s.toks } : Shared) = s
      rw [List.append_nil, ← hs]
    exact wpAny_pure (by rw [← e]; exact q)
  | (k, v) :: r, s, es, n, hs, f1, f2, nd, q => by
    have nd2 := List.nodup_cons.mp (show (k :: r.map (·.1)).Nodup from nd)
    rw [List.forIn_cons]
    refine wpAny_bind (wpAny_bind (kw_put hs (fun e m => f1 e m _ List.mem_cons_self) f2 (wpAny_pure ?_)))
    refine kw_fill r _ (es ++ [⟨PyData.keyHash w.params k, .str k s.toks, v⟩]) (n + 1) rfl (fun e m x mx => ?_) (fun e m => ?_) nd2.2 ?_
    · rcases List.mem_append.mp m with m | m
      · exact f1 e m x (List.mem_cons_of_mem _ mx)
      · rw [List.mem_singleton.mp m]
        exact beq_eq_false_iff_ne.mpr fun z => nd2.1 (z ▸ List.mem_map_of_mem mx)
    · rcases List.mem_append.mp m with m | m
      · exact f2 e m
      · rw [List.mem_singleton.mp m]; rfl
    · have t1 : s.toks + 1 + r.length = s.toks + ((k, v) :: r).length := by rw [List.length_cons]; omega
      have t2 : n + 1 + r.length = n + ((k, v) :: r).length := by rw [List.length_cons]; omega
      show Q ⟨⟩ { s with heap := h.push (dictOf ((es ++ [_]) ++ kwEs w.params (s.toks + 1) r) (n + 1 + r.length)), toks := s.toks + 1 + r.length }
      rw [t1, t2, List.append_assoc]
      exact q
end
section
open PyProof.Rows PySem.W StX
variable {P : Program} {w : World}
/-- the dict of the keywords, as the calculus tracks it -/
def kwV (ks : List Str) (zs : List V) : List (Key × V) := (ks.zip zs).map fun q => (Sum.inr q.1, q.2)
theorem kw_pairs : ∀ (kw : List (Str × Value)) (t : Tok), Pairs (mixKind P w) (kwEs w.params t kw) (kw.map fun q => ((Sum.inr q.1 : Key), q.2))
  | [], _ => .nil
  | x :: r, t => .cons (keyIs_str x.1 t) rfl (kw_pairs r (t + 1))
theorem kw_vals : ∀ {ks : List Str} {zs : List V} {ws : List Value}, Vals zs ws → KV (kwV ks zs) ((ks.zip ws).map fun q => ((Sum.inr q.1 : Key), q.2))
  | [], _, _, _ => .nil
  | _ :: _, _, _, .nil => .nil
  | _ :: ks, _, _, .cons r rr => .cons ⟨rfl, r⟩ (kw_vals (ks := ks) rr)
theorem kw_keys : ∀ (ks : List Str) (zs : List V), (ks.zip zs).map (·.1) = ks.take zs.length
  | [], zs => by simp
  | _ :: _, [] => rfl
  | k :: ks, z :: zs => by
    show k :: (ks.zip zs).map (·.1) = k :: ks.take zs.length
    rw [kw_keys ks zs]
theorem kw_ok {H : Hp} {h : Heap} {ks : List Str} {zs : List V} {ws : List Value} {t : Tok} {n : Nat} (r : Vals zs ws) (nd : ks.Nodup) (hz : ks.length ≤ sizeLine) (big : sysModules < h.objs.size) :
    ObjOk P w H (h.push (dictOf (kwEs w.params t (ks.zip ws)) n)) h.objs.size (.dK (kwV ks zs)) := by
  refine ⟨?_, beq_eq_false_iff_ne.mpr (Ne.symm (Nat.ne_of_lt big)), _, kw_vals r, _, _, _, Heap.get?_push_size _ rfl, ⟨rfl, rfl, rfl⟩, rfl, fun e m => ?_, kw_pairs _ t, ?_⟩
  · show ((ks.zip zs).map _).length ≤ sizeLine
    rw [List.length_map, List.length_zip]
    omega
  · obtain ⟨k, u, hk, hh⟩ := kwEs_key _ _ _ (List.mem_toArray.mp m)
    exact ⟨Sum.inr k, by rw [hk]; exact keyIs_str k u, hh.trans rfl⟩
  · have e1 : ((ks.zip ws).map fun q => ((Sum.inr q.1 : Key), q.2)).map (·.1) = ((ks.zip ws).map (·.1)).map Sum.inr := by
      rw [List.map_map, List.map_map]; rfl
    rw [e1]
    refine List.Pairwise.map (R := (· ≠ ·)) Sum.inr (fun a b n z => n (Sum.inr.inj z)) ?_
    have : (ks.zip ws).map (·.1) = ks.take ws.length := by
      clear e1 r nd hz
      induction ks generalizing ws with
      | nil => simp
      | cons k ks ih => cases ws with
        | nil => rfl
        | cons v ws => exact congrArg (k :: ·) (ih (ws := ws))
    rw [this]
    exact nd.sublist (List.take_sublist _ _)
theorem env0_toks {P : Program} {w : World} {K : PySem.W.Frag} {mg : Str → Option Value} {base : Heap} {A : Around} {outer : List Env} {s : Shared} {H : Hp} {t : Nat} (e : Env0 P w K mg base A outer s H) : Env0 P w K mg base A outer { s with toks := t } H := by
  obtain ⟨⟩ := e
  constructor <;> assumption
theorem zip_keys : ∀ {ks : List Str} {ws : List Value}, ws.length = ks.length → (ks.zip ws).map (·.1) = ks
  | [], _, _ => by simp
  | _ :: _, [], h => by cases h
  | k :: ks, _ :: ws, h => congrArg (k :: ·) (zip_keys (ks := ks) (ws := ws) (Nat.succ.inj h))
variable {CX : CXT} {K : PySem.W.Frag} {mg : Str → Option Value} {base : Heap} {k : Nat} {f : Addr} {name qual : Str} {params : Arguments} {body : List Stmt} {scope : Scope} {dV kV doc pm cdv ct oc : Value} {an od : Option Addr} {osl : Array (Option Value)} {N ps : List Str}
/-- such a def, called with the keywords ks -/
def FnKw (P : Program) (w : World) (K : PySem.W.Frag) (mg : Str → Option Value) (base : Heap) (CX : CXT) (k : Nat) (f : Addr) (ps ks : List Str) (sp : Sp) : Prop :=
  ∀ (A : Around) (outer : List Env) (s : Shared) (H : Hp) (us ws : List Value) (vs zs : List V) (Q : VK) (E : XK), Room k A → Env0 P w K mg base A outer s H → Vals vs us → Vals zs ws → vs.length = ps.length → zs.length = ks.length →
    (∀ p, H p = none → sp (vs ++ [V.ref p]) (upd H p (.dK (kwV ks zs))) Q E) → codeAny (model P w) A (.call (.ref f) ⟨us, ks.zip ws⟩) (CR CX outer P w H s Q E) s
theorem fn_kw {pd : Str} {ks : List Str} {sp : Sp} (lk : K.lookup f = some ⟨oc, od, .func (PySem.W.fnOf name qual params body scope dV kV doc pm an cdv ct), osl⟩) (hcd : PySem.W.codeIn K cdv qual = true) (S : FnScope N (ps ++ [pd]) scope) (hCX : CXUp CX) (nd : ks.Nodup) (hz : ks.length ≤ sizeLine)
    (hb : ∀ us ws : List Value, us.length = ps.length → ws.length = ks.length → bindArgs (PySem.W.fnOf name qual params body scope dV kV doc pm an cdv ct) ⟨us, ks.zip ws⟩ =
      ((alloc ({ cls := .type "dict", data := .dict #[] } : Obj) : Sem Addr) >>= fun d => (forIn (ks.zip ws) PUnit.unit fun x _ => (nsSet d x.1 x.2 >>= fun _ => pure (ForInStep.yield PUnit.unit))) >>= fun _ => pure (ps.zip us ++ [(pd, Value.ref d)])))
    (hbody : ∀ (A : Around) (outer : List Env) (s : Shared) (H : Hp) (vs : List V) (Q : VK) (E : XK), Room k (A.deeper (envOfC qual scope s.heap.objs.size f cdv)) → sp vs H Q E →
      ∃ t, PSs (cxOf CX P w K mg base N qual scope f cdv A outer s H E) body t ∧ t { nx := fun _ H' => Q .non H', rt := Q } (start N vs) H) : FnKw P w K mg base CX (k + 1) f ps ks sp := by
  intro A outer s H us ws vs zs Q E hr e0 r rz hl hlz hq
  have hn : H s.heap.objs.size = none := e0.hok.fresh (Nat.le_refl _)
  have hlu : us.length = ps.length := by rw [← r.length]; exact hl
  have hlw : ws.length = ks.length := by rw [← rz.length]; exact hlz
  refine run_bnd lk hcd S hr e0 (G := fun xs H2 => ∃ p, H p = none ∧ xs = vs ++ [V.ref p] ∧ H2 = upd H p (.dK (kwV ks zs))) (fun A' Ex Q' h => ?_) fun s2 H2 xs ⟨p, hp, ex, eH⟩ hr' => by subst ex eH; exact hbody A outer s2 _ _ Q E hr' (hq p hp)
  rw [hb us ws hlu hlw]
  have keys : (ks.zip ws).map (·.1) = ks := zip_keys hlw
  refine wpAny_bind (wpAny_alloc (wpAny_bind (kw_fill (h := s.heap) (ks.zip ws) _ [] 0 rfl (fun _ m => nomatch m) (fun _ m => nomatch m) (by rw [keys]; exact nd) (wpAny_pure ?_))))
  have new : ObjOk P w (upd H s.heap.objs.size (.dK (kwV ks zs))) (s.heap.push (dictOf (kwEs w.params s.toks (ks.zip ws)) (0 + (ks.zip ws).length))) s.heap.objs.size (.dK (kwV ks zs)) := kw_ok rz nd hz (env0_big e0)
  have un := un_laid (fs := frs outer) (s := s) (o := dictOf (kwEs w.params s.toks (ks.zip ws)) (0 + (ks.zip ws).length)) (u := .dK (kwV ks zs)) hn
  have z := h { s with heap := s.heap.push (dictOf (kwEs w.params s.toks (ks.zip ws)) (0 + (ks.zip ws).length)), toks := s.toks + (ks.zip ws).length } _ (vs ++ [V.ref s.heap.objs.size]) (us ++ [Value.ref s.heap.objs.size]) (env0_toks (env0_laid e0 new)) un rfl
    (fun e s' => hCX outer s H _ _ E e s' un (fun b o q => Heap.get?_push_of_some _ q) rfl) (r.append (.cons rfl .nil)) (by rw [List.length_append, List.length_append, hl] <;> rfl) ⟨_, hn, rfl, rfl⟩
  rw [List.zip_append hlu.symm] at z
  exact z
end
section
open PySem.Spec PyProof.Rows
variable {P : Program} {w : World} {K : PySem.W.Frag} {mg : Str → Option Value} {base : Heap}
/-- a def whose errors bear no context -/
theorem okN {x qual : Str} {st : Stmt} {f : Addr} {fd : FuncData} {N ps : List Str} {k : Nat} {sp : Sp} (F : Fun K x qual st f fd) (S : FnScope N ps (defScope st)) (len : ∀ vs H Q E, sp vs H Q E → vs.length = ps.length)
    (walk : ∀ (cdv : Value) (A : Around) (outer : List Env) (s : Shared) (H : Hp) (vs : List V) (Q : VK) (E : XK), Room k (A.deeper (envOfC qual (defScope st) s.heap.objs.size f cdv)) → sp vs H Q E →
      ∃ t, PSs (cxOf (L2N.CX P w) P w K mg base N qual (defScope st) f cdv A outer s H E) (defBody st) t ∧ t { nx := fun _ H' => Q .non H', rt := Q } (start N vs) H) : FnOk P w K mg base (L2N.CX P w) (k + 1) f fd ps sp := by
  obtain ⟨_, _, _, _, _, _, cdv, _, _, rfl, lk, hcd⟩ := F.ex
  exact fn_of lk hcd S len fun A outer s H vs Q E hr h => walk cdv A outer s H vs Q E hr h
/-- what is so promised is promised -/
theorem cx_n {P : Program} {w : World} {outer : List Env} {H : Hp} {s : Shared} {E : XK} {u : Value} {s' : Shared} (h : L2N.CX P w outer H s E u s') : L2.CX P w outer H s E u s' := by
  obtain ⟨a, B, H', cls, d, e, fl, r⟩ := h
  exact ⟨a, B, H', cls, d, e, L2H.flyingZ_imp (fun _ z => z.zc) fl, r⟩
end
/-! ### a key function: it keeps the heap -/
open PySem.W PyProof.Rows in
/-- what stays while it runs -/
structure Kx (K : PySem.W.Frag) (mg : Str → Option Value) (base : Heap) (s0 : Shared) (L : Addr) (m : Str → Option Value) (s : Shared) : Prop where
  mod : Mod K mg base
  bs : ∀ b o, base.get? b = some o → s0.heap.get? b = some o
  c : InCall s0 L m s
section
open PySem.W PyProof.Rows
variable {prog : Program} {w : World} {A : Around} {K : PySem.W.Frag} {mg : Str → Option Value} {base : Heap} {s0 : Shared} {L f : Addr} {m : Str → Option Value} {qual : Str} {scope : Scope} {cdv : Value}
theorem Kx.tok {s : Shared} (I : Kx K mg base s0 L m s) (t : Nat) : Kx K mg base s0 L m { s with toks := t } := ⟨I.mod, I.bs, I.c.tok t⟩
theorem Kx.kp {s : Shared} (I : Kx K mg base s0 L m s) : ∀ b o, base.get? b = some o → s.heap.get? b = some o := fun b o e => I.c.keep b o (I.bs b o e)
/-- e is worth a value that P holds of -/
def Ev (prog : Program) (w : World) (A : Around) (env : Env) (I : Shared → Prop) (e : Expr) (P : Value → Prop) : Prop := ∀ (s : Shared) (Q : Value → Shared → Prop) (E : Value → Shared → Prop), I s → (∀ u s', I s' → P u → Q u s') → wpAny (model prog w) A (eval e env) Q E s
theorem ev_var {x : Str} {pos : Pos} {v : Value} (hk : scope.kind = .function) (hl : (envOfC qual scope L f cdv).kindOf x = some .local) (hv : m x = some v) {P : Value → Prop} (hp : P v) (hd : (x == ("__debug__" : Str)) = false := by decide) : Ev prog w A (envOfC qual scope L f cdv) (Kx K mg base s0 L m) (.Name x pos) P := fun s Q E I h =>
  wpAny_Name (wpAny_loadName_local (env := envOfC qual scope L f cdv) hk hl I.c.ns hv (h v s I hp)) hd
theorem ld_b {x : Str} {pos : Pos} {u : Value} {s : Shared} {Q : Value → Shared → Prop} {E : Value → Shared → Prop} (I : Kx K mg base s0 L m s) (hk : scope.kind = .function) (hg : (envOfC qual scope L f cdv).kindOf x = some .globalImplicit) (hm : mg x = none) (hv : bootBuiltins x = some u) (h : Q u s) (hn : x ≠ "__name__" := by decide) (hd : (x == ("__debug__" : Str)) = false := by decide) :
    wpAny (model prog w) A (eval (.Name x pos) (envOfC qual scope L f cdv)) Q E s := by
  obtain ⟨mb, h1, h2⟩ := I.mod.blt
  exact Calls.Name_function_global (env := envOfC qual scope L f cdv) hk hg (Calls.loadGlobal_builtin (env := envOfC qual scope L f cdv) (I.mod.glob.keeps I.kp) hm (h1.keeps I.kp) ((h2 x hn).trans hv) h) hd
theorem ev_len {e : Expr} {p pos : Pos} {z : Str} (hk : scope.kind = .function) (hg : (envOfC qual scope L f cdv).kindOf "len" = some .globalImplicit) (hm : mg "len" = none) (hz : z.length ≤ 1000) (he : Ev prog w A (envOfC qual scope L f cdv) (Kx K mg base s0 L m) e (fun u => ∃ t, u = .str z t))
    (hs : starEach [e] (envOfC qual scope L f cdv) = (false, eval e (envOfC qual scope L f cdv)) :: starEach [] (envOfC qual scope L f cdv) := by rfl) (hpl : (backTo pos (starEach [] (envOfC qual scope L f cdv))).any (·.1) = false := by rfl) :
    Ev prog w A (envOfC qual scope L f cdv) (Kx K mg base s0 L m) (.Call (.Name "len" p) [e] [] pos) (fun u => ∃ t, u = .int z.length t) := fun s Q E I h => by
  refine wpAny_Call_Name_kw (ld_b I hk hg hm PySem.boot_len ?_)
  refine PyProof.Rows.callWith_builtin1 ?_ hs hpl
  rw [hs]
  show wpAny _ _ (spliced ((false, eval e (envOfC qual scope L f cdv)) :: backTo pos (starEach [] (envOfC qual scope L f cdv)))) _ _ s
  refine Calls.spliced_cons (he s _ E I fun u s' I' hu => Calls.spliced_nil ?_)
  obtain ⟨t, rfl⟩ := hu
  have hn := line63
  exact len_str (by omega) (h _ _ (I'.tok _) ⟨_, rfl⟩)
theorem ev_strs {e : Expr} {p pos : Pos} {z : Str} (hk : scope.kind = .function) (hg : (envOfC qual scope L f cdv).kindOf "str" = some .globalImplicit) (hm : mg "str" = none) (he : Ev prog w A (envOfC qual scope L f cdv) (Kx K mg base s0 L m) e (fun u => ∃ t, u = .str z t))
    (hs : starEach [e] (envOfC qual scope L f cdv) = (false, eval e (envOfC qual scope L f cdv)) :: starEach [] (envOfC qual scope L f cdv) := by rfl) (hpl : (backTo pos (starEach [] (envOfC qual scope L f cdv))).any (·.1) = false := by rfl) :
    Ev prog w A (envOfC qual scope L f cdv) (Kx K mg base s0 L m) (.Call (.Name "str" p) [e] [] pos) (fun u => ∃ t, u = .str z t) := fun s Q E I h => by
  refine wpAny_Call_Name_kw (ld_b I hk hg hm (u := .type "str") (by decide +kernel) ?_)
  refine PyProof.Rows.callWith_type1 ?_ hs hpl
  rw [hs]
  show wpAny _ _ (spliced ((false, eval e (envOfC qual scope L f cdv)) :: backTo pos (starEach [] (envOfC qual scope L f cdv)))) _ _ s
  refine Calls.spliced_cons (he s _ E I fun u s' I' hu => Calls.spliced_nil ?_)
  obtain ⟨t, rfl⟩ := hu
  exact PySem.P.str_of_str (h _ _ I' ⟨_, rfl⟩)
theorem ev_isi {e : Expr} {p p2 pos : Pos} {z : Str} (hk : scope.kind = .function) (hg : (envOfC qual scope L f cdv).kindOf "isinstance" = some .globalImplicit) (hm : mg "isinstance" = none) (hg2 : (envOfC qual scope L f cdv).kindOf "str" = some .globalImplicit) (hm2 : mg "str" = none) (he : Ev prog w A (envOfC qual scope L f cdv) (Kx K mg base s0 L m) e (fun u => ∃ t, u = .str z t))
    (hs : starEach [e, .Name "str" p2] (envOfC qual scope L f cdv) = (false, eval e (envOfC qual scope L f cdv)) :: starEach [.Name "str" p2] (envOfC qual scope L f cdv) := by rfl) (hpl : (backTo pos (starEach [.Name "str" p2] (envOfC qual scope L f cdv))).any (·.1) = false := by rfl)
    (hs2 : starEach [.Name "str" p2] (envOfC qual scope L f cdv) = (false, eval (.Name "str" p2) (envOfC qual scope L f cdv)) :: starEach [] (envOfC qual scope L f cdv) := by rfl) :
    Ev prog w A (envOfC qual scope L f cdv) (Kx K mg base s0 L m) (.Call (.Name "isinstance" p) [e, .Name "str" p2] [] pos) (fun u => u = .bool true) := fun s Q E I h => by
  refine wpAny_Call_Name_kw (ld_b I hk hg hm (u := .builtin "isinstance") (by decide +kernel) ?_)
  refine PyProof.Rows.callWith_builtin1 ?_ hs hpl
  rw [hs, hs2]
  show wpAny _ _ (spliced ((false, eval e (envOfC qual scope L f cdv)) :: (false, eval (.Name "str" p2) (envOfC qual scope L f cdv)) :: backTo pos (starEach [] (envOfC qual scope L f cdv)))) _ _ s
  refine Calls.spliced_cons (he s _ E I fun u s' I' hu => Calls.spliced_cons (ld_b I' hk hg2 hm2 (u := .type "str") (by decide +kernel) (Calls.spliced_nil ?_)))
  obtain ⟨t, rfl⟩ := hu
  exact PySem.W.kia_one (K := K) PySem.W.kitx_str (I'.mod.kin.keeps I'.kp) True.intro (kit_ty (a := "str") (b := "str") (by decide +kernel)) (fun z => nomatch z) fun tk => h _ _ (I'.tok _) rfl
theorem ev_ifT {c a b : Expr} {pos : Pos} {P : Value → Prop} (hc : Ev prog w A (envOfC qual scope L f cdv) (Kx K mg base s0 L m) c (fun u => u = .bool true)) (ha : Ev prog w A (envOfC qual scope L f cdv) (Kx K mg base s0 L m) a P)
    (he : ∀ whole, isTrue c (envOfC qual scope L f cdv) whole = (do let v ← whole; standAt c.pos; holding [v] (truthy v)) := by intro _; rfl) : Ev prog w A (envOfC qual scope L f cdv) (Kx K mg base s0 L m) (.IfExp c a b pos) P := fun s Q E I h => by
  refine wpAny_IfExp ?_
  rw [he]
  refine wpAny_bind (hc s _ E I fun u s' I' hu => ?_)
  subst hu
  refine wpAny_bind (wpAny_standAt (wpAny_holding (wpAny_truthy_bool ?_)))
  exact ha s' Q E I' h
/-- items of a display -/
inductive EvL (prog : Program) (w : World) (A : Around) (env : Env) (I : Shared → Prop) : List Expr → List (Value → Prop) → Prop where
  | nil : EvL prog w A env I [] []
  | cons {e : Expr} {es : List Expr} {P : Value → Prop} {Ps : List (Value → Prop)} : Ev prog w A env I e P → EvL prog w A env I es Ps → starEach (e :: es) env = (false, eval e env) :: starEach es env → EvL prog w A env I (e :: es) (P :: Ps)
theorem EvL.run {env : Env} {I : Shared → Prop} {pos : Pos} : ∀ {es : List Expr} {Ps : List (Value → Prop)}, EvL prog w A env I es Ps → ∀ (s : Shared) (Q : List Value → Shared → Prop) (E : Value → Shared → Prop), I s → (∀ us s', I s' → Paired (fun u (P : Value → Prop) => P u) us Ps → Q us s') → wpAny (model prog w) A (spliced (backTo pos (starEach es env))) Q E s
  | _, _, .nil, s, Q, E, hI, h => Calls.spliced_nil (h [] s hI .nil)
  | _, _, .cons (e := e) (es := es) he hr hs, s, Q, E, hI, h => by
    rw [hs]
    show wpAny _ _ (spliced ((false, eval e env) :: backTo pos (starEach es env))) _ _ s
    exact Calls.spliced_cons (he s _ E hI fun u s' I' hu => hr.run s' _ E I' fun us s2 I2 hus => h (u :: us) s2 I2 (.cons hu hus))
theorem ret_tup {es : List Expr} {Ps : List (Value → Prop)} {ds : List PyData} {x1 : Nat} {pos pos2 : Pos} {s : Shared} {Q : Flow → Shared → Prop} {E : Value → Shared → Prop} (h : EvL prog w A (envOfC qual scope L f cdv) (Kx K mg base s0 L m) es Ps) (I : Kx K mg base s0 L m s)
    (hr : ∀ us, Paired (fun u (P : Value → Prop) => P u) us Ps → us.length ≤ sizeLine ∧ ∀ g, ReadsAll g us ds []) (hq : ∀ u s', KeyPure (.tuple ds) s0 u s' → Q (.ret u) s') : wpAny (model prog w) A (exec (.Return (some (.Tuple es x1 pos)) pos2) (envOfC qual scope L f cdv)) Q E s := by
  refine wpAny_Return_some (wpAny_Tuple_spliced (h.run s _ E I fun us s' I' hus => ?_))
  obtain ⟨h1, h2⟩ := hr us hus
  refine ⟨h1, hq _ _ ?_⟩
  obtain ⟨g, tk, rfl⟩ := I'.c.same
  refine ⟨_, tk, rfl, fun b o e => Heap.get?_push_of_some _ (I'.c.keep b o e), ?_⟩
  exact .tuple (Heap.get?_push_size _ rfl) rfl rfl (h2 _)
end
section
open PySem.W PyProof.Rows
variable {prog : Program} {w : World} {A : Around} {K : PySem.W.Frag} {mg : Str → Option Value} {base : Heap}
/-- a def of one text is a key function: k of the text -/
def KeyStr (prog : Program) (w : World) (K : PySem.W.Frag) (mg : Str → Option Value) (base : Heap) (f : Addr) (k : Str → PyData) : Prop :=
  ∀ (A : Around) (s : Shared) (g : Str) (t : Tok), A.depth < recursionLimit → Mod K mg base → (∀ b o, base.get? b = some o → s.heap.get? b = some o) → g.length ≤ 1000 → wpAny (model prog w) A (call (.ref f) [.str g t]) (KeyPure (k g) s) (fun _ _ => False) s
theorem key_enter {x qual : Str} {st : Stmt} {f : Addr} {fd : FuncData} {v : Value} {s : Shared} {k : PyData} (F : Fun K x qual st f fd) (mod : Mod K mg base) (hbs : ∀ b o, base.get? b = some o → s.heap.get? b = some o) (hroom : A.depth < recursionLimit) {p : Str}
    (hb : Binds K fd [p] []) (hk : (defScope st).kind = .function) (hco : (defScope st).isCoroutine = false) (hgen : (defScope st).isGenerator = false) (hl : (defScope st).names.lookup p = some .local)
    (h : ∀ cdv (m : Str → Option Value) s1, m p = some v → Kx K mg base s s.heap.objs.size m s1 → wpAny (model prog w) (A.deeper (envOfC qual (defScope st) s.heap.objs.size f cdv)) (execs (defBody st) (envOfC qual (defScope st) s.heap.objs.size f cdv)) (fun fl s' => ∃ u, fl = .ret u ∧ KeyPure k s u s') (fun _ _ => False) s1) :
    wpAny (model prog w) A (call (.ref f) [v]) (KeyPure k s) (fun _ _ => False) s := by
  obtain ⟨oc, od, kV, doc, pm, an, cdv, ct, osl, rfl, lk, hcd⟩ := F.ex
  have KX : K.In s.heap := mod.kin.keeps hbs
  have bt : BindsTo s (PySem.W.fnOf x qual (defArgs st) (defBody st) (defScope st) .none kV doc pm an cdv ct) ⟨[v], []⟩ [(p, v)] := hb s [v] KX rfl
  refine wpAny_call (Att.call_fn (binds := [(p, v)]) KX (mod.nolimit.keeps hbs) lk hcd hroom bt (by simp [hl]) (fun s1 IC => ?_) hco hgen hk)
  have hm : (bindL (envOfC qual (defScope st) s.heap.objs.size f cdv).kindOf [(p, v)] fun _ => none) p = some v := by
    have hl' : (envOfC qual (defScope st) s.heap.objs.size f cdv).kindOf p = some .local := hl
    simp [bindL, hl']
  refine wpAny_mono (h cdv _ s1 hm ⟨mod, hbs, IC.toInCall⟩) (fun fl s' q => ?_) (fun _ _ q => q.elim)
  obtain ⟨u, rfl, q⟩ := q
  exact q
/-! ### sorted(xs, key=f) -/
theorem vals_of_each {T : Type} {val : T → V} {R : Value → T → Prop} (h : ∀ u x, R u x → RelV (val x) u) : ∀ {us : List Value} {xs : List T}, EachIs R us xs → Vals (xs.map val) us
  | _, _, .nil => .nil
  | _, _, .cons r e => .cons (h _ _ r) (vals_of_each h e)
/-- the items xs as values, what of them is read, their keys -/
structure KeyFn (X : Cx) (H : Hp) (f : Addr) {T : Type} (val : T → V) (ok : Heap → Value → T → Prop) (k : T → PyData) (xs : List T) : Prop where
  al : AllAlike (xs.map k)
  so : Sortable (xs.map k)
  dp : ∀ x ∈ xs, (k x).depth ≤ 8
  each : ∀ (pins : List (Addr × Obj)) (σ : L2.St) (s : Shared) (us : List Value), Inv X pins σ H s → Vals (xs.map val) us → EachIs (fun u x => RelV (val x) u ∧ ok s.heap u x) us xs
  turn : ∀ (A : Around) (s : Shared) (h0 : Heap) (u : Value) (x : T), A.depth < recursionLimit → A.handled = none → Mod X.K X.mg X.base → (∀ b o, X.base.get? b = some o → s.heap.get? b = some o) → (∀ b o, h0.get? b = some o → s.heap.get? b = some o) → RelV (val x) u → ok h0 u x →
    wpAny (model X.prog X.w) A (call (.ref f) [u]) (KeyPure (k x) s) (fun _ _ => False) s
theorem cr_sortedK {X : Cx} {T : Type} {f : Addr} {val : T → V} {ok : Heap → Value → T → Prop} {k : T → PyData} (hc : X.calm = true) (hr : Room 1 X.A) : CallRK X (.builtin "sorted") [Str.ofString "key"] (fun vs zs H Q => ∃ (a : Addr) (xs : List T), vs = [.ref a] ∧ zs = [.ref f] ∧ SqL X.K H a (xs.map val) ∧ KeyFn X H f val ok k xs ∧
    ∀ p, H p = none → Q (.ref p) (upd H p (.lst ((xs.mergeSort (dataLe false k)).map val)))) := by
  intro pins s σ H vs zs us ws Q I rv rz hq
  obtain ⟨a, xs, rfl, rfl, hS, KF, q⟩ := hq
  obtain ⟨u1, rfl, r1⟩ := vals1 rv
  obtain ⟨u2, rfl, r2⟩ := vals1 rz
  cases r1
  cases r2
  obtain ⟨its, rits, pl, hz⟩ := I.list hS
  have e := KF.each pins σ s its I rits
  have hl : xs.length ≤ sizeLine := by rw [List.length_map] at hz; exact hz
  show wpAny (model X.prog X.w) X.A (call (.builtin "sorted") [.ref a] [(Str.ofString "key", .ref f)]) _ _ s
  have hun := hr.un
  have hdp := hr.dp
  refine sorted_key_data (b := false) k pl.isList e KF.al KF.so hl (fun x hx => ?_) (ksk_s1 _ _) (fun _ => ksk_l1 _ _) (fun _ => ksk_t1 _ _) (fun u x hR hx h tk kp => ?_) fun out c h' tk kp hn hD ho eo => ?_
  · have := KF.dp x hx
    omega
  · exact KF.turn X.A.in1.in1 { s with heap := h, toks := tk } s.heap u x (by show X.A.depth < _; omega) (I.ok.hd hc) I.mod (fun b o eb => kp b o (I.bk b o eb)) kp hR.1 hR.2
  · have hf : H (s.heap.objs.size + 1) = none := I.hok.fresh (Nat.le_succ _)
    refine ⟨.ref (s.heap.objs.size + 1), upd H (s.heap.objs.size + 1) (.lst ((xs.mergeSort (dataLe false k)).map val)), I.laid (t' := tk) kp (Nat.le_succ _) ?_, rfl, q _ hf⟩
    refine ⟨?_, out, c, vals_of_each (fun u x h => h.1) eo, hD⟩
    rw [List.length_map, List.length_mergeSort]
    exact hl
end
/-! ### the key functions of the text -/
def kRank (g : Str) : PyData := .tuple [.int g.length, .str g]
section
open PySem.W PyProof.Rows
variable {prog : Program} {w : World} {K : PySem.W.Frag} {mg : Str → Option Value} {base : Heap}
theorem pair_flat {us : List Value} {a : Int} {z : Str} (h : Paired (fun u (P : Value → Prop) => P u) us [fun u => ∃ t, u = .int a t, fun u => ∃ t, u = .str z t]) : us.length ≤ sizeLine ∧ ∀ g, ReadsAll g us [.int a, .str z] [] := by
  cases h with
  | cons h1 r =>
    cases r with
    | cons h2 r =>
      cases r
      obtain ⟨t1, rfl⟩ := h1
      obtain ⟨t2, rfl⟩ := h2
      exact ⟨by show 2 ≤ sizeLine; decide, fun g => .cons (.int _ _) (.cons (.str _ _) .nil)⟩
abbrev sPlace : Stmt := top 18
theorem key_place {f : Addr} {fd : FuncData} (F : Fun K "font_place" "font_place" sPlace f fd) (b : Binds K fd ["glyph"] []) (mL : mg "len" = none) (mI : mg "isinstance" = none) (mS : mg "str" = none) : KeyStr prog w K mg base f kRank := by
  intro A s g t hroom mod hbs hg
  refine key_enter F mod hbs hroom b rfl rfl rfl rfl fun cdv m s1 hm I => ?_
  have v0 : ∀ {pos : Pos} {m' : Str → Option Value}, m' "glyph" = some (.str g t) → Ev prog w (A.deeper (envOfC "font_place" (defScope sPlace) s.heap.objs.size f cdv)) (envOfC "font_place" (defScope sPlace) s.heap.objs.size f cdv) (Kx K mg base s s.heap.objs.size m') (.Name "glyph" pos) (fun u => ∃ t, u = .str g t) := fun {pos m'} h => ev_var rfl rfl h ⟨t, rfl⟩
  refine wpAny_execs_cons ?_
  refine wpAny_Assign_Name (ev_ifT (ev_isi rfl rfl mI rfl mS (v0 hm)) (ev_len rfl rfl mL hg (v0 hm)) (fun _ => rfl) s1 _ _ I fun u s2 I2 hu => ?_) rfl
  obtain ⟨t2, rfl⟩ := hu
  refine wpAny_storeName_local (env := envOfC "font_place" (defScope sPlace) s.heap.objs.size f cdv) rfl I2.c.ns (fun h' hn' hs' => ?_) rfl
  obtain ⟨m3, e3⟩ : ∃ m3 : Str → Option Value, m3 = (fun y : Str => if y = "length" then some (Value.int g.length t2) else m y) := ⟨_, rfl⟩
  have I3 : Kx K mg base s s.heap.objs.size m3 { s2 with heap := h', toks := s2.toks + 1 } := by
    refine ⟨I2.mod, I2.bs, ⟨?_, e3 ▸ hn', fun b o e => ?_, I2.c.fresh⟩⟩
    · obtain ⟨h₁, tk, rfl⟩ := I2.c.same
      exact ⟨h', _, rfl⟩
    · exact hs'.extBut b o (Nat.ne_of_lt (Nat.lt_of_lt_of_le (Heap.lt_size e) I2.c.fresh)) (I2.c.keep b o e)
  refine wpAny_execs_cons ?_
  have hmL : m3 "length" = some (.int g.length t2) := by
    rw [e3]
    exact if_pos rfl
  have hm3 : m3 "glyph" = some (.str g t) := by
    rw [e3]
    show (if ("glyph" : Str) = "length" then _ else _) = _
    rw [if_neg (by decide +kernel)]
    exact hm
  exact ret_tup (.cons (ev_var rfl rfl hmL ⟨t2, rfl⟩) (.cons (ev_strs rfl rfl mS (v0 hm3)) .nil rfl) rfl) I3 (fun us h => pair_flat h) fun u s' q => ⟨u, rfl, q⟩
/-- the texts xs under such a key -/
theorem keyFn_str {X : Cx} {H : Hp} {f : Addr} {xs : List Str} (h : KeyStr X.prog X.w X.K X.mg X.base f kRank) (hx : ∀ x ∈ xs, x.length ≤ 1000) : KeyFn X H f (T := Str) V.str (fun _ _ x => x.length ≤ 1000) kRank xs where
  al := AllAlike.of fun _ _ => by simp [alike, alikeAll, kRank]
  so := Sortable.tuples fun _ => ⟨_, _, rfl⟩
  dp := fun x _ => by simp [kRank, PyData.depth, PyData.depthAll]
  each := fun pins σ s us I r => by
    have go : ∀ {us : List Value} {xs : List Str}, (∀ x ∈ xs, x.length ≤ 1000) → Vals (xs.map V.str) us → EachIs (fun u x => RelV (.str x) u ∧ x.length ≤ 1000) us xs := by
      intro us xs
      induction xs generalizing us with
      | nil => intro _ r; cases r; exact .nil
      | cons x xs ih =>
        intro hx r
        cases r with
        | cons r1 r2 => exact .cons ⟨r1, hx x List.mem_cons_self⟩ (ih (fun y hy => hx y (List.mem_cons_of_mem _ hy)) r2)
    exact go hx r
  turn := fun A s h0 u x hroom _ mod hbs _ r hl => by
    obtain ⟨t, rfl⟩ := r
    exact h A s x t hroom mod hbs hl
end
/-! ### the key function of pairs -/
def kPlace (g : Str × Str) : PyData := .tuple [.bool true, .str g.1, .bool true, .str g.2]
section
open PySem.W PyProof.Rows
variable {prog : Program} {w : World} {A : Around} {K : PySem.W.Frag} {mg : Str → Option Value} {base : Heap} {s0 : Shared} {L f : Addr} {m : Str → Option Value} {qual : Str} {scope : Scope} {cdv : Value}
theorem Kx.ext {s : Shared} {h' : Heap} (I : Kx K mg base s0 L m s) (hx : Heap.ExtBut s.heap.objs.size s.heap h') : Kx K mg base s0 L m { s with heap := h' } := by
  have k : ∀ b o, s.heap.get? b = some o → h'.get? b = some o := fun b o e => hx b o (Nat.ne_of_lt (Heap.lt_size e)) e
  refine ⟨I.mod, I.bs, ⟨?_, I.c.ns.keeps k, fun b o e => k b o (I.c.keep b o e), I.c.fresh⟩⟩
  obtain ⟨h₁, tk, rfl⟩ := I.c.same
  exact ⟨h', _, rfl⟩
theorem four_flat {us : List Value} {x z : Str} (h : Paired (fun u (P : Value → Prop) => P u) us [fun u => u = .bool true, fun u => ∃ t, u = .str x t, fun u => u = .bool true, fun u => ∃ t, u = .str z t]) : us.length ≤ sizeLine ∧ ∀ g, ReadsAll g us [.bool true, .str x, .bool true, .str z] [] := by
  cases h with
  | cons h1 r =>
    cases r with
    | cons h2 r =>
      cases r with
      | cons h3 r =>
        cases r with
        | cons h4 r =>
          cases r
          subst h1 h3
          obtain ⟨t2, rfl⟩ := h2
          obtain ⟨t4, rfl⟩ := h4
          exact ⟨by show 4 ≤ sizeLine; decide, fun g => .cons (.bool _) (.cons (.str _ _) (.cons (.bool _) (.cons (.str _ _) .nil)))⟩
abbrev sPair : Stmt := top 19
/-- a def of one pair of texts is a key function: k of the pair -/
def KeyPair (prog : Program) (w : World) (K : PySem.W.Frag) (mg : Str → Option Value) (base : Heap) (f : Addr) (k : Str × Str → PyData) : Prop :=
  ∀ (A : Around) (s : Shared) (a : Addr) (l r : Str) (t1 t2 : Tok), A.depth < recursionLimit → A.handled = none → Mod K mg base → (∀ b o, base.get? b = some o → s.heap.get? b = some o) → IsTup s.heap a #[.str l t1, .str r t2] → wpAny (model prog w) A (call (.ref f) [.ref a]) (KeyPure (k (l, r)) s) (fun _ _ => False) s
theorem key_pair {f : Addr} {fd : FuncData} (F : Fun K "pair_place" "pair_place" sPair f fd) (b : Binds K fd ["pair"] []) (mI : mg "isinstance" = none) (mS : mg "str" = none) : KeyPair prog w K mg base f kPlace := by
  intro A s a l r t1 t2 hroom hh mod hbs ht
  refine key_enter F mod hbs hroom b rfl rfl rfl rfl fun cdv m s1 hm I => ?_
  have v0 : ∀ {pos : Pos} {x z : Str} {t : Tok} {m' : Str → Option Value}, (envOfC "pair_place" (defScope sPair) s.heap.objs.size f cdv).kindOf x = some .local → m' x = some (.str z t) → (x == ("__debug__" : Str)) = false →
      Ev prog w (A.deeper (envOfC "pair_place" (defScope sPair) s.heap.objs.size f cdv)) (envOfC "pair_place" (defScope sPair) s.heap.objs.size f cdv) (Kx K mg base s s.heap.objs.size m') (.Name x pos) (fun u => ∃ t, u = .str z t) := fun {pos x z t m'} hk h hd => ev_var rfl hk h ⟨t, rfl⟩ hd
  refine wpAny_execs_cons ?_
  have hv : ∀ (Q : Value → Shared → Prop) (E : Value → Shared → Prop), (∀ s', Kx K mg base s s.heap.objs.size m s' → Q (.ref a) s') → wpAny (model prog w) (A.deeper (envOfC "pair_place" (defScope sPair) s.heap.objs.size f cdv)) (eval (.Name "pair" ⟨0, 0, 0, 0⟩) (envOfC "pair_place" (defScope sPair) s.heap.objs.size f cdv)) Q E s1 := fun Q E h =>
    ev_var (P := fun u => u = .ref a) rfl rfl hm rfl (by decide) s1 Q E I fun u s' I' hu => by subst hu; exact h s' I'
  refine wpAny_Assign_stores (ev_var (P := fun u => u = .ref a) rfl rfl hm rfl (by decide) s1 _ _ I fun u s2 I2 hu => ?_) rfl rfl
  subst hu
  show wpAny _ _ (assign _ _ (.ref a)) _ _ s2
  have ht2 : IsTup s2.heap a #[.str l t1, .str r t2] := by
    obtain ⟨o, ho, hc, n, hd⟩ := ht
    exact ⟨o, I2.c.keep _ _ ho, hc, n, hd⟩
  refine assign_Tuple_tuple hh ht2 rfl rfl fun h3 hx => ?_
  have I3 := I2.ext hx
  refine assignInOrder_cons (wpAny_assign_Name (wpAny_storeName_local (env := envOfC "pair_place" (defScope sPair) s.heap.objs.size f cdv) rfl I3.c.ns (fun h' hn' hs' => ?_) rfl))
  obtain ⟨m4, e4⟩ : ∃ m4 : Str → Option Value, m4 = (fun y : Str => if y = "left" then some (Value.str l t1) else m y) := ⟨_, rfl⟩
  have I4 : Kx K mg base s s.heap.objs.size m4 { s2 with heap := h', toks := s2.toks + 1 } := by
    refine ⟨I3.mod, I3.bs, ⟨?_, e4 ▸ hn', fun b o e => ?_, I3.c.fresh⟩⟩
    · obtain ⟨h₁, tk, rfl⟩ := I2.c.same
      exact ⟨h', _, rfl⟩
    · exact hs'.extBut b o (Nat.ne_of_lt (Nat.lt_of_lt_of_le (Heap.lt_size e) I3.c.fresh)) (I3.c.keep b o e)
  refine assignInOrder_cons (wpAny_assign_Name (wpAny_storeName_local (env := envOfC "pair_place" (defScope sPair) s.heap.objs.size f cdv) rfl I4.c.ns (fun h'' hn'' hs'' => ?_) rfl))
  obtain ⟨m5, e5⟩ : ∃ m5 : Str → Option Value, m5 = (fun y : Str => if y = "right" then some (Value.str r t2) else m4 y) := ⟨_, rfl⟩
  have I5 : Kx K mg base s s.heap.objs.size m5 { s2 with heap := h'', toks := s2.toks + 1 + 1 } := by
    refine ⟨I4.mod, I4.bs, ⟨?_, e5 ▸ hn'', fun b o e => ?_, I4.c.fresh⟩⟩
    · obtain ⟨h₁, tk, rfl⟩ := I2.c.same
      exact ⟨h'', _, rfl⟩
    · exact hs''.extBut b o (Nat.ne_of_lt (Nat.lt_of_lt_of_le (Heap.lt_size e) I4.c.fresh)) (I4.c.keep b o e)
  refine assignInOrder_nil ?_
  refine wpAny_execs_cons ?_
  have hr5 : m5 "right" = some (.str r t2) := by
    rw [e5]
    exact if_pos rfl
  have hl5 : m5 "left" = some (.str l t1) := by
    rw [e5, e4]
    show (if ("left" : Str) = "right" then _ else (if ("left" : Str) = "left" then _ else _)) = _
    rw [if_neg (by decide +kernel), if_pos rfl]
  exact ret_tup (.cons (ev_isi rfl rfl mI rfl mS (v0 rfl hl5 (by decide))) (.cons (ev_strs rfl rfl mS (v0 rfl hl5 (by decide))) (.cons (ev_isi rfl rfl mI rfl mS (v0 rfl hr5 (by decide))) (.cons (ev_strs rfl rfl mS (v0 rfl hr5 (by decide))) .nil rfl) rfl) rfl) rfl) I5 (fun us h => four_flat h) fun u s' q => ⟨u, rfl, q⟩
/-- pairs under such a key -/
theorem keyFn_pair {X : Cx} {H : Hp} {f : Addr} {xs : List (Addr × (Str × Str))} (h : KeyPair X.prog X.w X.K X.mg X.base f kPlace) (hx : ∀ x ∈ xs, H x.1 = some (.tup [.str x.2.1, .str x.2.2])) :
    KeyFn X H f (T := Addr × (Str × Str)) (fun x => V.ref x.1) (fun hp _ x => ∃ t1 t2, IsTup hp x.1 #[.str x.2.1 t1, .str x.2.2 t2]) (fun x => kPlace x.2) xs where
  al := AllAlike.of fun _ _ => by simp [alike, alikeAll, kPlace]
  so := Sortable.tuples fun _ => ⟨_, _, rfl⟩
  dp := fun x _ => by simp [kPlace, PyData.depth, PyData.depthAll]
  each := fun pins σ s us I r => by
    have go : ∀ {us : List Value} {xs : List (Addr × (Str × Str))}, (∀ x ∈ xs, H x.1 = some (.tup [.str x.2.1, .str x.2.2])) → Vals (xs.map fun x => V.ref x.1) us → EachIs (fun u x => RelV (V.ref x.1) u ∧ ∃ t1 t2, IsTup s.heap x.1 #[.str x.2.1 t1, .str x.2.2 t2]) us xs := by
      intro us xs
      induction xs generalizing us with
      | nil => intro _ r; cases r; exact .nil
      | cons x xs ih =>
        intro hx r
        cases r with
        | cons r1 r2 =>
          refine .cons ⟨r1, ?_⟩ (ih (fun y hy => hx y (List.mem_cons_of_mem _ hy)) r2)
          obtain ⟨ts, rts, ht, _⟩ := I.tuple (SqT.of (K := X.K) (hx x List.mem_cons_self))
          cases rts with
          | cons a1 rr =>
            cases rr with
            | cons a2 rr =>
              cases rr
              obtain ⟨t1, rfl⟩ := a1
              obtain ⟨t2, rfl⟩ := a2
              exact ⟨t1, t2, ht⟩
    exact go hx r
  turn := fun A s h0 u x hroom hh mod hbs hk r hl => by
    obtain ⟨t1, t2, o, ho, hc, n, hd⟩ := hl
    cases r
    exact h A s x.1 x.2.1 x.2.2 t1 t2 hroom hh mod hbs ⟨o, hk _ _ ho, hc, n, hd⟩
end
/-! ### a font as data -/
abbrev AdvL := List (Str × Int)
abbrev KrnL := List ((Str × Str) × Int)
def lget {κ : Type} [DecidableEq κ] (l : List (κ × Int)) (k : κ) : Option Int := (l.find? fun p => decide (p.1 = k)).map (·.2)
def lput {κ : Type} [DecidableEq κ] (l : List (κ × Int)) (k : κ) (v : Int) : List (κ × Int) := if (l.any fun p => decide (p.1 = k)) = true then l.map (fun p => if p.1 = k then (p.1, v) else p) else l ++ [(k, v)]
def ldrop {κ : Type} [DecidableEq κ] (l : List (κ × Int)) (k : κ) : List (κ × Int) := l.filter fun p => decide (p.1 ≠ k)
/-- the same list under other keys, as a tracked dict holds it -/
def enc {κ κ' : Type} (c : κ → κ') (l : List (κ × Int)) : List (κ' × V) := l.map fun p => (c p.1, .int p.2)
section
variable {κ κ' : Type} [DecidableEq κ] [DecidableEq κ'] {c : κ → κ'} (hc : ∀ a b, c a = c b → a = b)
include hc
theorem dec_c (a b : κ) : decide (c a = c b) = decide (a = b) := by
  by_cases h : a = b
  · rw [decide_eq_true h, decide_eq_true (congrArg c h)]
  · rw [decide_eq_false h, decide_eq_false fun z => h (hc _ _ z)]
theorem enc_get (l : List (κ × Int)) (k : κ) : valV (enc c l) (c k) = (lget l k).map V.int := by
  unfold valV lget enc
  rw [List.find?_map]
  have e : ((fun kv : κ' × V => decide (kv.1 = c k)) ∘ fun p : κ × Int => (c p.1, V.int p.2)) = fun p => decide (p.1 = k) := by
    funext p
    exact dec_c hc _ _
  rw [e]
  cases l.find? fun p => decide (p.1 = k) <;> rfl
theorem enc_put (l : List (κ × Int)) (k : κ) (v : Int) : putK (enc c l) (c k) (.int v) = enc c (lput l k v) := by
  unfold putK lput enc
  rw [List.any_map]
  have e : ((fun kv : κ' × V => decide (kv.1 = c k)) ∘ fun p : κ × Int => (c p.1, V.int p.2)) = fun p => decide (p.1 = k) := by
    funext p
    exact dec_c hc _ _
  rw [e]
  split
  · rw [List.map_map, List.map_map]
    refine List.map_congr_left fun p _ => ?_
    show (if c p.1 = c k then (c p.1, V.int v) else (c p.1, V.int p.2)) = _
    by_cases h : p.1 = k
    · rw [if_pos (congrArg c h)]
      simp [h]
    · rw [if_neg fun z => h (hc _ _ z)]
      simp [h]
  · rw [List.map_append]
    rfl
theorem enc_drop (l : List (κ × Int)) (k : κ) : dropK (enc c l) (c k) = enc c (ldrop l k) := by
  unfold dropK ldrop enc
  rw [List.filter_map]
  congr 1
  refine List.filter_congr fun p _ => ?_
  show decide (c p.1 ≠ c k) = decide (p.1 ≠ k)
  by_cases h : p.1 = k
  · rw [decide_eq_false (by simp [h]), decide_eq_false (by simp [h])]
  · rw [decide_eq_true (p := c p.1 ≠ c k) (fun z => h (hc _ _ z)), decide_eq_true (p := p.1 ≠ k) h]
end
def cA (g : Str) : Key := .inr g
def cK (p : Str × Str) : List Key := [.inr p.1, .inr p.2]
theorem cA_inj (a b : Str) (h : cA a = cA b) : a = b := Sum.inr.inj h
theorem cK_inj (a b : Str × Str) (h : cK a = cK b) : a = b := by
  obtain ⟨a1, a2⟩ := a
  obtain ⟨b1, b2⟩ := b
  have h1 : (Sum.inr a1 : Key) = Sum.inr b1 ∧ [(Sum.inr a2 : Key)] = [Sum.inr b2] := List.cons.inj h
  have h2 := List.cons.inj h1.2
  rw [Sum.inr.inj h1.1, Sum.inr.inj h2.1]
/-- what a change remembers -/
inductive Rec where
  | adv (g : Str) (old : Option Int)
  | krn (l r : Str) (old : Option Int)
  | blank (old : Int)
def ov : Option Int → V
  | none => .non
  | some n => .int n
def RecAt (H : Hp) (t : Addr) : Rec → Prop
  | .adv g old => H t = some (.tup [.str "advance", .str g, ov old])
  | .krn l r old => ∃ q, H t = some (.tup [.str "kern", .ref q, ov old]) ∧ H q = some (.tup [.str l, .str r])
  | .blank old => H t = some (.tup [.str "blank", .str "", .int old])
def RecsAt (H : Hp) (l : Addr) (rs : List Rec) : Prop := ∃ ts : List Addr, H l = some (.lst (ts.map V.ref)) ∧ Paired (RecAt H) ts rs
structure FSt where
  adv : AdvL
  krn : KrnL
  blank : Int
/-- where a font's parts stand -/
structure Own where
  dx : Addr
  dA : Addr
  dN : Addr
  dP : Addr
def fflds (o : Own) (b : Int) : List (Str × V) := [("_advances", .ref o.dA), ("_kerns", .ref o.dN), ("_blank", .int b), ("_past", .ref o.dP)]
structure FontAt (C : Addr) (H : Hp) (p : Addr) (o : Own) (st : FSt) (past : List (List Rec)) : Prop where
  ob : H p = some (.ins C o.dx (fflds o st.blank))
  da : H o.dA = some (.dK (enc cA st.adv))
  dn : H o.dN = some (.dT (enc cK st.krn))
  dp : ∃ ls : List Addr, H o.dP = some (.lst (ls.map V.ref)) ∧ Paired (RecsAt H) ls past ∧ ∀ l ∈ ls, l ≠ o.dP
  small : st.adv.length ≤ 1000 ∧ st.krn.length ≤ 1000 ∧ past.length ≤ 1000
/-- all but the font's own parts stays -/
def KeepF (p : Addr) (o : Own) (H H' : Hp) : Prop := ∀ a u, H a = some u → a ≠ p → a ≠ o.dA → a ≠ o.dN → a ≠ o.dP → H' a = some u
theorem KeepF.refl {p : Addr} {o : Own} {H : Hp} : KeepF p o H H := fun _ _ e _ _ _ _ => e
theorem KeepF.trans {p : Addr} {o : Own} {H H1 H2 : Hp} (a : KeepF p o H H1) (b : KeepF p o H1 H2) : KeepF p o H H2 := fun x u e h1 h2 h3 h4 => b x u (a x u e h1 h2 h3 h4) h1 h2 h3 h4
theorem KeepF.same {p : Addr} {o : Own} {H H' : Hp} (s : Same H H') : KeepF p o H H' := fun x u e _ _ _ _ => s x u e
theorem RecAt.sm {H H' : Hp} (s : ∀ a xs, H a = some (.tup xs) → H' a = some (.tup xs)) : ∀ {t : Addr} {r : Rec}, RecAt H t r → RecAt H' t r
  | _, .adv _ _, h => s _ _ h
  | _, .krn _ _ _, ⟨q, h1, h2⟩ => ⟨q, s _ _ h1, s _ _ h2⟩
  | _, .blank _, h => s _ _ h
theorem paired_mono {α β : Type} {R S : α → β → Prop} (h : ∀ a b, R a b → S a b) : ∀ {as : List α} {bs : List β}, Paired R as bs → Paired S as bs
  | _, _, .nil => .nil
  | _, _, .cons r t => .cons (h _ _ r) (paired_mono h t)
theorem paired_mem {α β : Type} {R S : α → β → Prop} : ∀ {as : List α} {bs : List β}, Paired R as bs → (∀ a ∈ as, ∀ b, R a b → S a b) → Paired S as bs
  | _, _, .nil, _ => .nil
  | _, _, .cons r t, h => .cons (h _ List.mem_cons_self _ r) (paired_mem t fun a ha => h a (List.mem_cons_of_mem _ ha))
theorem RecsAt.sm {H H' : Hp} {l : Addr} {rs : List Rec} (h : RecsAt H l rs) (hl : ∀ xs, H l = some (.lst xs) → H' l = some (.lst xs)) (s : ∀ a xs, H a = some (.tup xs) → H' a = some (.tup xs)) : RecsAt H' l rs := by
  obtain ⟨ts, h1, h2⟩ := h
  exact ⟨ts, hl _ h1, paired_mono (fun _ _ => RecAt.sm s) h2⟩
theorem look_ne {k a : Str} {v : V} {l : List (Str × V)} (h : (k == a) = false) : ((a, v) :: l).lookup k = l.lookup k := by simp [List.lookup, h]
theorem look_eq {k : Str} {v : V} {l : List (Str × V)} : ((k, v) :: l).lookup k = some v := by simp [List.lookup]
theorem fflds_adv (o : Own) (b : Int) : (fflds o b).lookup ("_advances" : Str) = some (.ref o.dA) := look_eq
theorem fflds_krn (o : Own) (b : Int) : (fflds o b).lookup ("_kerns" : Str) = some (.ref o.dN) := (look_ne (by decide +kernel)).trans look_eq
theorem fflds_blank (o : Own) (b : Int) : (fflds o b).lookup ("_blank" : Str) = some (.int b) := (look_ne (by decide +kernel)).trans ((look_ne (by decide +kernel)).trans look_eq)
theorem fflds_past (o : Own) (b : Int) : (fflds o b).lookup ("_past" : Str) = some (.ref o.dP) := (look_ne (by decide +kernel)).trans ((look_ne (by decide +kernel)).trans ((look_ne (by decide +kernel)).trans look_eq))
theorem fflds_no (o : Own) (b : Int) {m : Str} (h1 : (m == ("_advances" : Str)) = false) (h2 : (m == ("_kerns" : Str)) = false) (h3 : (m == ("_blank" : Str)) = false) (h4 : (m == ("_past" : Str)) = false) : (fflds o b).lookup m = none :=
  (look_ne h1).trans ((look_ne h2).trans ((look_ne h3).trans ((look_ne h4).trans rfl)))
theorem putF_ne {k a : Str} {v w : V} {l : List (Str × V)} (h : ¬ a = k) : putF k v ((a, w) :: l) = (a, w) :: putF k v l := by
  show (if a = k then _ else _) = _
  rw [if_neg h]
theorem putF_eq {k : Str} {v w : V} {l : List (Str × V)} : putF k v ((k, w) :: l) = (k, v) :: l := by
  show (if k = k then _ else _) = _
  rw [if_pos rfl]
theorem fflds_put (o : Own) (b n : Int) : putF "_blank" (.int n) (fflds o b) = fflds o n := by
  unfold fflds
  rw [putF_ne (by decide +kernel), putF_ne (by decide +kernel), putF_eq]
theorem fflds_make (o : Own) (b : Int) : putF "_past" (.ref o.dP) (putF "_blank" (.int b) (putF "_kerns" (.ref o.dN) (putF "_advances" (.ref o.dA) []))) = fflds o b := by
  show putF "_past" (.ref o.dP) (putF "_blank" (.int b) (putF "_kerns" (.ref o.dN) [("_advances", .ref o.dA)])) = _
  rw [putF_ne (by decide +kernel)]
  show putF "_past" (.ref o.dP) (putF "_blank" (.int b) [("_advances", .ref o.dA), ("_kerns", .ref o.dN)]) = _
  rw [putF_ne (by decide +kernel), putF_ne (by decide +kernel)]
  show putF "_past" (.ref o.dP) [("_advances", .ref o.dA), ("_kerns", .ref o.dN), ("_blank", .int b)] = _
  rw [putF_ne (by decide +kernel), putF_ne (by decide +kernel), putF_ne (by decide +kernel)]
  rfl
theorem FontAt.kinds {C : Addr} {H : Hp} {p : Addr} {o : Own} {st : FSt} {past : List (List Rec)} (F : FontAt C H p o st past) : p ≠ o.dA ∧ p ≠ o.dN ∧ p ≠ o.dP ∧ o.dA ≠ o.dN ∧ o.dA ≠ o.dP ∧ o.dN ≠ o.dP := by
  obtain ⟨ls, h, _, _⟩ := F.dp
  exact ⟨ne_of F.ob F.da (by intro z; cases z), ne_of F.ob F.dn (by intro z; cases z), ne_of F.ob h (by intro z; cases z), ne_of F.da F.dn (by intro z; cases z), ne_of F.da h (by intro z; cases z), ne_of F.dn h (by intro z; cases z)⟩
/-- what was no part of the font and stood, stands: so the font too, if its own parts do -/
theorem FontAt.sm {C : Addr} {H H' : Hp} {p : Addr} {o : Own} {st : FSt} {past : List (List Rec)} (F : FontAt C H p o st past) (s : Same H H') : FontAt C H' p o st past := by
  obtain ⟨ls, h, h1, h2⟩ := F.dp
  exact ⟨s _ _ F.ob, s _ _ F.da, s _ _ F.dn, ⟨ls, s _ _ h, paired_mono (fun _ _ r => r.sm (fun _ => s _ _) fun _ _ => s _ _) h1, h2⟩, F.small⟩
/-! ### the small methods -/
structure TxF (K : PySem.W.Frag) (mg : Str → Option Value) (C CI fE fW fBt fWr : Addr) : Prop where
  cl : Cls K C
  nA : NoAttr K C "_advances"
  nN : NoAttr K C "_kerns"
  nB : NoAttr K C "_blank"
  nP : NoAttr K C "_past"
  adv : ∃ u, Con K C "MOST_ADVANCE" (.int 1000000) u
  und : ∃ u, Con K C "MOST_UNDO" (.int 50) u
  err : ErrC K mg "InvalidNumber" CI fE
  whole : At K mg "is_whole" fW
  btw : At K mg "check_between" fBt
  wr : At K mg "write" fWr
  len : mg "len" = none
def inR (v : V) (lo hi : Int) : Prop := ∃ n, v = .int n ∧ lo ≤ n ∧ n ≤ hi
def spBetween (K : PySem.W.Frag) (CI : Addr) : Sp := fun vs H Q E => ∃ (v : V) (i b : Bool) (lo hi : Int), vs = [v, .int lo, .int hi] ∧ Kd K H v i b ∧ ((i && !b) = true → ∃ n, v = .int n) ∧ ((i && !b) = false → ∀ n, v ≠ .int n) ∧
  (¬ inR v lo hi → ∀ d, H d = none → E (.ref CI) (some d) (upd H d (.xd [("value", v)]))) ∧ (inR v lo hi → Q .non H)
def spWriteK : Sp := fun vs H Q _ => ∃ (d : Addr) (g : Str) (x : Option Int) (l : AdvL), vs = [.ref d, .str g, ov x] ∧ H d = some (.dK (enc cA l)) ∧ l.length ≤ 1000 ∧
  Q (ov (lget l g)) (upd H d (.dK (enc cA (match x with | none => ldrop l g | some n => lput l g n))))
def spWriteT : Sp := fun vs H Q _ => ∃ (d q : Addr) (k : Str × Str) (x : Option Int) (l : KrnL), vs = [.ref d, .ref q, ov x] ∧ H d = some (.dT (enc cK l)) ∧ H q = some (.tup [.str k.1, .str k.2]) ∧ l.length ≤ 1000 ∧
  Q (ov (lget l k)) (upd H d (.dT (enc cK (match x with | none => ldrop l k | some n => lput l k n))))
theorem upd_id {H : Hp} {d : Addr} {u : HO} (h : H d = some u) : upd H d u = H := by
  funext b
  by_cases e : b = d
  · rw [e, upd_same, h]
  · rw [upd_ne e]
theorem ov_get (x : Option Int) : (x.map V.int).getD .non = ov x := by cases x <;> rfl
theorem ov_isN (x : Option Int) : decide (ov x = .non) = x.isNone := by cases x <;> simp [ov]
theorem ldrop_none {κ : Type} [DecidableEq κ] {l : List (κ × Int)} {k : κ} (h : lget l k = none) : ldrop l k = l := by
  unfold lget at h
  unfold ldrop
  rw [Option.map_eq_none_iff, List.find?_eq_none] at h
  rw [List.filter_eq_self]
  intro p hp
  have := h p hp
  simpa using this
theorem kV_cK (k : Str × Str) : (cK k).map kV = [V.str k.1, V.str k.2] := rfl
section
variable {P : Program} {w : World} {K : PySem.W.Frag} {mg : Str → Option Value} {base : Heap} {C CI fE fW fBt fWr : Addr}
abbrev sIsB : Stmt := top 12
theorem scIsB : FnScope ["value", "low", "high"] ["value", "low", "high"] (defScope sIsB) := ⟨rfl, rfl, rfl, by decide +kernel, rfl, by decide +kernel, by decide +kernel⟩
/-- is_between: the answer of inR -/
def spIsB (K : PySem.W.Frag) : Sp := fun vs H Q _ => ∃ (v : V) (i b : Bool) (lo hi : Int), vs = [v, .int lo, .int hi] ∧ Kd K H v i b ∧ ((i && !b) = true → ∃ n, v = .int n) ∧ ((i && !b) = false → ∀ n, v ≠ .int n) ∧
  (inR v lo hi → Q (.bl true) H) ∧ (¬ inR v lo hi → Q (.bl false) H)
theorem ok_isB {f : Addr} {fd fdW : FuncData} (F : Fun K "is_between" "is_between" sIsB f fd) (T : TxF K mg C CI fE fW fBt fWr) (GW : FnOk P w K mg base CX0 1 fW fdW ["value"] (spWhole K)) (bW : Binds K fdW ["value"] []) :
    FnOk P w K mg base CX0 2 f fd ["value", "low", "high"] (spIsB K) := by
  refine F.ok scIsB (fun vs H Q E h => by obtain ⟨v, i, b, lo, hi, rfl, _⟩ := h; rfl) (fun cdv A outer s H vs Q E hr h => ?_)
  obtain ⟨v, i, b, lo, hi, rfl, kd, h1, h0, kT, kF⟩ := h
  refine ⟨_, pss_one (ps_ret (pe_and (pe_call GW hr (by rfl) T.whole.g T.whole.k bW .nil pass0 (pa_cons (pv 0) pa_nil)) (pe_one (pe_chain op_le op_le (pv 1) (pv 0) (pv 2))))), ?_⟩
  refine ⟨_, rfl, v, i, b, rfl, kd, _, rfl, ?_⟩
  cases hib : (i && !b) with
  | false => exact iteF (kF fun ⟨n, e, _⟩ => h0 hib n e)
  | true =>
    obtain ⟨n, rfl⟩ := h1 hib
    refine iteT ⟨_, rfl, _, rfl, _, _, rfl, rfl, _, rfl, ?_⟩
    refine ite2 (fun hl => ?_) (fun hl => ?_)
    · refine ⟨_, rfl, _, _, rfl, rfl, ?_⟩
      have hl' : lo ≤ n := of_decide_eq_true hl
      by_cases hh : n ≤ hi
      · show Q (.bl (decide (n ≤ hi))) H
        rw [decide_eq_true hh]
        exact kT ⟨n, rfl, hl', hh⟩
      · show Q (.bl (decide (n ≤ hi))) H
        rw [decide_eq_false hh]
        exact kF fun ⟨m, e, _, e2⟩ => by cases e; exact hh e2
    · exact kF fun ⟨m, e, e1, _⟩ => by cases e; exact hl (decide_eq_true e1)
abbrev sBetween : Stmt := top 13
theorem scBetween : FnScope ["value", "low", "high"] ["value", "low", "high"] (defScope sBetween) := ⟨rfl, rfl, rfl, by decide +kernel, rfl, by decide +kernel, by decide +kernel⟩
theorem ok_between {f fI : Addr} {fd fdI fdE : FuncData} (F : Fun K "check_between" "check_between" sBetween f fd) (T : TxF K mg C CI fE fW fBt fWr) (aI : At K mg "is_between" fI) (GI : FnOk P w K mg base CX0 2 fI fdI ["value", "low", "high"] (spIsB K)) (bI : Binds K fdI ["value", "low", "high"] [])
    (GE : FnOk P w K mg base CX0 1 fE fdE ["self", "value"] (spEx1 CI "value")) (bE : Binds K fdE ["self", "value"] []) : FnOk P w K mg base (L2N.CX P w) 3 f fd ["value", "low", "high"] (spBetween K CI) := by
  refine okN F scBetween (fun vs H Q E h => by obtain ⟨v, i, b, lo, hi, rfl, _⟩ := h; rfl) (fun cdv A outer s H vs Q E hr h => ?_)
  obtain ⟨v, i, b, lo, hi, rfl, kd, h1, h0, kE, kQ⟩ := h
  refine ⟨_, pss_one (ps_if (pt_not (pt_val (pe_call GI hr (by rfl) aI.g aI.k bI .nil pass0 (pa_cons (pv 0) (pa_cons (pv 1) (pa_cons (pv 2) pa_nil))))))
    (pss_one (ps_raise1N T.err GE hr bE pass0 rfl (L2N.takes_of rfl rfl rfl rfl) (pv 0) (fun σ H P R h => mono_tVar σ H P R h))) pss_nil), ?_⟩
  refine ⟨_, rfl, _, rfl, _, rfl, v, i, b, lo, hi, rfl, kd, h1, h0, fun hin => ?_, fun hout => ?_⟩
  · exact ⟨_, rfl, iteF (kQ hin)⟩
  · exact ⟨_, rfl, iteT ⟨_, rfl, fun d hd => kE hout d hd⟩⟩
abbrev sWrite : Stmt := top 22
theorem scWrite : FnScope ["table", "key", "value", "old"] ["table", "key", "value"] (defScope sWrite) := ⟨rfl, rfl, rfl, by decide +kernel, rfl, by decide +kernel, by decide +kernel⟩
theorem ok_writeK {f : Addr} {fd : FuncData} (F : Fun K "write" "write" sWrite f fd) : FnOk P w K mg base CX0 1 f fd ["table", "key", "value"] spWriteK := by
  refine F.ok scWrite (fun vs H Q E h => ?_) (fun cdv A outer s H vs Q E hr h => ?_)
  · obtain ⟨d, g, x, l, rfl, _⟩ := h
    rfl
  · obtain ⟨d, g, x, l, rfl, hd, hl, k⟩ := h
    have hu := hu_of hr
    have nd := scWrite.nd
    refine ⟨_, pss_cons (ps_set (i := 3) nd rfl (Or.inl rfl) (pe_dget1 hu (pv 0) (pv 1) ⟨rfl, rfl, rfl, rfl⟩))
      (pss_cons (ps_if (pt_cmp (pc_isN (pv 2))) (pss_one (ps_expr (pe_dpop2 (pv 0) (pv 1) pe_non ⟨rfl, rfl, rfl, rfl⟩))) (pss_one (ps_dput hu (pv 0) (pv 1) (pv 2) rfl)))
      (pss_one (ps_ret (pv 3)))), ?_⟩
    refine ⟨_, rfl, d, rfl, .inl ⟨_, .inl hd⟩, _, rfl, _, DGet.k (k := Sum.inr g) hd, ?_⟩
    rw [show valV (enc cA l) (Sum.inr g : Key) = (lget l g).map V.int from enc_get cA_inj l g, ov_get]
    refine ⟨_, rfl, _, rfl, ?_⟩
    rw [ov_isN]
    cases x with
    | none =>
      refine iteT ⟨_, rfl, d, rfl, .inl ⟨_, .inl hd⟩, _, rfl, _, Sum.inr g, hd, rfl, fun v hv => ?_, fun hn => ?_⟩
      · have e : dropK (enc cA l) (Sum.inr g : Key) = enc cA (ldrop l g) := enc_drop cA_inj l g
        rw [e]
        exact ⟨_, rfl, k⟩
      · rw [show valV (enc cA l) (Sum.inr g : Key) = (lget l g).map V.int from enc_get cA_inj l g, Option.map_eq_none_iff] at hn
        rw [ldrop_none hn, upd_id hd] at k
        exact ⟨_, rfl, k⟩
    | some n =>
      refine iteF ⟨_, rfl, _, rfl, _, rfl, d, _, rfl, DPut.k (k := Sum.inr g) hd (small1000 (by unfold enc; rw [List.length_map]; exact hl)), ?_⟩
      have e : putK (enc cA l) (Sum.inr g : Key) (.int n) = enc cA (lput l g n) := enc_put cA_inj l g n
      rw [show ov (some n) = V.int n from rfl, e]
      exact ⟨_, rfl, k⟩
theorem ok_writeT {f : Addr} {fd : FuncData} (F : Fun K "write" "write" sWrite f fd) : FnOk P w K mg base CX0 1 f fd ["table", "key", "value"] spWriteT := by
  refine F.ok scWrite (fun vs H Q E h => ?_) (fun cdv A outer s H vs Q E hr h => ?_)
  · obtain ⟨d, q, g, x, l, rfl, _⟩ := h
    rfl
  · obtain ⟨d, q, g, x, l, rfl, hd, hq, hl, k⟩ := h
    have hu := hu_of hr
    have nd := scWrite.nd
    have hq' : H q = some (.tup ((cK g).map kV)) := hq
    refine ⟨_, pss_cons (ps_set (i := 3) nd rfl (Or.inl rfl) (pe_dget1 hu (pv 0) (pv 1) ⟨rfl, rfl, rfl, rfl⟩))
      (pss_cons (ps_if (pt_cmp (pc_isN (pv 2))) (pss_one (ps_expr (pe_bm PySem.F.plainAttrs_dict PySem.F.slot_dict_pop PySem.F.type_dict_pop (DX.mt_popT hu) (pv 0) (pa_cons (pv 1) (pa_cons pe_non pa_nil))))) (pss_one (ps_dput hu (pv 0) (pv 1) (pv 2) rfl)))
      (pss_one (ps_ret (pv 3)))), ?_⟩
    refine ⟨_, rfl, d, rfl, .inr ⟨_, .inl hd⟩, _, rfl, _, DGet.t (k := cK g) hd hq', ?_⟩
    rw [enc_get cK_inj l g, ov_get]
    refine ⟨_, rfl, _, rfl, ?_⟩
    rw [ov_isN]
    cases x with
    | none =>
      refine iteT ⟨_, rfl, .inr (.inr (.inl ⟨rfl, .inr ⟨_, hd⟩⟩)), _, rfl, d, _, cK g, q, _, rfl, rfl, hd, hq', fun v hv => ?_, fun hn => ?_⟩
      · rw [enc_drop cK_inj l g]
        exact ⟨_, rfl, k⟩
      · rw [enc_get cK_inj l g, Option.map_eq_none_iff] at hn
        rw [ldrop_none hn, upd_id hd] at k
        exact ⟨_, rfl, k⟩
    | some n =>
      refine iteF ⟨_, rfl, _, rfl, _, rfl, d, _, rfl, DPut.t (k := cK g) hd hq' (small1000 (by unfold enc; rw [List.length_map]; exact hl)), ?_⟩
      rw [show ov (some n) = V.int n from rfl, enc_put cK_inj l g n]
      exact ⟨_, rfl, k⟩
end
/-! ### the small methods of a font -/
theorem noneU {H : Hp} {a b : Addr} {u : HO} (e : upd H a u b = none) : H b = none := by
  by_cases h : b = a
  · rw [h, upd_same] at e
    cases e
  · rwa [upd_ne h] at e
section
variable {C : Addr} {H H' : Hp} {p : Addr} {o : Own} {st st' : FSt} {past : List (List Rec)}
theorem FontAt.keepT (F : FontAt C H p o st past) (k : KeepF p o H H') {a : Addr} {xs : List V} (h : H a = some (.tup xs)) : H' a = some (.tup xs) := by
  obtain ⟨ls, hp, _⟩ := F.dp
  exact k a _ h (ne_of h F.ob (by intro z; cases z)) (ne_of h F.da (by intro z; cases z)) (ne_of h F.dn (by intro z; cases z)) (ne_of h hp (by intro z; cases z))
theorem FontAt.keepL (F : FontAt C H p o st past) (k : KeepF p o H H') {a : Addr} {xs : List V} (h : H a = some (.lst xs)) (ha : a ≠ o.dP) : H' a = some (.lst xs) :=
  k a _ h (ne_of h F.ob (by intro z; cases z)) (ne_of h F.da (by intro z; cases z)) (ne_of h F.dn (by intro z; cases z)) ha
theorem FontAt.recd (F : FontAt C H p o st past) (k : KeepF p o H H') {t : Addr} {r : Rec} (h : RecAt H t r) : RecAt H' t r := RecAt.sm (fun _ _ e => F.keepT k e) h
theorem FontAt.recs (F : FontAt C H p o st past) (k : KeepF p o H H') {l : Addr} {rs : List Rec} (h : RecsAt H l rs) (hl : l ≠ o.dP) : RecsAt H' l rs := h.sm (fun _ e => F.keepL k e hl) fun _ _ e => F.keepT k e
theorem FontAt.put (F : FontAt C H p o st past) (k : KeepF p o H H') (ob : H' p = some (.ins C o.dx (fflds o st'.blank))) (da : H' o.dA = some (.dK (enc cA st'.adv))) (dn : H' o.dN = some (.dT (enc cK st'.krn)))
    (dp : ∀ u, H o.dP = some u → H' o.dP = some u) (sm : st'.adv.length ≤ 1000 ∧ st'.krn.length ≤ 1000) : FontAt C H' p o st' past := by
  obtain ⟨ls, h, h1, h2⟩ := F.dp
  exact ⟨ob, da, dn, ⟨ls, dp _ h, paired_mem h1 fun l hl rs r => F.recs k r (h2 l hl), h2⟩, sm.1, sm.2, F.small.2.2⟩
theorem KeepF.upA (u : HO) : KeepF p o H (upd H o.dA u) := fun a v e _ h _ _ => by rw [upd_ne h]; exact e
theorem KeepF.upN (u : HO) : KeepF p o H (upd H o.dN u) := fun a v e _ _ h _ => by rw [upd_ne h]; exact e
theorem KeepF.upP (u : HO) : KeepF p o H (upd H o.dP u) := fun a v e _ _ _ h => by rw [upd_ne h]; exact e
theorem KeepF.upO (u : HO) : KeepF p o H (upd H p u) := fun a v e h _ _ _ => by rw [upd_ne h]; exact e
end
def setA (st : FSt) (g : Str) (x : Option Int) : FSt := { st with adv := match x with | none => ldrop st.adv g | some n => lput st.adv g n }
def setK (st : FSt) (g : Str × Str) (x : Option Int) : FSt := { st with krn := match x with | none => ldrop st.krn g | some n => lput st.krn g n }
def setB (st : FSt) (n : Int) : FSt := { st with blank := n }
def remember (past : List (List Rec)) (rs : List Rec) : List (List Rec) := if past.length + 1 > 50 then (past ++ [rs]).drop 1 else past ++ [rs]
def spWrA (C : Addr) : Sp := fun vs H Q _ => ∃ (p : Addr) (g : Str) (x : Option Int) (o : Own) (st : FSt) (past : List (List Rec)), vs = [.ref p, .str g, ov x] ∧ FontAt C H p o st past ∧ (setA st g x).adv.length ≤ 1000 ∧
  ∀ H' t, H t = none → KeepF p o H H' → FontAt C H' p o (setA st g x) past → RecAt H' t (.adv g (lget st.adv g)) → Q (.ref t) H'
def spWrK (C : Addr) : Sp := fun vs H Q _ => ∃ (p q : Addr) (g : Str × Str) (x : Option Int) (o : Own) (st : FSt) (past : List (List Rec)), vs = [.ref p, .ref q, ov x] ∧ FontAt C H p o st past ∧ H q = some (.tup [.str g.1, .str g.2]) ∧ (setK st g x).krn.length ≤ 1000 ∧
  ∀ H' t, H t = none → KeepF p o H H' → FontAt C H' p o (setK st g x) past → RecAt H' t (.krn g.1 g.2 (lget st.krn g)) → Q (.ref t) H'
def spPutB (K : PySem.W.Frag) (C CI : Addr) : Sp := fun vs H Q E => ∃ (p : Addr) (v : V) (i b : Bool) (o : Own) (st : FSt) (past : List (List Rec)), vs = [.ref p, v] ∧ FontAt C H p o st past ∧ Kd K H v i b ∧ ((i && !b) = true → ∃ n, v = .int n) ∧ ((i && !b) = false → ∀ n, v ≠ .int n) ∧
  (¬ inR v 0 1000000 → ∀ d, H d = none → E (.ref CI) (some d) (upd H d (.xd [("value", v)]))) ∧
  (∀ n, v = .int n → 0 ≤ n → n ≤ 1000000 → ∀ H' l, H l = none → KeepF p o H H' → FontAt C H' p o (setB st n) past → RecsAt H' l [.blank st.blank] → Q (.ref l) H')
def spRemember (C : Addr) : Sp := fun vs H Q _ => ∃ (p l : Addr) (o : Own) (st : FSt) (past : List (List Rec)) (rs : List Rec), vs = [.ref p, .ref l] ∧ FontAt C H p o st past ∧ RecsAt H l rs ∧ l ≠ o.dP ∧
  ∀ H', KeepF p o H H' → FontAt C H' p o st (remember past rs) → Q .non H'
def spSetB (K : PySem.W.Frag) (C CI : Addr) : Sp := fun vs H Q E => ∃ (p : Addr) (v : V) (i b : Bool) (o : Own) (st : FSt) (past : List (List Rec)), vs = [.ref p, v] ∧ FontAt C H p o st past ∧ Kd K H v i b ∧ ((i && !b) = true → ∃ n, v = .int n) ∧ ((i && !b) = false → ∀ n, v ≠ .int n) ∧
  (¬ inR v 0 1000000 → ∀ d, H d = none → E (.ref CI) (some d) (upd H d (.xd [("value", v)]))) ∧
  (∀ n, v = .int n → 0 ≤ n → n ≤ 1000000 → ∀ H', KeepF p o H H' → FontAt C H' p o (setB st n) (remember past [.blank st.blank]) → Q .non H')
section
variable {P : Program} {w : World} {K : PySem.W.Frag} {mg : Str → Option Value} {base : Heap} {C CI fE fW fBt fWr : Addr}
abbrev sWrA : Stmt := inClass (top 17) 40
theorem scWrA : FnScope ["self", "glyph", "advance"] ["self", "glyph", "advance"] (defScope sWrA) := ⟨rfl, rfl, rfl, by decide +kernel, rfl, by decide +kernel, by decide +kernel⟩
theorem ok_wrA {f : Addr} {fd fdWr : FuncData} (F : Fun K "_write_advance" "Font._write_advance" sWrA f fd) (T : TxF K mg C CI fE fW fBt fWr) (GW : FnOk P w K mg base CX0 1 fWr fdWr ["table", "key", "value"] spWriteK) (bW : Binds K fdWr ["table", "key", "value"] []) :
    FnOk P w K mg base CX0 2 f fd ["self", "glyph", "advance"] (spWrA C) := by
  refine F.ok scWrA (fun vs H Q E h => ?_) (fun cdv A outer s H vs Q E hr h => ?_)
  · obtain ⟨p, g, x, o, st, past, rfl, _⟩ := h
    rfl
  · obtain ⟨p, g, x, o, st, past, rfl, FA, hl, k⟩ := h
    refine ⟨_, pss_one (ps_ret (pe_tup (pa_cons pe_str (pa_cons (pv 1) (pa_cons (pe_call GW hr (by rfl) T.wr.g T.wr.k bW .nil pass0 (pa_cons (pe_fld (pv 0) rfl) (pa_cons (pv 1) (pa_cons (pv 2) pa_nil)))) pa_nil))))), ?_⟩
    refine ⟨_, rfl, _, rfl, p, C, _, _, _, rfl, FA.ob, T.cl, T.nA, fflds_adv _ _, _, rfl, _, rfl, o.dA, g, x, st.adv, rfl, FA.da, FA.small.1, ?_⟩
    refine ⟨by show 3 ≤ sizeLine; decide, fun t ht => ?_⟩
    obtain ⟨k1, k2, k3, k4, k5, k6⟩ := FA.kinds
    have F1 : FontAt C (upd H o.dA (.dK (enc cA (setA st g x).adv))) p o (setA st g x) past :=
      FA.put (KeepF.upA _) ((upd_ne k1).trans FA.ob) upd_same ((upd_ne (Ne.symm k4)).trans FA.dn) (fun u e => (upd_ne (Ne.symm k5)).trans e) ⟨hl, FA.small.2.1⟩
    exact k _ t (noneU ht) ((KeepF.upA _).trans (KeepF.same (same_upd ht))) (F1.sm (same_upd ht)) upd_same
abbrev sWrK : Stmt := inClass (top 17) 41
theorem scWrK : FnScope ["self", "pair", "kern"] ["self", "pair", "kern"] (defScope sWrK) := ⟨rfl, rfl, rfl, by decide +kernel, rfl, by decide +kernel, by decide +kernel⟩
theorem ok_wrK {f : Addr} {fd fdWr : FuncData} (F : Fun K "_write_kern" "Font._write_kern" sWrK f fd) (T : TxF K mg C CI fE fW fBt fWr) (GW : FnOk P w K mg base CX0 1 fWr fdWr ["table", "key", "value"] spWriteT) (bW : Binds K fdWr ["table", "key", "value"] []) :
    FnOk P w K mg base CX0 2 f fd ["self", "pair", "kern"] (spWrK C) := by
  refine F.ok scWrK (fun vs H Q E h => ?_) (fun cdv A outer s H vs Q E hr h => ?_)
  · obtain ⟨p, q, g, x, o, st, past, rfl, _⟩ := h
    rfl
  · obtain ⟨p, q, g, x, o, st, past, rfl, FA, hq, hl, k⟩ := h
    refine ⟨_, pss_one (ps_ret (pe_tup (pa_cons pe_str (pa_cons (pv 1) (pa_cons (pe_call GW hr (by rfl) T.wr.g T.wr.k bW .nil pass0 (pa_cons (pe_fld (pv 0) rfl) (pa_cons (pv 1) (pa_cons (pv 2) pa_nil)))) pa_nil))))), ?_⟩
    refine ⟨_, rfl, _, rfl, p, C, _, _, _, rfl, FA.ob, T.cl, T.nN, fflds_krn _ _, _, rfl, _, rfl, o.dN, q, g, x, st.krn, rfl, FA.dn, hq, FA.small.2.1, ?_⟩
    refine ⟨by show 3 ≤ sizeLine; decide, fun t ht => ?_⟩
    obtain ⟨k1, k2, k3, k4, k5, k6⟩ := FA.kinds
    have F1 : FontAt C (upd H o.dN (.dT (enc cK (setK st g x).krn))) p o (setK st g x) past :=
      FA.put (KeepF.upN _) ((upd_ne k2).trans FA.ob) ((upd_ne k4).trans FA.da) upd_same (fun u e => (upd_ne (Ne.symm k6)).trans e) ⟨FA.small.1, hl⟩
    exact k _ t (noneU ht) ((KeepF.upN _).trans (KeepF.same (same_upd ht))) (F1.sm (same_upd ht)) ⟨q, upd_same, (same_upd ht) _ _ (FA.keepT (KeepF.upN _) hq)⟩
abbrev sPutB : Stmt := inClass (top 17) 34
theorem scPutB : FnScope ["self", "advance", "record"] ["self", "advance"] (defScope sPutB) := ⟨rfl, rfl, rfl, by decide +kernel, rfl, by decide +kernel, by decide +kernel⟩
theorem ok_putB {f : Addr} {fd fdB : FuncData} (F : Fun K "_put_blank" "Font._put_blank" sPutB f fd) (T : TxF K mg C CI fE fW fBt fWr) (GB : FnOk P w K mg base (L2N.CX P w) 3 fBt fdB ["value", "low", "high"] (spBetween K CI)) (bB : Binds K fdB ["value", "low", "high"] []) :
    FnOk P w K mg base (L2N.CX P w) 4 f fd ["self", "advance"] (spPutB K C CI) := by
  obtain ⟨u1, hC⟩ := T.adv
  refine okN F scPutB (fun vs H Q E h => ?_) (fun cdv A outer s H vs Q E hr h => ?_)
  · obtain ⟨p, v, i, b, o, st, past, rfl, _⟩ := h
    rfl
  · obtain ⟨p, v, i, b, o, st, past, rfl, FA, kd, h1, h0, kE, k⟩ := h
    have nd := scPutB.nd
    refine ⟨_, pss_cons (ps_expr (pe_call GB hr (by rfl) T.btw.g T.btw.k bB .nil (L2N.passes_call (L2N.takes_of rfl rfl rfl rfl) (fun _ _ _ _ h => h)) (pa_cons (pv 1) (pa_cons pe_int (pa_cons (pe_con (pv 0) rfl) pa_nil)))))
      (pss_cons (ps_set (i := 2) nd rfl (Or.inl rfl) (pe_tup (pa_cons pe_str (pa_cons pe_str (pa_cons (pe_fld (pv 0) rfl) pa_nil)))))
      (pss_cons (ps_fld (pv 0) (pv 1) rfl) (pss_one (ps_ret (pe_lst (pa_cons (pv 2) pa_nil)))))), ?_⟩
    refine ⟨_, rfl, _, rfl, p, C, _, _, _, _, rfl, FA.ob, T.cl, hC, fflds_no _ _ (by decide +kernel) (by decide +kernel) (by decide +kernel) (by decide +kernel), v, i, b, 0, 1000000, rfl, kd, h1, h0, kE, fun ⟨n, e, n0, n1⟩ => ?_⟩
    subst e
    refine ⟨_, rfl, p, C, _, _, _, rfl, FA.ob, T.cl, T.nB, fflds_blank _ _, by show 3 ≤ sizeLine; decide, fun t ht => ?_⟩
    refine ⟨_, rfl, _, rfl, p, C, _, _, rfl, (same_upd ht) _ _ FA.ob, T.cl, T.nB, (by show 4 < 1000; decide), ?_⟩
    rw [fflds_put]
    refine ⟨_, rfl, by show 1 ≤ sizeLine; decide, fun l hl => ?_⟩
    have F1 := FA.sm (same_upd (o := .tup [.str "blank", .str "", .int st.blank]) ht)
    obtain ⟨k1, k2, k3, k4, k5, k6⟩ := FA.kinds
    have F2 : FontAt C (upd (upd H t (.tup [.str "blank", .str "", .int st.blank])) p (.ins C o.dx (fflds o n))) p o (setB st n) past :=
      F1.put (KeepF.upO _) upd_same ((upd_ne (Ne.symm k1)).trans F1.da) ((upd_ne (Ne.symm k2)).trans F1.dn) (fun u e => (upd_ne (Ne.symm k3)).trans e) ⟨FA.small.1, FA.small.2.1⟩
    refine k n rfl n0 n1 _ l (noneU (noneU hl)) (((KeepF.same (same_upd ht)).trans (KeepF.upO _)).trans (KeepF.same (same_upd hl))) (F2.sm (same_upd hl)) ⟨[t], upd_same, .cons ?_ .nil⟩
    exact (same_upd hl) _ _ (F1.keepT (KeepF.upO _) upd_same)
end
/-! ### a class's own containers -/
section
variable {X : Cx} {C f : Addr} {n : Nat} {fd : FuncData} {ps : List Str} {sp : Sp}
theorem run_in1 {pins : List (Addr × Obj)} {σ : L2.St} {H : Hp} {s : Shared} {Q : VK} {us : List Value} {vs : List V} (F : FnOk X.prog X.w X.K X.mg X.base CX0 n f fd ps sp) (hr : Room (n + 1) X.A) (hb : Binds X.K fd ps []) (I : Inv X pins σ H s) (r : Vals vs us) (h : sp vs H Q E0) {E' : Value → Shared → Prop} :
    wpAny (model X.prog X.w) X.A.in1 (call (.ref f) us) (EP X pins σ Q) E' s := by
  have e0 : Env0 X.prog X.w X.K X.mg X.base X.A.in1 X.stack s H := by
    have e := I.env0
    exact ⟨e.frames, e.mod, e.bs, e.bsz, e.funs, e.frf, e.hok, e.bare⟩
  have hl : us.length = ps.length := by rw [← r.length]; exact F.len _ _ _ _ h
  have b := hb s us I.kIn (by rw [List.append_nil]; exact hl)
  rw [List.append_nil] at b
  refine wpAny_call (codeAny_mono (F.run X.A.in1 X.stack s H ⟨us, []⟩ us vs Q E0 hr.in1 e0 b r h) fun r s' hq => ?_)
  cases r with
  | error e => exact hq.elim
  | ok fl =>
    cases fl with
    | ret w => exact I.after hq
    | next => exact False.elim hq
    | brk => exact False.elim hq
    | cont => exact False.elim hq
/-- len(o) -/
theorem call_lenO (hs : PySem.W.findIn X.K (.ref C) "__len__" = some (some (.ref f))) (hf : PySem.W.isFn X.K (.ref f) = true) (F : FnOk X.prog X.w X.K X.mg X.base CX0 n f fd ps sp) (hb : Binds X.K fd ps []) (hr : Room (n + 1) X.A) :
    CallR X (.builtin "len") (fun xs H Q => ∃ (a dx : Addr) (fs : List (Str × V)), xs = [.ref a] ∧ H a = some (.ins C dx fs) ∧ sp [.ref a] H (fun z H' => ∃ k : Int, z = .int k ∧ 0 ≤ k ∧ k < 2 ^ 63 ∧ Q (.int k) H') E0) := by
  intro pins s σ H xs us Q I r hq
  obtain ⟨a, dx, fs, rfl, ha, hsp⟩ := hq
  cases r with
  | cons rx rr =>
    cases rr
    cases rx
    obtain ⟨mA, OA, _⟩ := ins_get I.hok ha
    obtain ⟨od, J, _⟩ := OA.look
    obtain ⟨m, hF⟩ := I.fr
    refine PySem.W.len_K hF I.ok.mod.kin J hs hf (thn (run_in1 F hr hb I (.cons (show RelV (V.ref a) (Value.ref a) from rfl) .nil) hsp) fun r s' hv => ?_)
    obtain ⟨z, H', I', rz, k, rfl, k0, k1, q⟩ := hv
    obtain ⟨t, rfl⟩ := rz
    exact ⟨⟨k0, k1⟩, .int k, H', I'.tok _, ⟨_, rfl⟩, q⟩
/-- x in o, x not in o -/
theorem op_inO (hs : PySem.W.findIn X.K (.ref C) "__contains__" = some (some (.ref f))) (hf : PySem.W.isFn X.K (.ref f) = true) (F : FnOk X.prog X.w X.K X.mg X.base CX0 n f fd ps sp) (hb : Binds X.K fd ps []) (hr : Room n X.A) :
    OpR X (compareOp .In) (fun x y H Q => ∃ (a dx : Addr) (fs : List (Str × V)), y = .ref a ∧ H a = some (.ins C dx fs) ∧ sp [.ref a, x] H (fun z H' => ∃ b, z = .bl b ∧ Q (.bl b) H') E0) := by
  intro pins s σ H x y v u Q I rx ry hq
  obtain ⟨a, dx, fs, rfl, ha, hsp⟩ := hq
  cases ry
  obtain ⟨mA, OA, _⟩ := ins_get I.hok ha
  obtain ⟨od, J, _⟩ := OA.look
  obtain ⟨m, hF⟩ := I.fr
  refine PySem.W.in_K hF I.ok.mod.kin J hs hf (thn (run_fn (us := [Value.ref a, v]) (vs := [V.ref a, x]) F hr hb .nil pass0 I (.cons (show RelV (V.ref a) (Value.ref a) from rfl) (.cons rx .nil)) hsp) fun r s' hv => ?_)
  obtain ⟨z, H', I', rz, b, rfl, q⟩ := hv
  cases rz
  exact wpAny_truthy_bool ⟨.bl b, H', I', rfl, q⟩
theorem op_notinO (hs : PySem.W.findIn X.K (.ref C) "__contains__" = some (some (.ref f))) (hf : PySem.W.isFn X.K (.ref f) = true) (F : FnOk X.prog X.w X.K X.mg X.base CX0 n f fd ps sp) (hb : Binds X.K fd ps []) (hr : Room n X.A) :
    OpR X (compareOp .NotIn) (fun x y H Q => ∃ (a dx : Addr) (fs : List (Str × V)), y = .ref a ∧ H a = some (.ins C dx fs) ∧ sp [.ref a, x] H (fun z H' => ∃ b, z = .bl b ∧ Q (.bl (!b)) H') E0) := by
  intro pins s σ H x y v u Q I rx ry hq
  obtain ⟨a, dx, fs, rfl, ha, hsp⟩ := hq
  cases ry
  obtain ⟨mA, OA, _⟩ := ins_get I.hok ha
  obtain ⟨od, J, _⟩ := OA.look
  obtain ⟨m, hF⟩ := I.fr
  refine PySem.W.notIn_K hF I.ok.mod.kin J hs hf (thn (run_fn (us := [Value.ref a, v]) (vs := [V.ref a, x]) F hr hb .nil pass0 I (.cons (show RelV (V.ref a) (Value.ref a) from rfl) (.cons rx .nil)) hsp) fun r s' hv => ?_)
  obtain ⟨z, H', I', rz, b, rfl, q⟩ := hv
  cases rz
  exact wpAny_truthy_bool ⟨.bl (!b), H', I', rfl, q⟩
end
/-! ### two helps -/
theorem paired_snoc {α β : Type} {R : α → β → Prop} : ∀ {as : List α} {bs : List β} {a : α} {b : β}, Paired R as bs → R a b → Paired R (as ++ [a]) (bs ++ [b])
  | _, _, _, _, .nil, h => .cons h .nil
  | _, _, _, _, .cons r t, h => .cons r (paired_snoc t h)
theorem foldl_take {α β : Type} (f : β → α → β) (b : β) {l : List α} {i : Nat} {a : α} (h : l[i]? = some a) : (l.take (i + 1)).foldl f b = f ((l.take i).foldl f b) a := by
  rw [List.take_add_one, h, List.foldl_append]
  rfl
/-! ### what a font tells -/
/-- v is a text: t -/
def Ks (K : PySem.W.Frag) (H : Hp) (v : V) (t : Bool) : Prop := ∃ T : String, TyX K H v (.type T) ∧ kitB T "str" = some t
theorem Ks.str {K : PySem.W.Frag} {H : Hp} {z : Str} : Ks K H (.str z) true := ⟨"str", .base (.str z), by decide +kernel⟩
theorem Ks.int {K : PySem.W.Frag} {H : Hp} {n : Int} : Ks K H (.int n) false := ⟨"int", .base (.int n), by decide +kernel⟩
theorem Ks.bl {K : PySem.W.Frag} {H : Hp} {n : Bool} : Ks K H (.bl n) false := ⟨"bool", .base (.bl n), by decide +kernel⟩
theorem Ks.non {K : PySem.W.Frag} {H : Hp} : Ks K H .non false := ⟨"NoneType", .base .non, by decide +kernel⟩
theorem Ks.tup {K : PySem.W.Frag} {H : Hp} {a : Addr} {xs : List V} (e : H a = some (.tup xs)) : Ks K H (.ref a) false := ⟨"tuple", .base (.tup e), by decide +kernel⟩
theorem Ks.lst {K : PySem.W.Frag} {H : Hp} {a : Addr} {xs : List V} (e : H a = some (.lst xs)) : Ks K H (.ref a) false := ⟨"list", .base (.lst e), by decide +kernel⟩
theorem Ks.sm {K : PySem.W.Frag} {H H' : Hp} {v : V} {t : Bool} (s : Same H H') : Ks K H v t → Ks K H' v t := fun ⟨T, ty, k⟩ => ⟨T, TyX.sm s ty, k⟩
/-- v is a glyph of the font -/
def knownV (st : FSt) : V → Bool
  | .str g => (lget st.adv g).isSome
  | _ => false
def IsS (v : V) (t : Bool) : Prop := (t = true → ∃ g, v = .str g) ∧ (t = false → ∀ g, v ≠ .str g)
theorem IsS.str {g : Str} : IsS (.str g) true := ⟨fun _ => ⟨g, rfl⟩, fun h => by cases h⟩
theorem knownV_no {st : FSt} {v : V} (h : ∀ g, v ≠ .str g) : knownV st v = false := by
  cases v <;> first | rfl | exact absurd rfl (h _)
def spHas (K : PySem.W.Frag) (C : Addr) : Sp := fun vs H Q _ => ∃ (p : Addr) (v : V) (t : Bool) (o : Own) (st : FSt) (past : List (List Rec)), vs = [.ref p, v] ∧ FontAt C H p o st past ∧ Ks K H v t ∧ IsS v t ∧ Q (.bl (knownV st v)) H
def spLen (C : Addr) : Sp := fun vs H Q _ => ∃ (p : Addr) (o : Own) (st : FSt) (past : List (List Rec)), vs = [.ref p] ∧ FontAt C H p o st past ∧ Q (.int st.adv.length) H
def spKnown (K : PySem.W.Frag) (C CU : Addr) : Sp := fun vs H Q E => ∃ (p : Addr) (v : V) (t : Bool) (o : Own) (st : FSt) (past : List (List Rec)), vs = [.ref p, v] ∧ FontAt C H p o st past ∧ Ks K H v t ∧ IsS v t ∧
  (knownV st v = false → ∀ d, H d = none → E (.ref CU) (some d) (upd H d (.xd [("glyph", v)]))) ∧ (knownV st v = true → Q .non H)
def spAdvOf (K : PySem.W.Frag) (C CU : Addr) : Sp := fun vs H Q E => ∃ (p : Addr) (v : V) (t : Bool) (o : Own) (st : FSt) (past : List (List Rec)), vs = [.ref p, v] ∧ FontAt C H p o st past ∧ Ks K H v t ∧ IsS v t ∧
  (knownV st v = false → ∀ d, H d = none → E (.ref CU) (some d) (upd H d (.xd [("glyph", v)]))) ∧ (∀ g n, v = .str g → lget st.adv g = some n → Q (.int n) H)
def spGlyphs (C : Addr) : Sp := fun vs H Q _ => ∃ (p : Addr) (o : Own) (st : FSt) (past : List (List Rec)), vs = [.ref p] ∧ FontAt C H p o st past ∧ (∀ e ∈ st.adv, e.1.length ≤ 1000) ∧
  ∀ H' l, Same H H' → H l = none → H' l = some (.lst (((st.adv.map (·.1)).mergeSort (PySem.W.dataLe false kRank)).map V.str)) → Q (.ref l) H'
/-- what the text around a font's readings is -/
structure TxH (K : PySem.W.Frag) (mg : Str → Option Value) (C fHas fLen CU fEU fPl : Addr) : Prop where
  hHas : PySem.W.findIn K (.ref C) "__contains__" = some (some (.ref fHas))
  iHas : PySem.W.isFn K (.ref fHas) = true
  hLen : PySem.W.findIn K (.ref C) "__len__" = some (some (.ref fLen))
  iLen : PySem.W.isFn K (.ref fLen) = true
  eU : ErrC K mg "UnknownGlyph" CU fEU
  mIs : mg "isinstance" = none
  mStr : mg "str" = none
  mList : mg "list" = none
  mSorted : mg "sorted" = none
  pl : mg "font_place" = some (.ref fPl)
section
variable {P : Program} {w : World} {K : PySem.W.Frag} {mg : Str → Option Value} {base : Heap} {C CI fE fW fBt fWr fHas fLen CU fEU fPl : Addr}
abbrev sHas : Stmt := inClass (top 17) 8
theorem scHas : FnScope ["self", "x"] ["self", "x"] (defScope sHas) := ⟨rfl, rfl, rfl, by decide +kernel, rfl, by decide +kernel, by decide +kernel⟩
theorem ok_has {f : Addr} {fd : FuncData} (F : Fun K "__contains__" "Font.__contains__" sHas f fd) (T : TxF K mg C CI fE fW fBt fWr) (U : TxH K mg C fHas fLen CU fEU fPl) : FnOk P w K mg base CX0 1 f fd ["self", "x"] (spHas K C) := by
  refine F.ok scHas (fun vs H Q E h => ?_) (fun cdv A outer s H vs Q E hr h => ?_)
  · obtain ⟨p, v, t, o, st, past, rfl, _⟩ := h
    rfl
  · obtain ⟨p, v, t, o, st, past, rfl, FA, ⟨TT, ty, k1⟩, ⟨s1, s0⟩, k⟩ := h
    have hu := hu_of hr
    refine ⟨_, pss_one (ps_ret (pe_and (pe_callB call_isi (by rfl) U.mIs (by decide +kernel) (pa_cons (pv 1) (pa_cons (pe_bltn (v := .ty "str") (by rfl) U.mStr (by decide +kernel) rfl) pa_nil)))
      (pe_one (pe_cmp (pc_din hu (pv 1) (pe_fld (pv 0) rfl)) rfl)))), ?_⟩
    refine ⟨_, rfl, _, _, _, _, t, rfl, .ty "str", ty, kit_ty k1, t, rfl, ?_⟩
    cases t with
    | false =>
      refine iteF ?_
      rw [knownV_no (s0 rfl)] at k
      exact k
    | true =>
      obtain ⟨g, rfl⟩ := s1 rfl
      refine iteT ⟨_, rfl, _, rfl, p, C, _, _, _, rfl, FA.ob, T.cl, T.nA, fflds_adv _ _, o.dA, _, rfl, DGet.k (k := Sum.inr g) FA.da, ?_⟩
      rw [show valV (enc cA st.adv) (Sum.inr g : Key) = (lget st.adv g).map V.int from enc_get cA_inj st.adv g, Option.isSome_map]
      exact k
abbrev sLen : Stmt := inClass (top 17) 9
theorem scLen : FnScope ["self"] ["self"] (defScope sLen) := ⟨rfl, rfl, rfl, by decide +kernel, rfl, by decide +kernel, by decide +kernel⟩
theorem ok_len {f : Addr} {fd : FuncData} (F : Fun K "__len__" "Font.__len__" sLen f fd) (T : TxF K mg C CI fE fW fBt fWr) : FnOk P w K mg base CX0 1 f fd ["self"] (spLen C) := by
  refine F.ok scLen (fun vs H Q E h => ?_) (fun cdv A outer s H vs Q E hr h => ?_)
  · obtain ⟨p, o, st, past, rfl, _⟩ := h
    rfl
  · obtain ⟨p, o, st, past, rfl, FA, k⟩ := h
    refine ⟨_, pss_one (ps_ret (pe_callB call_lenD (by rfl) T.len PySem.boot_len (pa_cons (pe_fld (pv 0) rfl) pa_nil))), ?_⟩
    refine ⟨_, rfl, p, C, _, _, _, rfl, FA.ob, T.cl, T.nA, fflds_adv _ _, o.dA, _, rfl, FA.da, ?_⟩
    unfold enc
    rw [List.length_map]
    exact k
abbrev sKnown : Stmt := inClass (top 17) 35
theorem scKnown : FnScope ["self", "glyph"] ["self", "glyph"] (defScope sKnown) := ⟨rfl, rfl, rfl, by decide +kernel, rfl, by decide +kernel, by decide +kernel⟩
theorem ok_known {f : Addr} {fd fdH fdE : FuncData} (F : Fun K "_check_known" "Font._check_known" sKnown f fd) (T : TxF K mg C CI fE fW fBt fWr) (U : TxH K mg C fHas fLen CU fEU fPl) (GH : FnOk P w K mg base CX0 1 fHas fdH ["self", "x"] (spHas K C)) (bH : Binds K fdH ["self", "x"] [])
    (GE : FnOk P w K mg base CX0 1 fEU fdE ["self", "glyph"] (spEx1 CU "glyph")) (bE : Binds K fdE ["self", "glyph"] []) : FnOk P w K mg base (L2N.CX P w) 3 f fd ["self", "glyph"] (spKnown K C CU) := by
  refine okN F scKnown (fun vs H Q E h => ?_) (fun cdv A outer s H vs Q E hr h => ?_)
  · obtain ⟨p, v, t, o, st, past, rfl, _⟩ := h
    rfl
  · obtain ⟨p, v, t, o, st, past, rfl, FA, ks, is, kE, kQ⟩ := h
    refine ⟨_, pss_one (ps_if (pt_cmpR (op_notinO U.hHas U.iHas GH bH (hr.mono (by decide))) (pv 1) (pv 0) (by rfl)) (pss_one (ps_raise1N U.eU GE hr bE pass0 rfl (L2N.takes_of rfl rfl rfl rfl) (pv 1) (fun σ H P R h => mono_tVar σ H P R h))) pss_nil), ?_⟩
    refine ⟨_, rfl, _, rfl, p, _, _, rfl, FA.ob, p, v, t, o, st, past, rfl, FA, ks, is, _, rfl, _, rfl, ?_⟩
    cases hk : knownV st v with
    | false => exact iteT ⟨_, rfl, fun d hd => kE hk d hd⟩
    | true => exact iteF (kQ hk)
abbrev sAdvOf : Stmt := inClass (top 17) 15
theorem scAdvOf : FnScope ["self", "glyph"] ["self", "glyph"] (defScope sAdvOf) := ⟨rfl, rfl, rfl, by decide +kernel, rfl, by decide +kernel, by decide +kernel⟩
theorem ok_advOf {f fK : Addr} {fd fdK : FuncData} (F : Fun K "advance_of" "Font.advance_of" sAdvOf f fd) (T : TxF K mg C CI fE fW fBt fWr) (GK : FnOk P w K mg base (L2N.CX P w) 3 fK fdK ["self", "glyph"] (spKnown K C CU)) (bK : Binds K fdK ["self", "glyph"] []) (mK : Meth K C "_check_known" fK) :
    FnOk P w K mg base (L2N.CX P w) 4 f fd ["self", "glyph"] (spAdvOf K C CU) := by
  refine okN F scAdvOf (fun vs H Q E h => ?_) (fun cdv A outer s H vs Q E hr h => ?_)
  · obtain ⟨p, v, t, o, st, past, rfl, _⟩ := h
    rfl
  · obtain ⟨p, v, t, o, st, past, rfl, FA, ks, is, kE, kQ⟩ := h
    have hu := hu_of hr
    refine ⟨_, pss_cons (ps_expr (pe_meth (pv 0) T.cl mK GK hr bK .nil (L2N.passes_call (L2N.takes_of rfl rfl rfl rfl) (fun _ _ _ _ h => h)) (pa_cons (pv 1) pa_nil))) (pss_one (ps_ret (pe_dget hu (pe_fld (pv 0) rfl) (pv 1) (fun _ _ => rfl)))), ?_⟩
    refine ⟨_, rfl, p, _, _, rfl, FA.ob, fflds_no _ _ (by decide +kernel) (by decide +kernel) (by decide +kernel) (by decide +kernel), _, rfl, p, v, t, o, st, past, rfl, FA, ks, is, kE, fun hk => ?_⟩
    obtain ⟨g, rfl⟩ : ∃ g, v = .str g := by
      cases v <;> first | exact ⟨_, rfl⟩ | cases hk
    obtain ⟨n, hn⟩ := Option.isSome_iff_exists.mp (show (lget st.adv g).isSome = true from hk)
    refine ⟨_, rfl, p, C, _, _, _, rfl, FA.ob, T.cl, T.nA, fflds_adv _ _, _, rfl, o.dA, .int n, rfl, ?_, kQ g n rfl hn⟩
    have e : valV (enc cA st.adv) (Sum.inr g : Key) = some (.int n) := by
      rw [show valV (enc cA st.adv) (Sum.inr g : Key) = (lget st.adv g).map V.int from enc_get cA_inj st.adv g, hn]
      rfl
    rw [← e]
    exact DGet.k (k := Sum.inr g) FA.da
abbrev sGlyphs : Stmt := inClass (top 17) 13
theorem scGlyphs : FnScope ["self"] ["self"] (defScope sGlyphs) := ⟨rfl, rfl, rfl, by decide +kernel, rfl, by decide +kernel, by decide +kernel⟩
theorem ok_glyphs {f : Addr} {fd : FuncData} (F : Fun K "glyphs" "Font.glyphs" sGlyphs f fd) (T : TxF K mg C CI fE fW fBt fWr) (U : TxH K mg C fHas fLen CU fEU fPl) (GP : KeyStr P w K mg base fPl kRank) : FnOk P w K mg base CX0 2 f fd ["self"] (spGlyphs C) := by
  refine F.ok scGlyphs (fun vs H Q E h => ?_) (fun cdv A outer s H vs Q E hr h => ?_)
  · obtain ⟨p, o, st, past, rfl, _⟩ := h
    rfl
  · obtain ⟨p, o, st, past, rfl, FA, hl, k⟩ := h
    refine ⟨_, pss_one (ps_ret (pe_callBK (cr_sortedK (f := fPl) (val := V.str) (ok := fun _ _ x => x.length ≤ 1000) (k := kRank) rfl hr) (by rfl) U.mSorted (by decide +kernel) (pa_cons (pe_callTy (call_list_dK rfl) (by rfl) U.mList (by decide +kernel) (pa_cons (pe_fld (pv 0) rfl) pa_nil)) pa_nil)
      (pk_cons (pe_glob (v := .ref fPl) (by rfl) U.pl rfl) pk_nil))), ?_⟩
    refine ⟨_, rfl, p, C, _, _, _, rfl, FA.ob, T.cl, T.nA, fflds_adv _ _, o.dA, _, rfl, FA.da, fun q hq => ?_⟩
    refine ⟨q, st.adv.map (·.1), rfl, rfl, ?_, keyFn_str GP (fun x hx => ?_), fun l hl2 => ?_⟩
    · refine SqL.of (upd_same.trans ?_)
      unfold enc
      rw [List.map_map, List.map_map]
      rfl
    · obtain ⟨e, he, rfl⟩ := List.mem_map.mp hx
      exact hl e he
    · refine k _ l ((same_upd hq).trans (same_upd hl2)) (noneU hl2) upd_same
end
/-! ### pairs of texts, sorted -/
def kPr (g : Str × Str) : PyData := .tuple [.str g.1, .str g.2]
def sortP (gs : List (Str × Str)) : List (Str × Str) := gs.mergeSort (PySem.W.dataLe false kPr)
section
open PySem.W PyProof.Rows
theorem cr_sortedPS {X : Cx} (hr : Room 1 X.A) : CallR X (.builtin "sorted") (fun vs H Q => ∃ (a : Addr) (xs : List (Addr × (Str × Str))), vs = [.ref a] ∧ SqL X.K H a (xs.map fun x => V.ref x.1) ∧ (∀ x ∈ xs, H x.1 = some (.tup [.str x.2.1, .str x.2.2])) ∧
    ∀ p, H p = none → Q (.ref p) (upd H p (.lst ((xs.mergeSort (dataLe false fun x => kPr x.2)).map fun x => V.ref x.1)))) := by
  intro pins s σ H vs us Q I rv hq
  obtain ⟨a, xs, rfl, hS, hx, q⟩ := hq
  obtain ⟨u1, rfl, r1⟩ := vals1 rv
  cases r1
  obtain ⟨its, rits, pl, hz⟩ := I.list hS
  have hl : xs.length ≤ sizeLine := by rw [List.length_map] at hz; exact hz
  have hun := hr.un
  have go : ∀ {us : List Value} {xs : List (Addr × (Str × Str))}, (∀ x ∈ xs, H x.1 = some (.tup [.str x.2.1, .str x.2.2])) → Vals (xs.map fun x => V.ref x.1) us → EachIs (fun u x => RelV (V.ref x.1) u) us xs ∧ EachIs (fun v x => ∃ as, Reads s.heap v (kPr x.2) as) us xs := by
    intro us xs
    induction xs generalizing us with
    | nil => intro _ r; cases r; exact ⟨.nil, .nil⟩
    | cons x xs ih =>
      intro hx r
      cases r with
      | cons r1 r2 =>
        obtain ⟨e1, e2⟩ := ih (fun y hy => hx y (List.mem_cons_of_mem _ hy)) r2
        refine ⟨.cons r1 e1, .cons ?_ e2⟩
        cases r1
        obtain ⟨ts, rts, ⟨o, ho, hc, n, hd⟩, _⟩ := I.tuple (SqT.of (K := X.K) (hx x List.mem_cons_self))
        refine ⟨[], .tuple ho hc hd ?_⟩
        cases rts with
        | cons a1 rr =>
          cases rr with
          | cons a2 rr =>
            cases rr
            obtain ⟨t1, rfl⟩ := a1
            obtain ⟨t2, rfl⟩ := a2
            exact .cons (.str _ _) (.cons (.str _ _) .nil)
  obtain ⟨e, er⟩ := go hx rits
  refine sorted_data (enc := fun x : Addr × (Str × Str) => kPr x.2) pl.isList e er (AllAlike.of fun _ _ => by simp [alike, alikeAll, kPr]) (Sortable.tuples fun _ => ⟨_, _, rfl⟩) hl (fun x _ => ?_) fun out ho eo => ?_
  · have : (kPr x.2).depth ≤ 8 := by simp [kPr, PyData.depth, PyData.depthAll]
    omega
  · obtain ⟨c, hc⟩ := sortedAll_at s.heap its out.toArray
    have hf : H (s.heap.objs.size + 1) = none := I.hok.fresh (Nat.le_succ _)
    refine ⟨.ref (s.heap.objs.size + 1), upd H (s.heap.objs.size + 1) (.lst ((xs.mergeSort (dataLe false fun x => kPr x.2)).map fun x => V.ref x.1)), I.laid (t' := s.toks) (fun _ _ => sortedAll_old) (Nat.le_succ _) ?_, rfl, q _ hf⟩
    refine ⟨?_, out, c, ?_, hc⟩
    · rw [List.length_map, List.length_mergeSort]
      exact hl
    · have go2 : ∀ {us : List Value} {xs : List (Addr × (Str × Str))}, EachIs (fun u x => RelV (V.ref x.1) u) us xs → Vals (xs.map fun x => V.ref x.1) us := by
        intro us xs h
        induction h with
        | nil => exact .nil
        | cons r _ ih => exact .cons r ih
      exact go2 eo
/-- the pairs alone, sorted -/
theorem sort_snd (xs : List (Addr × (Str × Str))) : (xs.mergeSort (dataLe false fun x => kPr x.2)).map (·.2) = sortP (xs.map (·.2)) := by
  unfold sortP
  exact List.map_mergeSort fun a _ b _ => rfl
end
theorem keys_pairs {H : Hp} : ∀ {l : KrnL} {bs : List Addr}, IsKeys H (enc cK l) bs → ∃ xs : List (Addr × (Str × Str)), bs.map V.ref = xs.map (fun x => V.ref x.1) ∧ xs.map (·.2) = l.map (·.1) ∧ ∀ x ∈ xs, H x.1 = some (.tup [.str x.2.1, .str x.2.2])
  | [], _, .nil => ⟨[], rfl, rfl, fun x hx => by cases hx⟩
  | (g, n) :: l, b :: bs, .cons h t => by
    obtain ⟨xs, e1, e2, e3⟩ := keys_pairs (l := l) t
    refine ⟨(b, g) :: xs, ?_, ?_, ?_⟩
    · rw [List.map_cons, List.map_cons, e1]
    · rw [List.map_cons, List.map_cons, e2]
    · intro x hx
      rcases List.mem_cons.mp hx with e | hx
      · rw [e]
        exact h
      · exact e3 x hx
def kernOf (l : KrnL) (g : Str × Str) : Int := (lget l g).getD 0
def spKerns (C : Addr) : Sp := fun vs H Q _ => ∃ (p : Addr) (o : Own) (st : FSt) (past : List (List Rec)), vs = [.ref p] ∧ FontAt C H p o st past ∧
  ∀ H' l (ts : List Addr), Same H H' → H l = none → H' l = some (.lst (ts.map V.ref)) → Paired (fun t g => H' t = some (.tup [.str g.1, .str g.2, .int (kernOf st.krn g)])) ts (sortP (st.krn.map (·.1))) → Q (.ref l) H'
theorem mem_sortP {gs : List (Str × Str)} {g : Str × Str} : g ∈ sortP gs ↔ g ∈ gs := by
  unfold sortP
  exact List.mem_mergeSort
theorem lget_of_mem {κ : Type} [DecidableEq κ] {l : List (κ × Int)} {k : κ} (h : k ∈ l.map (·.1)) : ∃ n, lget l k = some n := by
  obtain ⟨p, hp, rfl⟩ := List.mem_map.mp h
  unfold lget
  cases e : l.find? fun q => decide (q.1 = p.1) with
  | none =>
    rw [List.find?_eq_none] at e
    exact absurd (decide_eq_true rfl) (e p hp)
  | some q => exact ⟨q.2, rfl⟩
theorem paired_take {α β : Type} {R : α → β → Prop} : ∀ {as : List α} {bs : List β} (n : Nat), Paired R as bs → Paired R (as.take n) (bs.take n)
  | _, _, 0, _ => by rw [List.take_zero, List.take_zero]; exact .nil
  | _, _, _ + 1, .nil => .nil
  | _, _, n + 1, .cons r t => .cons r (paired_take n t)
section
variable {P : Program} {w : World} {K : PySem.W.Frag} {mg : Str → Option Value} {base : Heap} {C CI fE fW fBt fWr fHas fLen CU fEU fPl : Addr}
abbrev sKerns : Stmt := inClass (top 17) 14
theorem scKerns : FnScope ["self", "left", "right"] ["self"] (defScope sKerns) := ⟨rfl, rfl, rfl, by decide +kernel, rfl, by decide +kernel, by decide +kernel⟩
theorem ok_kerns {f : Addr} {fd : FuncData} (F : Fun K "kerns" "Font.kerns" sKerns f fd) (T : TxF K mg C CI fE fW fBt fWr) (U : TxH K mg C fHas fLen CU fEU fPl) : FnOk P w K mg base CX0 2 f fd ["self"] (spKerns C) := by
  refine F.ok scKerns (fun vs H Q E h => ?_) (fun cdv A outer s H vs Q E hr h => ?_)
  · obtain ⟨p, o, st, past, rfl, _⟩ := h
    rfl
  · obtain ⟨p, o, st, past, rfl, FA, k⟩ := h
    have hu := hu_of hr
    have nd := scKerns.nd
    refine ⟨_, pss_one (ps_ret (pe_lc (own := [("left", 1), ("right", 2)]) (g := gTup K 2 (gCons (gName 1) (gCons (gName 2) gNil))) (tt := tYes) (te := tTup (tCons (tVar 1) (tCons (tVar 2) (tCons (tDGet (tFld K (tVar 0) "_kerns") (tTup (tCons (tVar 1) (tCons (tVar 2) tNil)))) tNil)))) rfl nd (pi_list (pe_callB (cr_sortedPS hr) (by rfl) U.mSorted (by decide +kernel) (pa_cons (pe_callTy (call_list_dT rfl) (by rfl) U.mList (by decide +kernel) (pa_cons (pe_fld (pv 0) rfl) pa_nil)) pa_nil)))
      (blkOk_by (N := ["self", "left", "right"]) (sc := defScope sKerns) (by decide +kernel))
      (fun _ _ _ _ _ => pg_tup rfl (pgs_cons (pg_name (i := 1) nd rfl (Or.inl rfl)) (pgs_cons (pg_name (i := 2) nd rfl (Or.inl rfl)) pgs_nil)))
      (fun _ _ _ _ _ => pts_nil)
      (fun _ _ _ _ _ => pe_tup (pa_cons (pv 1) (pa_cons (pv 2) (pa_cons (pe_dget hu (pe_fld (pv 0) rfl) (pe_tup (pa_cons (pv 1) (pa_cons (pv 2) pa_nil))) (fun _ _ => rfl)) pa_nil)))))), ?_⟩
    refine ⟨_, rfl, p, C, _, _, _, rfl, FA.ob, T.cl, T.nN, fflds_krn _ _, o.dN, _, rfl, .inl FA.dn, fun q bs hq hk => ?_⟩
    obtain ⟨xs, e1, e2, e3⟩ := keys_pairs hk
    rw [e1]
    refine ⟨q, xs, rfl, SqL.of upd_same, fun x hx => (same_upd hq) _ _ (e3 x hx), fun q2 hq2 => ⟨q2, rfl, ⟨_, SqL.of upd_same⟩, fun D hD => ?_⟩⟩
    have hss := sort_snd xs
    rw [e2] at hss
    generalize hys : xs.mergeSort (PySem.W.dataLe false fun x => kPr x.2) = ys at hss hD ⊢
    have hyx : ∀ y ∈ ys, y ∈ xs := fun y hy => by rw [← hys] at hy; exact List.mem_mergeSort.mp hy
    obtain ⟨H1, eH1⟩ : ∃ H1, H1 = upd (upd H q (.lst (xs.map fun x => V.ref x.1))) q2 (.lst (ys.map fun x => V.ref x.1)) := ⟨_, rfl⟩
    rw [← eH1] at hD ⊢
    have s01 : Same H H1 := by
      rw [eH1]
      exact (same_upd hq).trans (same_upd hq2)
    have hq2' : H1 q2 = some (.lst (ys.map fun x => V.ref x.1)) := by rw [eH1]; exact upd_same
    have hDH : H D = none := by
      rw [eH1] at hD
      exact noneU (noneU hD)
    refine lc_list (K := K) (a := q2) (xs := ys.map fun x => V.ref x.1) (fun i H' => Same H1 H' ∧ ∃ ts : List Addr, ts.length = i ∧ H' D = some (.lst (ts.map V.ref)) ∧ Paired (fun t g => H' t = some (.tup [.str g.1, .str g.2, .int (kernOf st.krn g)])) ts ((ys.map (·.2)).take i))
      ⟨same_upd hD, [], rfl, upd_same, .nil⟩ (fun i H' _ ⟨s1, _⟩ => SqL.of (s1 _ _ hq2')) ?_ ?_
    · rintro i x H' hx ⟨s1, ts, hlen, hD', pr⟩
      rw [List.getElem?_map, Option.map_eq_some_iff] at hx
      obtain ⟨y, hy, rfl⟩ := hx
      have hym : y ∈ ys := List.mem_of_getElem? hy
      have sH := s01.trans s1
      have hy1 : H' y.1 = some (.tup [.str y.2.1, .str y.2.2]) := sH _ _ (by
        have := e3 y (hyx y hym)
        exact this)
      obtain ⟨n, hn⟩ := lget_of_mem (l := st.krn) (k := y.2) (by rw [← e2]; exact List.mem_map.mpr ⟨y, hyx y hym, rfl⟩)
      have F1 := FA.sm sH
      refine ⟨y.1, _, rfl, SqT.of hy1, rfl, _, _, rfl, _, _, rfl, rfl, rfl, ?_⟩
      refine ⟨_, rfl, _, rfl, _, rfl, p, C, _, _, _, rfl, F1.ob, T.cl, T.nN, fflds_krn _ _, _, rfl, _, rfl, (by show 2 ≤ sizeLine; decide), fun z hz => ?_⟩
      have F2 := F1.sm (same_upd (o := .tup [.str y.2.1, .str y.2.2]) hz)
      refine ⟨o.dN, .int n, rfl, ?_, (by show 3 ≤ sizeLine; decide), fun t ht => ?_⟩
      · have e : valV (enc cK st.krn) (cK y.2) = some (.int n) := by
          rw [enc_get cK_inj st.krn y.2, hn]
          rfl
        rw [← e]
        exact DGet.t (k := cK y.2) F2.dn upd_same
      · have sz : Same H' (upd (upd H' z (.tup [.str y.2.1, .str y.2.2])) t (.tup [.str y.2.1, .str y.2.2, .int n])) := (same_upd hz).trans (same_upd ht)
        have hD2 := sz _ _ hD'
        refine ⟨_, hD2, ?_, ?_⟩
        · rw [List.length_map, hlen]
          have h1 : i < ys.length := (List.getElem?_eq_some_iff.mp hy).1
          have h2 : ys.length = st.krn.length := by
            have := congrArg List.length e2
            rw [List.length_map, List.length_map] at this
            rw [← hys, List.length_mergeSort, this]
          have h3 := FA.small.2.1
          have h4 : (sizeLine : Nat) = 16777216 := sizeLine_eq
          omega
        · have hnD : ∀ b, b ≠ D → upd (upd (upd H' z (.tup [.str y.2.1, .str y.2.2])) t (.tup [.str y.2.1, .str y.2.2, .int n])) D (.lst (ts.map V.ref ++ [V.ref t])) b = upd (upd H' z (.tup [.str y.2.1, .str y.2.2])) t (.tup [.str y.2.1, .str y.2.2, .int n]) b := fun b hb => upd_ne hb
          have tup_ne : ∀ {b : Addr} {vs : List V}, upd (upd H' z (.tup [.str y.2.1, .str y.2.2])) t (.tup [.str y.2.1, .str y.2.2, .int n]) b = some (.tup vs) → b ≠ D := fun hb => ne_of hb hD2 (by intro z; cases z)
          refine ⟨fun b u e => ?_, ts ++ [t], by rw [List.length_append, hlen]; rfl, ?_, ?_⟩
          · rw [hnD b (fun z => by rw [z, hD] at e; cases e)]
            exact sz _ _ (s1 _ _ e)
          · rw [upd_same, List.map_append]
            rfl
          · have et : (ys.map (·.2)).take (i + 1) = (ys.map (·.2)).take i ++ [y.2] := by
              rw [List.take_add_one, List.getElem?_map, hy]
              rfl
            rw [et]
            refine paired_snoc (paired_mono (fun t' g h => ?_) pr) ?_
            · have := sz _ _ h
              rw [hnD t' (tup_ne this)]
              exact this
            · have h0 : upd (upd H' z (.tup [.str y.2.1, .str y.2.2])) t (.tup [.str y.2.1, .str y.2.2, .int n]) t = some (.tup [.str y.2.1, .str y.2.2, .int n]) := upd_same
              rw [hnD t (tup_ne h0), h0]
              show _ = some (HO.tup [V.str y.2.1, V.str y.2.2, V.int (kernOf st.krn y.2)])
              unfold kernOf
              rw [hn]
              rfl
    · rintro H' ⟨s1, ts, hlen, hD', pr⟩
      refine k H' D ts (s01.trans s1) hDH hD' ?_
      rw [← hss]
      rw [List.take_of_length_le (by rw [List.length_map, List.length_map]; exact Nat.le_refl _)] at pr
      exact pr
end
/-! ### names, letters, ligatures -/
def nameB (g : Str) : Bool := decide (g.length ≤ 6) && (Txt.isascii g && (Txt.isalpha g && Txt.islower g))
def nameV : V → Bool
  | .str g => nameB g
  | _ => false
theorem nameV_no {v : V} (h : ∀ g, v ≠ .str g) : nameV v = false := by
  cases v <;> first | rfl | exact absurd rfl (h _)
def spName (K : PySem.W.Frag) : Sp := fun vs H Q _ => ∃ (v : V) (t : Bool), vs = [v] ∧ Ks K H v t ∧ IsS v t ∧ (∀ g, v = .str g → g.length ≤ sizeLine) ∧ Q (.bl (nameV v)) H
def glyphsOf (st : FSt) : List Str := (st.adv.map (·.1)).mergeSort (PySem.W.dataLe false kRank)
def spLigs (C : Addr) : Sp := fun vs H Q _ => ∃ (p : Addr) (o : Own) (st : FSt) (past : List (List Rec)), vs = [.ref p] ∧ FontAt C H p o st past ∧ (∀ e ∈ st.adv, e.1.length ≤ 1000) ∧
  ∀ H' l, Same H H' → H l = none → H' l = some (.lst (((glyphsOf st).filter fun g => decide ((1 : Int) < (g.length : Int))).map V.str)) → Q (.ref l) H'
theorem take_filter {α : Type} (f : α → Bool) {l : List α} {i : Nat} {a : α} (h : l[i]? = some a) : (l.take (i + 1)).filter f = (l.take i).filter f ++ (if f a = true then [a] else []) := by
  rw [List.take_add_one, h, List.filter_append]
  congr 1
  show [a].filter f = _
  rw [List.filter_cons]
  rfl
section
variable {P : Program} {w : World} {K : PySem.W.Frag} {mg : Str → Option Value} {base : Heap} {C CI fE fW fBt fWr fHas fLen CU fEU fPl : Addr}
abbrev sName : Stmt := top 20
theorem scName : FnScope ["value"] ["value"] (defScope sName) := ⟨rfl, rfl, rfl, by decide +kernel, rfl, by decide +kernel, by decide +kernel⟩
/-- what the text says of Font as a value -/
structure FontC (K : PySem.W.Frag) (mg : Str → Option Value) (C : Addr) (mc : Value) : Prop where
  g : mg "Font" = some (.ref C)
  rd : ClX.CRead K C mc
  six : ∃ u, ClX.CVal K C mc "MOST_LETTERS" (.int 6) u
theorem ok_name {f : Addr} {fd : FuncData} {mc : Value} (F : Fun K "is_glyph_name" "is_glyph_name" sName f fd) (FC : FontC K mg C mc) (mIs : mg "isinstance" = none) (mS : mg "str" = none) (mL : mg "len" = none) : FnOk P w K mg base CX0 1 f fd ["value"] (spName K) := by
  obtain ⟨u6, h6⟩ := FC.six
  refine F.ok scName (fun vs H Q E h => ?_) (fun cdv A outer s H vs Q E hr h => ?_)
  · obtain ⟨v, t, rfl, _⟩ := h
    rfl
  · obtain ⟨v, t, rfl, ⟨T, ty, k1⟩, ⟨s1, s0⟩, hz, k⟩ := h
    refine ⟨_, pss_cons (ps_if (PW.pt (pw_or (pt_not (pt_val (pe_callB call_isi (by rfl) mIs (by decide +kernel) (pa_cons (pv 0) (pa_cons (pe_bltn (v := .ty "str") (by rfl) mS (by decide +kernel) rfl) pa_nil)))))
        (pw_or1 (pt_cmpR op_gt (pe_callB call_len_str (by rfl) mL PySem.boot_len (pa_cons (pv 0) pa_nil)) (ClX.pe_cval (pe_glob (v := .ref C) (by rfl) FC.g rfl)) (nomark _))))) (pss_one (ps_ret pe_bl)) pss_nil)
      (pss_one (ps_ret (pe_and (pe_bm0 PySem.F.plainAttrs_str PySem.F.slot_str_isascii PySem.F.type_str_isascii mt_isascii (pv 0))
        (pe_and (pe_bm0 PySem.F.plainAttrs_str PySem.F.slot_str_isalpha PySem.F.type_str_isalpha mt_isalpha (pv 0)) (pe_one (pe_bm0 PySem.F.plainAttrs_str PySem.F.slot_str_islower PySem.F.type_str_islower mt_islower (pv 0))))))), ?_⟩
    refine ⟨_, rfl, _, _, _, _, t, rfl, .ty "str", ty, kit_ty k1, t, rfl, ?_⟩
    cases t with
    | false =>
      rw [nameV_no (s0 rfl)] at k
      exact iteT (iteT k)
    | true =>
      obtain ⟨g, rfl⟩ := s1 rfl
      refine iteF ⟨_, rfl, g, rfl, hz g rfl, C, mc, .int 6, u6, rfl, FC.rd, h6, _, _, rfl, rfl, _, rfl, ?_⟩
      refine ite2 (fun hl => ?_) (fun hl => ?_)
      · have hl' : (6 : Int) < (g.length : Int) := of_decide_eq_true hl
        have e : nameV (.str g) = false := by
          show (decide (g.length ≤ 6) && _) = false
          rw [decide_eq_false (by omega)]
          rfl
        rw [e] at k
        exact k
      · have hl' : ¬ (6 : Int) < (g.length : Int) := fun z => hl (decide_eq_true z)
        have e : nameV (.str g) = (Txt.isascii g && (Txt.isalpha g && Txt.islower g)) := by
          show (decide (g.length ≤ 6) && _) = _
          rw [decide_eq_true (by omega)]
          rfl
        rw [e] at k
        refine ⟨_, rfl, rfl, g, rfl, rfl, trivial, _, rfl, ?_⟩
        cases ha : Txt.isascii g with
        | false => rw [ha] at k; exact iteF k
        | true =>
          rw [ha] at k
          refine iteT ⟨_, rfl, rfl, g, rfl, rfl, trivial, _, rfl, ?_⟩
          cases hb : Txt.isalpha g with
          | false => rw [hb] at k; exact iteF k
          | true =>
            rw [hb] at k
            exact iteT ⟨_, rfl, rfl, g, rfl, rfl, trivial, k⟩
abbrev sLigs : Stmt := inClass (top 17) 18
theorem scLigs : FnScope ["self", "glyph"] ["self"] (defScope sLigs) := ⟨rfl, rfl, rfl, by decide +kernel, rfl, by decide +kernel, by decide +kernel⟩
theorem ok_ligs {f fG : Addr} {fd fdG : FuncData} (F : Fun K "ligatures" "Font.ligatures" sLigs f fd) (T : TxF K mg C CI fE fW fBt fWr) (GG : FnOk P w K mg base CX0 2 fG fdG ["self"] (spGlyphs C)) (bG : Binds K fdG ["self"] []) (mG : Meth K C "glyphs" fG) : FnOk P w K mg base CX0 3 f fd ["self"] (spLigs C) := by
  refine F.ok scLigs (fun vs H Q E h => ?_) (fun cdv A outer s H vs Q E hr h => ?_)
  · obtain ⟨p, o, st, past, rfl, _⟩ := h
    rfl
  · obtain ⟨p, o, st, past, rfl, FA, hl, k⟩ := h
    have nd := scLigs.nd
    refine ⟨_, pss_one (ps_ret (pe_lc (own := [("glyph", 1)]) (g := gName 1) (tt := tTest (tOp (rI0 fun i j => .bl (decide (j < i))) (tCB (fun xs H Q => ∃ z, xs = [.str z] ∧ z.length ≤ sizeLine ∧ Q (.int z.length) H) (tCons (tVar 1) tNil)) (tC (.int 1)))) (te := tVar 1) rfl nd (pi_list (pe_meth0 (pv 0) T.cl mG GG hr bG .nil pass0))
      (blkOk_by (N := ["self", "glyph"]) (sc := defScope sLigs) (by decide +kernel))
      (fun _ _ _ _ _ => pg_name (i := 1) nd rfl (Or.inl rfl))
      (fun _ _ _ _ _ => pts_one (pt_cmpR op_gt (pe_callB call_len_str (by rfl) T.len PySem.boot_len (pa_cons (pv 1) pa_nil)) pe_int (nomark _)))
      (fun _ _ _ _ _ => pv 1))), ?_⟩
    refine ⟨_, rfl, p, _, _, rfl, FA.ob, fflds_no _ _ (by decide +kernel) (by decide +kernel) (by decide +kernel) (by decide +kernel), p, o, st, past, rfl, FA, hl, fun H1 q s01 hq hq1 => ⟨q, rfl, ⟨_, SqL.of hq1⟩, fun D hD => ?_⟩⟩
    have hDH : H D = none := by
      cases e : H D with
      | none => rfl
      | some u => rw [s01 _ _ e] at hD; cases hD
    have hlen : (glyphsOf st).length ≤ 1000 := by
      unfold glyphsOf
      rw [List.length_mergeSort, List.length_map]
      exact FA.small.1
    have hmem : ∀ g ∈ glyphsOf st, g.length ≤ 1000 := fun g hg => by
      obtain ⟨e, he, rfl⟩ := List.mem_map.mp (List.mem_mergeSort.mp hg)
      exact hl e he
    have h4 : (sizeLine : Nat) = 16777216 := sizeLine_eq
    refine lc_list (K := K) (a := q) (xs := (glyphsOf st).map V.str) (fun i H' => (∀ b u, b ≠ D → H1 b = some u → H' b = some u) ∧ H' D = some (.lst ((((glyphsOf st).take i).filter fun g => decide ((1 : Int) < (g.length : Int))).map V.str)))
      ⟨fun b u hb e => (upd_ne hb).trans e, upd_same⟩ (fun i H' _ ⟨s1, _⟩ => SqL.of (s1 _ _ (fun z => by rw [z, hD] at hq1; cases hq1) hq1)) ?_ ?_
    · rintro i x H' hx ⟨s1, hD'⟩
      rw [List.getElem?_map, Option.map_eq_some_iff] at hx
      obtain ⟨g, hg, rfl⟩ := hx
      have hgl := hmem g (List.mem_of_getElem? hg)
      refine ⟨rfl, _, rfl, g, rfl, by omega, _, _, rfl, rfl, _, rfl, ?_⟩
      rw [take_filter _ hg]
      refine ite2 (fun hb => ?_) (fun hb => ?_)
      · rw [if_pos hb]
        refine ⟨_, rfl, _, hD', ?_, fun b u hb' e => (upd_ne hb').trans (s1 b u hb' e), ?_⟩
        · rw [List.length_map]
          have h1 := List.length_filter_le (fun g : Str => decide ((1 : Int) < (g.length : Int))) ((glyphsOf st).take i)
          have h2 : ((glyphsOf st).take i).length ≤ (glyphsOf st).length := by rw [List.length_take]; exact Nat.min_le_right _ _
          omega
        · rw [upd_same, List.map_append]
          rfl
      · rw [if_neg hb, List.append_nil]
        exact ⟨s1, hD'⟩
    · rintro H' ⟨s1, hD'⟩
      refine k H' D (fun b u e => s1 b u (fun z => by rw [z, hDH] at e; cases e) (s01 b u e)) hDH ?_
      rw [List.take_of_length_le (by rw [List.length_map]; exact Nat.le_refl _)] at hD'
      exact hD'
end
/-! ### the checks of an advance -/
theorem pss_no {X : Cx} {body : List Stmt} : PSs X body (fun _ _ _ => False) := ⟨fun _ _ _ _ _ _ h => h.elim⟩
def chars (g : Str) : List Str := g.cps.toList.map fun c => ⟨#[c]⟩
/-- the first letter of the glyph that the font does not have -/
def missing (st : FSt) (g : Str) : Option Str := (chars g).find? fun c => !(lget st.adv c).isSome
def ligsOf (st : FSt) : List Str := (glyphsOf st).filter fun g => decide ((1 : Int) < (g.length : Int))
def spLetters (C CU : Addr) : Sp := fun vs H Q E => ∃ (p : Addr) (g : Str) (o : Own) (st : FSt) (past : List (List Rec)), vs = [.ref p, .str g] ∧ FontAt C H p o st past ∧ g.length ≤ 1000 ∧
  (1 < g.length → ∀ c, missing st g = some c → ∀ d, H d = none → E (.ref CU) (some d) (upd H d (.xd [("glyph", .str c)]))) ∧ (g.length ≤ 1 ∨ missing st g = none → Q .non H)
def roomless (st : FSt) (g : Str) : Bool := decide (1 < g.length) && (!(lget st.adv g).isSome && decide (40 ≤ (ligsOf st).length))
def spRoom (C CT : Addr) : Sp := fun vs H Q E => ∃ (p : Addr) (g : Str) (o : Own) (st : FSt) (past : List (List Rec)), vs = [.ref p, .str g] ∧ FontAt C H p o st past ∧ g.length ≤ 1000 ∧ (∀ e ∈ st.adv, e.1.length ≤ 1000) ∧
  (roomless st g = true → ∀ H' d, Same H H' → H' d = none → E (.ref CT) (some d) (upd H' d (.xd [("limit", .int 40)]))) ∧ (roomless st g = false → ∀ H', Same H H' → Q .non H')
/-- no kern of the glyph is too much for the advance -/
def Wide (st : FSt) (g : Str) (n : Int) : Prop := ∀ e ∈ st.krn, (e.1.1 = g ∨ e.1.2 = g) → 0 ≤ n + kernOf st.krn e.1
def spKernsOk (C : Addr) : Sp := fun vs H Q _ => ∃ (p : Addr) (g : Str) (n : Int) (o : Own) (st : FSt) (past : List (List Rec)), vs = [.ref p, .str g, .int n] ∧ FontAt C H p o st past ∧ Wide st g n ∧ ∀ H', Same H H' → Q .non H'
theorem chars_at {g : Str} {i c : Nat} (h : g.cps[i]? = some c) : (chars g)[i]? = some ⟨#[c]⟩ := by
  unfold chars
  rw [List.getElem?_map, Array.getElem?_toList, h]
  rfl
theorem find_take {α : Type} (f : α → Bool) {l : List α} {i : Nat} {a : α} (h : l[i]? = some a) (hn : ∀ x ∈ l.take i, f x = false) : (f a = true → l.find? f = some a) ∧ (f a = false → ∀ x ∈ l.take (i + 1), f x = false) := by
  refine ⟨fun ha => ?_, fun ha x hx => ?_⟩
  · have e : l = l.take i ++ a :: l.drop (i + 1) := by
      have h1 := List.getElem?_eq_some_iff.mp h
      obtain ⟨hi, ha'⟩ := h1
      rw [← ha', ← List.drop_eq_getElem_cons hi, List.take_append_drop]
    rw [e, List.find?_append]
    have : (l.take i).find? f = none := List.find?_eq_none.mpr fun x hx => by rw [hn x hx]; exact Bool.false_ne_true
    rw [this]
    show (a :: _).find? f = some a
    rw [List.find?_cons_of_pos ha]
  · rw [List.take_add_one, h] at hx
    rcases List.mem_append.mp hx with hx | hx
    · exact hn x hx
    · rw [List.mem_singleton.mp hx]
      exact ha
section
variable {P : Program} {w : World} {K : PySem.W.Frag} {mg : Str → Option Value} {base : Heap} {C CI fE fW fBt fWr fHas fLen CU fEU fPl CT fET : Addr}
abbrev sLetters : Stmt := inClass (top 17) 36
theorem scLetters : FnScope ["self", "glyph", "letter"] ["self", "glyph"] (defScope sLetters) := ⟨rfl, rfl, rfl, by decide +kernel, rfl, by decide +kernel, by decide +kernel⟩
theorem ok_letters {f fK : Addr} {fd fdK : FuncData} (F : Fun K "_check_letters" "Font._check_letters" sLetters f fd) (T : TxF K mg C CI fE fW fBt fWr) (GK : FnOk P w K mg base (L2N.CX P w) 3 fK fdK ["self", "glyph"] (spKnown K C CU)) (bK : Binds K fdK ["self", "glyph"] []) (mK : Meth K C "_check_known" fK) :
    FnOk P w K mg base (L2N.CX P w) 4 f fd ["self", "glyph"] (spLetters C CU) := by
  refine okN F scLetters (fun vs H Q E h => ?_) (fun cdv A outer s H vs Q E hr h => ?_)
  · obtain ⟨p, g, o, st, past, rfl, _⟩ := h
    rfl
  · obtain ⟨p, g, o, st, past, rfl, FA, hl, kE, kQ⟩ := h
    have nd := scLetters.nd
    refine ⟨_, pss_one (ps_if (pt_cmpR op_gt (pe_callB call_len_str (by rfl) T.len PySem.boot_len (pa_cons (pv 1) pa_nil)) pe_int (nomark _))
      (pss_one (ps_for (passes_of rfl) rfl (pi_str (pv 1)) (pg_name (i := 2) nd rfl (Or.inl rfl)) (pss_one (ps_expr (pe_meth (pv 0) T.cl mK GK hr bK .nil (L2N.passes_call (L2N.takes_of rfl rfl rfl rfl) (fun _ _ _ _ h => h)) (pa_cons (pv 2) pa_nil)))))) pss_nil), ?_⟩
    have h4 : (sizeLine : Nat) = 16777216 := sizeLine_eq
    refine ⟨_, rfl, g, rfl, by omega, _, _, rfl, rfl, _, rfl, ?_⟩
    refine ite2 (fun hb => ?_) (fun hb => ?_)
    · have hb' : (1 : Int) < (g.length : Int) := of_decide_eq_true hb
      have hg1 : 1 < g.length := by omega
      refine ⟨_, rfl, g, rfl, ?_⟩
      refine for_it walk_str (fun i σ H' => H' = H ∧ (∃ u : Option V, σ = [some (.ref p), some (.str g), u]) ∧ ∀ x ∈ (chars g).take i, (!(lget st.adv x).isSome) = false) ⟨rfl, ⟨none, rfl⟩, fun x hx => by cases hx⟩ (fun _ _ _ _ _ => trivial) ?_ ?_
      · rintro i x σ H' H'' hi ⟨rfl, ⟨u, rfl⟩, hn⟩ ⟨rfl, c, hc, rfl⟩
        have hch := chars_at hc
        obtain ⟨f1, f2⟩ := find_take (fun x => !(lget st.adv x).isSome) hch hn
        refine ⟨_, rfl, p, _, _, rfl, FA.ob, fflds_no _ _ (by decide +kernel) (by decide +kernel) (by decide +kernel) (by decide +kernel), _, rfl, p, .str ⟨#[c]⟩, true, o, st, past, rfl, FA, Ks.str, IsS.str, fun hk d hd => ?_, fun hk => ?_⟩
        · exact kE hg1 _ (f1 (by rw [show (lget st.adv ⟨#[c]⟩).isSome = false from hk]; rfl)) d hd
        · exact ⟨rfl, ⟨_, rfl⟩, f2 (by rw [show (lget st.adv ⟨#[c]⟩).isSome = true from hk]; rfl)⟩
      · rintro σ H' ⟨rfl, _, hn⟩
        refine kQ (.inr ?_)
        unfold missing
        rw [List.take_of_length_le (by unfold chars; rw [List.length_map, Array.length_toList]; exact Nat.le_refl _)] at hn
        exact List.find?_eq_none.mpr fun x hx => by rw [hn x hx]; exact Bool.false_ne_true
    · have hb' : ¬ (1 : Int) < (g.length : Int) := fun z => hb (decide_eq_true z)
      exact kQ (.inl (by omega))
abbrev sRoom : Stmt := inClass (top 17) 37
theorem scRoom : FnScope ["self", "glyph"] ["self", "glyph"] (defScope sRoom) := ⟨rfl, rfl, rfl, by decide +kernel, rfl, by decide +kernel, by decide +kernel⟩
theorem ok_room {f fH fL pL : Addr} {fd fdH fdL fdE : FuncData} (F : Fun K "_check_room" "Font._check_room" sRoom f fd) (T : TxF K mg C CI fE fW fBt fWr) (U : TxH K mg C fHas fLen CU fEU fPl) (hM : ∃ u, Con K C "MOST_LIGATURES" (.int 40) u) (eT : ErrC K mg "TooMany" CT fET)
    (GH : FnOk P w K mg base CX0 1 fHas fdH ["self", "x"] (spHas K C)) (bH : Binds K fdH ["self", "x"] []) (hp : PropOf K C "ligatures" pL fL) (GL : FnOk P w K mg base CX0 3 fL fdL ["self"] (spLigs C)) (bL : Binds K fdL ["self"] [])
    (GE : FnOk P w K mg base CX0 1 fET fdE ["self", "limit"] (spEx1 CT "limit")) (bE : Binds K fdE ["self", "limit"] []) : FnOk P w K mg base (L2N.CX P w) 5 f fd ["self", "glyph"] (spRoom C CT) := by
  obtain ⟨u4, hC⟩ := hM
  refine okN F scRoom (fun vs H Q E h => ?_) (fun cdv A outer s H vs Q E hr h => ?_)
  · obtain ⟨p, g, o, st, past, rfl, _⟩ := h
    rfl
  · obtain ⟨p, g, o, st, past, rfl, FA, hl, hls, kE, kQ⟩ := h
    refine ⟨_, pss_one (ps_if (PW.pt (pw_and (pt_cmpR op_gt (pe_callB call_len_str (by rfl) T.len PySem.boot_len (pa_cons (pv 1) pa_nil)) pe_int (nomark _))
      (pw_and (pt_cmpR (op_notinO U.hHas U.iHas GH bH (hr.mono (by decide))) (pv 1) (pv 0) (by rfl))
        (pw_and1 (pt_cmpR op_ge (pe_callB call_len_seq (by rfl) T.len PySem.boot_len (pa_cons (pe_prop (pv 0) T.cl hp GL hr bL .nil pass0 rfl) pa_nil)) (pe_con (pv 0) rfl) (nomark _))))))
      (pss_one (ps_raise1N eT GE (hr.mono (by decide)) bE pass0 rfl (L2N.takes_of rfl rfl rfl rfl) (pe_con (pv 0) rfl) (fun σ H P R h hh => by
        obtain ⟨v, e, a, C', dx, fs, v', u, q1, q2, q3, q4, q5, q6⟩ := hh
        exact ⟨v, e, a, C', dx, fs, v', u, q1, q2, q3, q4, q5, h _ _ q6⟩))) pss_nil), ?_⟩
    have h4 : (sizeLine : Nat) = 16777216 := sizeLine_eq
    refine ⟨_, rfl, g, rfl, by omega, _, _, rfl, rfl, _, rfl, ?_⟩
    refine ite2 (fun hb => ?_) (fun hb => ?_)
    · have hb' : (1 : Int) < (g.length : Int) := of_decide_eq_true hb
      have e1 : roomless st g = (!(lget st.adv g).isSome && decide (40 ≤ (ligsOf st).length)) := by
        unfold roomless
        rw [decide_eq_true (by omega : 1 < g.length), Bool.true_and]
      rw [e1] at kE kQ
      refine ⟨_, rfl, _, rfl, p, _, _, rfl, FA.ob, p, .str g, true, o, st, past, rfl, FA, Ks.str, IsS.str, _, rfl, _, rfl, ?_⟩
      show if (!(lget st.adv g).isSome) = true then _ else _
      cases hk : (lget st.adv g).isSome with
      | true =>
        rw [hk] at kQ
        exact iteF (kQ rfl H (Same.refl H))
      | false =>
        rw [hk] at kE kQ
        refine iteT ⟨_, rfl, p, _, _, rfl, FA.ob, p, o, st, past, rfl, FA, hls, fun H' l s1 hl1 hl2 => ?_⟩
        have F1 := FA.sm s1
        refine ⟨l, _, rfl, .inl (SqL.of hl2), _, rfl, p, C, _, _, _, _, rfl, F1.ob, T.cl, hC, fflds_no _ _ (by decide +kernel) (by decide +kernel) (by decide +kernel) (by decide +kernel), _, _, rfl, rfl, _, rfl, ?_⟩
        rw [List.length_map]
        refine ite2 (fun hb => ?_) (fun hb => ?_)
        · have hb2 : (40 : Int) ≤ ((ligsOf st).length : Int) := of_decide_eq_true hb
          refine ⟨_, rfl, p, C, _, _, _, _, rfl, F1.ob, T.cl, hC, fflds_no _ _ (by decide +kernel) (by decide +kernel) (by decide +kernel) (by decide +kernel), fun d hd => kE ?_ H' d s1 hd⟩
          rw [decide_eq_true (by omega : 40 ≤ (ligsOf st).length)]
          rfl
        · have hb2 : ¬ (40 : Int) ≤ ((ligsOf st).length : Int) := fun z => hb (decide_eq_true z)
          refine kQ ?_ H' s1
          rw [decide_eq_false (by omega : ¬ 40 ≤ (ligsOf st).length)]
          rfl
    · have hb' : ¬ (1 : Int) < (g.length : Int) := fun z => hb (decide_eq_true z)
      refine kQ ?_ H (Same.refl H)
      unfold roomless
      rw [decide_eq_false (by omega : ¬ 1 < g.length), Bool.false_and]
abbrev sKOk : Stmt := inClass (top 17) 38
theorem scKOk : FnScope ["self", "glyph", "advance", "narrow", "left", "right", "pair"] ["self", "glyph", "advance"] (defScope sKOk) := ⟨rfl, rfl, rfl, by decide +kernel, rfl, by decide +kernel, by decide +kernel⟩
theorem ok_kok {f : Addr} {fd : FuncData} (F : Fun K "_check_kerns" "Font._check_kerns" sKOk f fd) (T : TxF K mg C CI fE fW fBt fWr) : FnOk P w K mg base (L2N.CX P w) 1 f fd ["self", "glyph", "advance"] (spKernsOk C) := by
  refine okN F scKOk (fun vs H Q E h => ?_) (fun cdv A outer s H vs Q E hr h => ?_)
  · obtain ⟨p, g, n, o, st, past, rfl, _⟩ := h
    rfl
  · obtain ⟨p, g, n, o, st, past, rfl, FA, hw, kQ⟩ := h
    have nd := scKOk.nd
    have hu := hu_of hr
    refine ⟨_, pss_cons (ps_lock (ps_setLc (i := 3) (own := [("pair", 6)]) (g := gName 6) (te := tVar 6)
        (tt := tAnd (tTest (tOp (rIn K false) (tVar 1) (tVar 6))) (tTest (tOp (rI0 fun i j => .bl (decide (i < j))) (tOp (rI0 fun i j => .int (i + j)) (tVar 2) (tDGet (tFld K (tVar 0) "_kerns") (tVar 6))) (tC (.int 0)))))
        rfl nd rfl rfl (sw_true rfl rfl rfl (by decide +kernel)) (pi_keys (pe_fld (pv 0) rfl))
        (blkOk_by (N := ["self", "glyph", "advance", "narrow", "left", "right", "pair"]) (sc := defScope sKOk) (by decide +kernel))
        (fun _ _ _ _ _ => pg_name (i := 6) nd rfl (Or.inl rfl))
        (fun _ _ _ _ _ => pts_one (PW.pt (pw_and (pt_cmpR op_in_seq (pv 1) (pv 6) (by rfl)) (pw_and1 (pt_cmpR op_lt (pe_op op_add (pv 2) (pe_dget hu (pe_fld (pv 0) rfl) (pv 6) (fun _ _ => rfl))) pe_int (nomark _))))))
        (fun _ _ _ _ _ => pv 6)))
      (pss_one (ps_if (pt_cmpR op_gt (pe_callB call_len_seq (by rfl) T.len PySem.boot_len (pa_cons (pv 3) pa_nil)) pe_int (nomark _)) pss_no pss_nil)), ?_⟩
    obtain ⟨k1, k2, k3, k4, k5, k6⟩ := FA.kinds
    refine ⟨o.dN, _, FA.dn, trivial, fun od => ?_⟩
    have hob : (upd H o.dN (.frz od (.dT (enc cK st.krn)))) p = some (.ins C o.dx (fflds o st.blank)) := (upd_ne k2).trans FA.ob
    refine ⟨_, rfl, p, C, _, _, _, rfl, hob, T.cl, T.nN, fflds_krn _ _, o.dN, od, rfl, .inr ⟨_, upd_same, fun D hD => ?_⟩⟩
    have hDn : D ≠ o.dN := fun z => by rw [z, upd_same] at hD; cases hD
    have hDH : H D = none := by rwa [upd_ne hDn] at hD
    refine lc_it walk_keysT (fun i H' => H' = upd (upd H o.dN (.frz od (.dT (enc cK st.krn)))) D (.lst [])) rfl (fun i H' _ e => by rw [e, upd_ne (Ne.symm hDn), upd_same]) ?_ ?_
    · rintro i x H' H'' hi rfl ⟨rfl, kk, v, q, hkv, rfl, hq⟩
      unfold enc at hkv
      rw [List.getElem?_map, Option.map_eq_some_iff] at hkv
      obtain ⟨e, he, e2⟩ := hkv
      obtain ⟨rfl, rfl⟩ := Prod.mk.inj e2
      have hem : e ∈ st.krn := List.mem_of_getElem? he
      obtain ⟨m, hm⟩ := lget_of_mem (l := st.krn) (k := e.1) (List.mem_map.mpr ⟨e, hem, rfl⟩)
      have hpD : p ≠ D := fun z => by rw [← z, FA.ob] at hDH; cases hDH
      refine ⟨rfl, _, rfl, _, rfl, q, _, rfl, .inr (SqT.of hq), rfl, rfl, _, rfl, ?_⟩
      cases hin : inV (.str g) ((cK e.1).map kV) with
      | false =>
        show if (false = true) then _ else _
        refine iteF ?_
        exact iteF rfl
      | true =>
        refine iteT ⟨_, rfl, _, rfl, p, C, _, _, _, rfl, (upd_ne hpD).trans hob, T.cl, T.nN, fflds_krn _ _, _, rfl, o.dN, .int m, rfl, ?_, _, _, rfl, rfl, _, _, rfl, rfl, _, rfl, ?_⟩
        · refine .inr ⟨_, cK e.1, q, .inr ⟨od, (upd_ne (Ne.symm hDn)).trans upd_same⟩, rfl, hq, ?_⟩
          rw [enc_get cK_inj st.krn e.1, hm]
          rfl
        · have hge : 0 ≤ n + m := by
            have h1 := hw e hem (by
              have : (V.str e.1.1 = V.str g ∨ V.str e.1.2 = V.str g) := by
                have h2 : (eqV (.str e.1.1) (.str g) || (eqV (.str e.1.2) (.str g) || false)) = true := hin
                rw [Bool.or_false, Bool.or_eq_true] at h2
                rcases h2 with h2 | h2
                · exact .inl (congrArg V.str (beq_iff_eq.mp h2))
                · exact .inr (congrArg V.str (beq_iff_eq.mp h2))
              rcases this with h | h
              · exact .inl (V.str.inj h)
              · exact .inr (V.str.inj h))
            unfold kernOf at h1
            rw [hm] at h1
            exact h1
          rw [decide_eq_false (by omega : ¬ n + m < 0)]
          exact iteF rfl
    · rintro H' rfl
      refine ⟨(upd_ne (Ne.symm hDn)).trans upd_same, ?_⟩
      have hfin : upd (upd (upd H o.dN (.frz od (.dT (enc cK st.krn)))) D (.lst [])) o.dN (.dT (enc cK st.krn)) = upd H D (.lst []) := by
        funext b
        by_cases h1 : b = o.dN
        · rw [h1, upd_same, upd_ne (Ne.symm hDn), FA.dn]
        · rw [upd_ne h1]
          by_cases h2 : b = D
          · rw [h2, upd_same, upd_same]
          · rw [upd_ne h2, upd_ne h2, upd_ne h1]
      rw [hfin]
      refine ⟨_, rfl, D, [], rfl, .inl (SqL.of upd_same), _, _, rfl, rfl, _, rfl, ?_⟩
      exact iteF (kQ _ (same_upd hDH))
end
/-! ### _put_advance, _put_kern -/
def spPutA (K : PySem.W.Frag) (C CI CU CT CG : Addr) : Sp := fun vs H Q E => ∃ (p : Addr) (v a : V) (t i b : Bool) (o : Own) (st : FSt) (past : List (List Rec)), vs = [.ref p, v, a] ∧ FontAt C H p o st past ∧ Ks K H v t ∧ IsS v t ∧ (∀ g, v = .str g → g.length ≤ 1000) ∧ Kd K H a i b ∧ ((i && !b) = true → ∃ n, a = .int n) ∧ ((i && !b) = false → ∀ n, a ≠ .int n) ∧ (∀ e ∈ st.adv, e.1.length ≤ 1000) ∧
  (nameV v = false → ∀ d, H d = none → E (.ref CG) (some d) (upd H d (.xd [("glyph", v)]))) ∧
  (nameV v = true → ¬ inR a 0 1000000 → ∀ d, H d = none → E (.ref CI) (some d) (upd H d (.xd [("value", a)]))) ∧
  (∀ g n, v = .str g → nameB g = true → a = .int n → 0 ≤ n → n ≤ 1000000 →
    (1 < g.length → ∀ c, missing st g = some c → ∀ d, H d = none → E (.ref CU) (some d) (upd H d (.xd [("glyph", .str c)]))) ∧
    (g.length ≤ 1 ∨ missing st g = none → (roomless st g = true → ∀ H' d, Same H H' → H' d = none → E (.ref CT) (some d) (upd H' d (.xd [("limit", .int 40)]))) ∧
      (roomless st g = false → Wide st g n ∧ (setA st g (some n)).adv.length ≤ 1000 ∧ ∀ H' l, H l = none → KeepF p o H H' → FontAt C H' p o (setA st g (some n)) past → RecsAt H' l [.adv g (lget st.adv g)] → Q (.ref l) H')))
def kx (n : Int) : Option Int := if n = 0 then none else some n
def spPutK (K : PySem.W.Frag) (C CI CU CO : Addr) : Sp := fun vs H Q E => ∃ (p : Addr) (v u a : V) (t t' i b : Bool) (o : Own) (st : FSt) (past : List (List Rec)), vs = [.ref p, v, u, a] ∧ FontAt C H p o st past ∧ Ks K H v t ∧ IsS v t ∧ Ks K H u t' ∧ IsS u t' ∧ Kd K H a i b ∧ ((i && !b) = true → ∃ n, a = .int n) ∧ ((i && !b) = false → ∀ n, a ≠ .int n) ∧
  (knownV st v = false → ∀ d, H d = none → E (.ref CU) (some d) (upd H d (.xd [("glyph", v)]))) ∧
  (knownV st v = true → knownV st u = false → ∀ d, H d = none → E (.ref CU) (some d) (upd H d (.xd [("glyph", u)]))) ∧
  (knownV st v = true → knownV st u = true → ¬ inR a (-1000000) 1000000 → ∀ d, H d = none → E (.ref CI) (some d) (upd H d (.xd [("value", a)]))) ∧
  (∀ l r n x y, v = .str l → u = .str r → a = .int n → -1000000 ≤ n → n ≤ 1000000 → lget st.adv l = some x → lget st.adv r = some y →
    ((x + n < 0 ∨ y + n < 0) → ∀ d, H d = none → E (.ref CO) (some d) (upd H d (.xd [("right", .str r), ("left", .str l)]))) ∧
    (0 ≤ x + n → 0 ≤ y + n → (setK st (l, r) (kx n)).krn.length ≤ 1000 ∧ ∀ H' q, H q = none → KeepF p o H H' → FontAt C H' p o (setK st (l, r) (kx n)) past → RecsAt H' q [.krn l r (lget st.krn (l, r))] → Q (.ref q) H'))
section
variable {P : Program} {w : World} {K : PySem.W.Frag} {mg : Str → Option Value} {base : Heap} {C CI fE fW fBt fWr CU CT CG CO fEG fNm fEO : Addr}
abbrev sPutA : Stmt := inClass (top 17) 31
theorem scPutA : FnScope ["self", "glyph", "advance"] ["self", "glyph", "advance"] (defScope sPutA) := ⟨rfl, rfl, rfl, by decide +kernel, rfl, by decide +kernel, by decide +kernel⟩
theorem ok_putA {f fL fR fK fWA : Addr} {fd fdN fdE fdB fdL fdR fdK fdW : FuncData} (F : Fun K "_put_advance" "Font._put_advance" sPutA f fd) (T : TxF K mg C CI fE fW fBt fWr) (nm : At K mg "is_glyph_name" fNm) (GN : FnOk P w K mg base CX0 1 fNm fdN ["value"] (spName K)) (bN : Binds K fdN ["value"] [])
    (eG : ErrC K mg "InvalidGlyph" CG fEG) (GE : FnOk P w K mg base CX0 1 fEG fdE ["self", "glyph"] (spEx1 CG "glyph")) (bE : Binds K fdE ["self", "glyph"] []) (GB : FnOk P w K mg base (L2N.CX P w) 3 fBt fdB ["value", "low", "high"] (spBetween K CI)) (bB : Binds K fdB ["value", "low", "high"] [])
    (GL : FnOk P w K mg base (L2N.CX P w) 4 fL fdL ["self", "glyph"] (spLetters C CU)) (bL : Binds K fdL ["self", "glyph"] []) (mL : Meth K C "_check_letters" fL) (GR : FnOk P w K mg base (L2N.CX P w) 5 fR fdR ["self", "glyph"] (spRoom C CT)) (bR : Binds K fdR ["self", "glyph"] []) (mR : Meth K C "_check_room" fR)
    (GK : FnOk P w K mg base (L2N.CX P w) 1 fK fdK ["self", "glyph", "advance"] (spKernsOk C)) (bK : Binds K fdK ["self", "glyph", "advance"] []) (mK : Meth K C "_check_kerns" fK) (GW : FnOk P w K mg base CX0 2 fWA fdW ["self", "glyph", "advance"] (spWrA C)) (bW : Binds K fdW ["self", "glyph", "advance"] []) (mW : Meth K C "_write_advance" fWA) :
    FnOk P w K mg base (L2N.CX P w) 6 f fd ["self", "glyph", "advance"] (spPutA K C CI CU CT CG) := by
  obtain ⟨u1, hC⟩ := T.adv
  refine okN F scPutA (fun vs H Q E h => ?_) (fun cdv A outer s H vs Q E hr h => ?_)
  · obtain ⟨p, v, a, t, i, b, o, st, past, rfl, _⟩ := h
    rfl
  · obtain ⟨p, v, a, t, i, b, o, st, past, rfl, FA, ks, is, hvl, kd, h1, h0, hls, eN, eI, k⟩ := h
    have h4 : (sizeLine : Nat) = 16777216 := sizeLine_eq
    refine ⟨_, pss_cons (ps_if (pt_not (pt_val (pe_call GN (hr.mono (by decide)) (by rfl) nm.g nm.k bN .nil pass0 (pa_cons (pv 1) pa_nil)))) (pss_one (ps_raise1N eG GE (hr.mono (by decide)) bE pass0 rfl (L2N.takes_of rfl rfl rfl rfl) (pv 1) (fun σ H P R h => mono_tVar σ H P R h))) pss_nil)
      (pss_cons (ps_expr (pe_call GB (hr.mono (by decide)) (by rfl) T.btw.g T.btw.k bB .nil (L2N.passes_call (L2N.takes_of rfl rfl rfl rfl) (fun _ _ _ _ h => h)) (pa_cons (pv 2) (pa_cons pe_int (pa_cons (pe_con (pv 0) rfl) pa_nil)))))
      (pss_cons (ps_expr (pe_meth (pv 0) T.cl mL GL (hr.mono (by decide)) bL .nil (L2N.passes_call (L2N.takes_of rfl rfl rfl rfl) (fun _ _ _ _ h => h)) (pa_cons (pv 1) pa_nil)))
      (pss_cons (ps_expr (pe_meth (pv 0) T.cl mR GR hr bR .nil (L2N.passes_call (L2N.takes_of rfl rfl rfl rfl) (fun _ _ _ _ h => h)) (pa_cons (pv 1) pa_nil)))
      (pss_cons (ps_expr (pe_meth (pv 0) T.cl mK GK (hr.mono (by decide)) bK .nil (L2N.passes_call (L2N.takes_of rfl rfl rfl rfl) (fun _ _ _ _ h => h)) (pa_cons (pv 1) (pa_cons (pv 2) pa_nil))))
      (pss_one (ps_ret (pe_lst (pa_cons (pe_meth (pv 0) T.cl mW GW (hr.mono (by decide)) bW .nil pass0 (pa_cons (pv 1) (pa_cons (pv 2) pa_nil))) pa_nil)))))))), ?_⟩
    have nf : ∀ {st' : FSt} {m : Str}, (m == ("_advances" : Str)) = false → (m == ("_kerns" : Str)) = false → (m == ("_blank" : Str)) = false → (m == ("_past" : Str)) = false → (fflds o st'.blank).lookup m = none := fun a b c d => fflds_no _ _ a b c d
    refine ⟨_, rfl, v, t, rfl, ks, is, fun g e => by have := hvl g e; omega, _, rfl, ?_⟩
    cases hn : nameV v with
    | false => exact iteT ⟨_, rfl, fun d hd => eN hn d hd⟩
    | true =>
      obtain ⟨g, rfl⟩ : ∃ g, v = .str g := by
        cases v <;> first | exact ⟨_, rfl⟩ | cases hn
      have hgl := hvl g rfl
      refine iteF ⟨_, rfl, _, rfl, p, C, _, _, _, _, rfl, FA.ob, T.cl, hC, nf (by decide +kernel) (by decide +kernel) (by decide +kernel) (by decide +kernel), a, i, b, 0, 1000000, rfl, kd, h1, h0, eI hn, fun ⟨n, e, n0, n1⟩ => ?_⟩
      subst e
      obtain ⟨q1, q2⟩ := k g n rfl hn rfl n0 n1
      refine ⟨_, rfl, p, _, _, rfl, FA.ob, nf (by decide +kernel) (by decide +kernel) (by decide +kernel) (by decide +kernel), _, rfl, p, g, o, st, past, rfl, FA, hgl, q1, fun hm => ?_⟩
      obtain ⟨q3, q4⟩ := q2 hm
      refine ⟨_, rfl, p, _, _, rfl, FA.ob, nf (by decide +kernel) (by decide +kernel) (by decide +kernel) (by decide +kernel), _, rfl, p, g, o, st, past, rfl, FA, hgl, hls, q3, fun hro H1 s1 => ?_⟩
      obtain ⟨hw, hlen, kQ⟩ := q4 hro
      have F1 := FA.sm s1
      refine ⟨_, rfl, p, _, _, rfl, F1.ob, nf (by decide +kernel) (by decide +kernel) (by decide +kernel) (by decide +kernel), _, rfl, _, rfl, p, g, n, o, st, past, rfl, F1, hw, fun H2 s2 => ?_⟩
      have F2 := F1.sm s2
      refine ⟨_, rfl, p, _, _, rfl, F2.ob, nf (by decide +kernel) (by decide +kernel) (by decide +kernel) (by decide +kernel), _, rfl, _, rfl, p, g, some n, o, st, past, rfl, F2, hlen, fun H3 t3 ht3 kf F3 hrec => ?_⟩
      refine ⟨by show 1 ≤ sizeLine; decide, fun l hl => ?_⟩
      have kf' : KeepF p o H H3 := ((KeepF.same s1).trans (KeepF.same s2)).trans kf
      have hlH : H l = none := by
        cases e : H l with
        | none => rfl
        | some u =>
          have e2 := s2 _ _ (s1 _ _ e)
          obtain ⟨ls, hp, _⟩ := F3.dp
          by_cases c1 : l = p
          · rw [c1, F3.ob] at hl; cases hl
          · by_cases c2 : l = o.dA
            · rw [c2, F3.da] at hl; cases hl
            · by_cases c3 : l = o.dN
              · rw [c3, F3.dn] at hl; cases hl
              · by_cases c4 : l = o.dP
                · rw [c4, hp] at hl; cases hl
                · rw [kf _ _ e2 c1 c2 c3 c4] at hl; cases hl
      exact kQ _ l hlH (kf'.trans (KeepF.same (same_upd hl))) (F3.sm (same_upd hl)) ⟨[t3], upd_same, .cons (RecAt.sm (fun _ _ => same_upd hl _ _) hrec) .nil⟩
abbrev sPutK : Stmt := inClass (top 17) 32
theorem scPutK : FnScope ["self", "left", "right", "kern"] ["self", "left", "right", "kern"] (defScope sPutK) := ⟨rfl, rfl, rfl, by decide +kernel, rfl, by decide +kernel, by decide +kernel⟩
theorem ok_putK {f fK fWK : Addr} {fd fdE fdB fdK fdW : FuncData} (F : Fun K "_put_kern" "Font._put_kern" sPutK f fd) (T : TxF K mg C CI fE fW fBt fWr) (eO : ErrC K mg "Overlap" CO fEO) (GE : FnOk P w K mg base CX0 1 fEO fdE ["self", "left", "right"] (spEx2 CO "left" "right")) (bE : Binds K fdE ["self", "left", "right"] [])
    (GB : FnOk P w K mg base (L2N.CX P w) 3 fBt fdB ["value", "low", "high"] (spBetween K CI)) (bB : Binds K fdB ["value", "low", "high"] []) (GK : FnOk P w K mg base (L2N.CX P w) 3 fK fdK ["self", "glyph"] (spKnown K C CU)) (bK : Binds K fdK ["self", "glyph"] []) (mK : Meth K C "_check_known" fK)
    (GW : FnOk P w K mg base CX0 2 fWK fdW ["self", "pair", "kern"] (spWrK C)) (bW : Binds K fdW ["self", "pair", "kern"] []) (mW : Meth K C "_write_kern" fWK) : FnOk P w K mg base (L2N.CX P w) 4 f fd ["self", "left", "right", "kern"] (spPutK K C CI CU CO) := by
  obtain ⟨u1, hC⟩ := T.adv
  refine okN F scPutK (fun vs H Q E h => ?_) (fun cdv A outer s H vs Q E hr h => ?_)
  · obtain ⟨p, v, u, a, t, t', i, b, o, st, past, rfl, _⟩ := h
    rfl
  · obtain ⟨p, v, u, a, t, t', i, b, o, st, past, rfl, FA, ks, is, ks', is', kd, h1, h0, e1, e2, e3, k⟩ := h
    have hu := hu_of hr
    refine ⟨_, pss_cons (ps_expr (pe_meth (pv 0) T.cl mK GK hr bK .nil (L2N.passes_call (L2N.takes_of rfl rfl rfl rfl) (fun _ _ _ _ h => h)) (pa_cons (pv 1) pa_nil)))
      (pss_cons (ps_expr (pe_meth (pv 0) T.cl mK GK hr bK .nil (L2N.passes_call (L2N.takes_of rfl rfl rfl rfl) (fun _ _ _ _ h => h)) (pa_cons (pv 2) pa_nil)))
      (pss_cons (ps_expr (pe_call GB hr (by rfl) T.btw.g T.btw.k bB .nil (L2N.passes_call (L2N.takes_of rfl rfl rfl rfl) (fun _ _ _ _ h => h)) (pa_cons (pv 3) (pa_cons (pe_un un_neg (pe_con (pv 0) rfl)) (pa_cons (pe_con (pv 0) rfl) pa_nil)))))
      (pss_cons (ps_if (PW.pt (pw_or (pt_cmpR op_lt (pe_op op_add (pe_dget hu (pe_fld (pv 0) rfl) (pv 1) (fun _ _ => rfl)) (pv 3)) pe_int (nomark _)) (pw_or1 (pt_cmpR op_lt (pe_op op_add (pe_dget hu (pe_fld (pv 0) rfl) (pv 2) (fun _ _ => rfl)) (pv 3)) pe_int (nomark _)))))
        (pss_one (ps_raise2N eO GE (hr.mono (by decide)) bE pass0 rfl (L2N.takes_of rfl rfl rfl rfl) (pv 1) (pv 2) (fun σ H P R h => mono_tVar σ H P R h) (fun σ H P R h => mono_tVar σ H P R h))) pss_nil)
      (pss_one (ps_ret (pe_lst (pa_cons (pe_meth (pv 0) T.cl mW GW (hr.mono (by decide)) bW .nil pass0 (pa_cons (pe_tup (pa_cons (pv 1) (pa_cons (pv 2) pa_nil))) (pa_cons (pe_ifExp (pt_cmpR op_eq (pv 3) pe_int (nomark _)) pe_non (pv 3)) pa_nil))) pa_nil))))))), ?_⟩
    have nf : ∀ {m : Str}, (m == ("_advances" : Str)) = false → (m == ("_kerns" : Str)) = false → (m == ("_blank" : Str)) = false → (m == ("_past" : Str)) = false → (fflds o st.blank).lookup m = none := fun a b c d => fflds_no _ _ a b c d
    refine ⟨_, rfl, p, _, _, rfl, FA.ob, nf (by decide +kernel) (by decide +kernel) (by decide +kernel) (by decide +kernel), _, rfl, p, v, t, o, st, past, rfl, FA, ks, is, e1, fun hv => ?_⟩
    refine ⟨_, rfl, p, _, _, rfl, FA.ob, nf (by decide +kernel) (by decide +kernel) (by decide +kernel) (by decide +kernel), _, rfl, p, u, t', o, st, past, rfl, FA, ks', is', e2 hv, fun hu' => ?_⟩
    refine ⟨_, rfl, _, rfl, p, C, _, _, _, _, rfl, FA.ob, T.cl, hC, nf (by decide +kernel) (by decide +kernel) (by decide +kernel) (by decide +kernel), _, rfl, _, rfl, p, C, _, _, _, _, rfl, FA.ob, T.cl, hC, nf (by decide +kernel) (by decide +kernel) (by decide +kernel) (by decide +kernel), a, i, b, -1000000, 1000000, rfl, kd, h1, h0, e3 hv hu', fun ⟨n, e, n0, n1⟩ => ?_⟩
    subst e
    obtain ⟨l, rfl⟩ : ∃ g, v = .str g := by
      cases v <;> first | exact ⟨_, rfl⟩ | cases hv
    obtain ⟨r, rfl⟩ : ∃ g, u = .str g := by
      cases u <;> first | exact ⟨_, rfl⟩ | cases hu'
    obtain ⟨x, hx⟩ := Option.isSome_iff_exists.mp (show (lget st.adv l).isSome = true from hv)
    obtain ⟨y, hy⟩ := Option.isSome_iff_exists.mp (show (lget st.adv r).isSome = true from hu')
    obtain ⟨q1, q2⟩ := k l r n x y rfl rfl rfl n0 n1 hx hy
    have gl : ∀ {g : Str} {m : Int}, lget st.adv g = some m → DGet H o.dA (.str g) (some (.int m)) := fun {g m} hm => by
      have e : valV (enc cA st.adv) (Sum.inr g : Key) = some (.int m) := by
        rw [show valV (enc cA st.adv) (Sum.inr g : Key) = (lget st.adv g).map V.int from enc_get cA_inj st.adv g, hm]
        rfl
      rw [← e]
      exact DGet.k (k := Sum.inr g) FA.da
    refine ⟨_, rfl, p, C, _, _, _, rfl, FA.ob, T.cl, T.nA, fflds_adv _ _, _, rfl, o.dA, .int x, rfl, gl hx, _, rfl, _, _, rfl, rfl, _, _, rfl, rfl, _, rfl, ?_⟩
    refine ite2 (fun hb => ?_) (fun hb => ?_)
    · have hb' := of_decide_eq_true hb
      exact iteT ⟨_, rfl, _, rfl, fun d hd => q1 (.inl hb') d hd⟩
    · have hb' : ¬ x + n < 0 := fun z => hb (decide_eq_true z)
      refine ⟨_, rfl, p, C, _, _, _, rfl, FA.ob, T.cl, T.nA, fflds_adv _ _, _, rfl, o.dA, .int y, rfl, gl hy, _, rfl, _, _, rfl, rfl, _, _, rfl, rfl, _, rfl, ?_⟩
      refine ite2 (fun hc => ?_) (fun hc => ?_)
      · have hc' := of_decide_eq_true hc
        exact ⟨_, rfl, _, rfl, fun d hd => q1 (.inr hc') d hd⟩
      · have hc' : ¬ y + n < 0 := fun z => hc (decide_eq_true z)
        obtain ⟨hlen, kQ⟩ := q2 (by omega) (by omega)
        refine ⟨_, rfl, p, _, _, rfl, FA.ob, nf (by decide +kernel) (by decide +kernel) (by decide +kernel) (by decide +kernel), _, rfl, _, rfl, by show 2 ≤ sizeLine; decide, fun q hq => ?_⟩
        have s1 : Same H (upd H q (.tup [.str l, .str r])) := same_upd hq
        have F1 := FA.sm s1
        refine ⟨_, rfl, rfl, _, rfl, ?_⟩
        rw [dec_int]
        have fin : ∀ (z : V), z = ov (kx n) → spWrK C ([.ref p, .ref q, z] ++ []) (upd H q (.tup [.str l, .str r])) (fun x H1 => [x].length ≤ sizeLine ∧ ∀ l, H1 l = none → Q (.ref l) (upd H1 l (.lst [x]))) E0 := fun z hz => by
          refine ⟨p, q, (l, r), kx n, o, st, past, by rw [hz]; rfl, F1, upd_same, hlen, fun H3 t3 ht3 kf F3 hrec => ⟨by show 1 ≤ sizeLine; decide, fun l3 hl3 => ?_⟩⟩
          have kf' : KeepF p o H H3 := (KeepF.same s1).trans kf
          have hlH : H l3 = none := by
            cases e : H l3 with
            | none => rfl
            | some u =>
              have e2 := s1 _ _ e
              obtain ⟨ls, hp, _⟩ := F3.dp
              by_cases c1 : l3 = p
              · rw [c1, F3.ob] at hl3; cases hl3
              · by_cases c2 : l3 = o.dA
                · rw [c2, F3.da] at hl3; cases hl3
                · by_cases c3 : l3 = o.dN
                  · rw [c3, F3.dn] at hl3; cases hl3
                  · by_cases c4 : l3 = o.dP
                    · rw [c4, hp] at hl3; cases hl3
                    · rw [kf _ _ e2 c1 c2 c3 c4] at hl3; cases hl3
          exact kQ _ l3 hlH (kf'.trans (KeepF.same (same_upd hl3))) (F3.sm (same_upd hl3)) ⟨[t3], upd_same, .cons (RecAt.sm (fun _ _ => same_upd hl3 _ _) hrec) .nil⟩
        by_cases n00 : n = 0
        · rw [show (n == 0) = true from beq_iff_eq.mpr n00]
          exact iteT (fin .non (by unfold kx; rw [if_pos n00]; rfl))
        · rw [show (n == 0) = false from beq_eq_false_iff_ne.mpr n00]
          exact iteF ⟨_, rfl, fin (.int n) (by unfold kx; rw [if_neg n00]; rfl)⟩
end
section
variable {P : Program} {w : World} {K : PySem.W.Frag} {mg : Str → Option Value} {base : Heap} {C CI fE fW fBt fWr : Addr}
theorem map_erase0 (ls : List Addr) : (ls.map V.ref).eraseIdx 0 = (ls.drop 1).map V.ref := by cases ls <;> rfl
theorem pair_snoc {α β : Type} {R : α → β → Prop} : ∀ {as : List α} {bs : List β} {a : α} {b : β}, Paired R as bs → R a b → Paired R (as ++ [a]) (bs ++ [b])
  | _, _, _, _, .nil, h => .cons h .nil
  | _, _, _, _, .cons r t, h => .cons r (pair_snoc t h)
theorem paired_drop1 {α β : Type} {R : α → β → Prop} {as : List α} {bs : List β} : Paired R as bs → Paired R (as.drop 1) (bs.drop 1)
  | .nil => .nil
  | .cons _ t => t
theorem pair_len {α β : Type} {R : α → β → Prop} : ∀ {as : List α} {bs : List β}, Paired R as bs → as.length = bs.length
  | _, _, .nil => rfl
  | _, _, .cons _ t => congrArg (· + 1) (pair_len t)
abbrev sRemember : Stmt := inClass (top 17) 43
theorem scRemember : FnScope ["self", "records"] ["self", "records"] (defScope sRemember) := ⟨rfl, rfl, rfl, by decide +kernel, rfl, by decide +kernel, by decide +kernel⟩
theorem ok_remember {f : Addr} {fd : FuncData} (F : Fun K "_remember" "Font._remember" sRemember f fd) (T : TxF K mg C CI fE fW fBt fWr) : FnOk P w K mg base CX0 1 f fd ["self", "records"] (spRemember C) := by
  obtain ⟨u1, hC⟩ := T.und
  refine F.ok scRemember (fun vs H Q E h => ?_) (fun cdv A outer s H vs Q E hr h => ?_)
  · obtain ⟨p, l, o, st, past, rs, rfl, _⟩ := h
    rfl
  · obtain ⟨p, l, o, st, past, rs, rfl, FA, hl, hn, k⟩ := h
    obtain ⟨ls, hp, hP, hP2⟩ := FA.dp
    obtain ⟨k1, k2, k3, k4, k5, k6⟩ := FA.kinds
    refine ⟨_, pss_cons (ps_expr (pe_bm PySem.F.plainAttrs_list PySem.F.slot_list_append PySem.F.type_list_append mt_append (pe_fld (pv 0) rfl) (pa_cons (pv 1) pa_nil)))
      (pss_one (ps_if (pt_cmpR op_gt (pe_callB call_len_seq (by rfl) T.len PySem.boot_len (pa_cons (pe_fld (pv 0) rfl) pa_nil)) (pe_con (pv 0) rfl) (nomark _)) (pss_one (ps_delL (pe_fld (pv 0) rfl) pe_int)) pss_nil)), ?_⟩
    refine ⟨_, rfl, p, C, _, _, _, rfl, FA.ob, T.cl, T.nP, fflds_past _ _, .inl ⟨rfl, _, SqL.of hp⟩, _, rfl, o.dP, _, _, rfl, rfl, hp, ?_, ?_⟩
    · rw [List.length_map, pair_len hP]
      exact Nat.lt_of_le_of_lt FA.small.2.2 (by decide)
    have e1 : ls.map V.ref ++ [V.ref l] = (ls ++ [l]).map V.ref := by rw [List.map_append]; rfl
    rw [e1]
    have hob : (upd H o.dP (.lst ((ls ++ [l]).map V.ref))) p = some (.ins C o.dx (fflds o st.blank)) := (upd_ne k3).trans FA.ob
    have kp : ∀ u, KeepF p o H (upd H o.dP u) := fun u => KeepF.upP u
    have key : ∀ (ls' : List Addr) (past' : List (List Rec)), Paired (RecsAt H) ls' past' → (∀ x ∈ ls', x ≠ o.dP) → past'.length ≤ 1000 → FontAt C (upd H o.dP (.lst (ls'.map V.ref))) p o st past' := fun ls' past' h1 h2 h3 =>
      ⟨(upd_ne k3).trans FA.ob, (upd_ne k5).trans FA.da, (upd_ne k6).trans FA.dn, ⟨ls', upd_same, paired_mem h1 fun x hx rs r => FA.recs (kp _) r (h2 x hx), h2⟩, FA.small.1, FA.small.2.1, h3⟩
    have hP' : Paired (RecsAt H) (ls ++ [l]) (past ++ [rs]) := pair_snoc hP hl
    have hN' : ∀ x ∈ ls ++ [l], x ≠ o.dP := fun x hx => (List.mem_append.mp hx).elim (hP2 x) fun z => by rw [List.mem_singleton.mp z]; exact hn
    have hlen : ((ls ++ [l]).map V.ref).length = past.length + 1 := by rw [List.length_map, pair_len hP', List.length_append]; rfl
    refine ⟨_, rfl, p, C, _, _, _, rfl, hob, T.cl, T.nP, fflds_past _ _, o.dP, _, rfl, .inl (SqL.of upd_same), _, rfl, p, C, _, _, _, _, rfl, hob, T.cl, hC, fflds_no _ _ (by decide +kernel) (by decide +kernel) (by decide +kernel) (by decide +kernel), _, _, rfl, rfl, ?_⟩
    rw [hlen]
    refine ⟨_, rfl, ?_⟩
    refine ite2 (fun hh => ?_) (fun hh => ?_)
    · have hh' : (50 : Int) < ((past.length + 1 : Nat) : Int) := of_decide_eq_true hh
      have h50 : past.length + 1 > 50 := by omega
      refine ⟨_, rfl, p, C, _, _, _, rfl, hob, T.cl, T.nP, fflds_past _ _, o.dP, _, 0, 0, rfl, rfl, upd_same, by decide, by decide, ?_, ?_⟩
      · rw [hlen]
        have : (0 : Int) ≤ 0 := by decide
        simp [seqIndex?]
      · rw [upd_upd, map_erase0]
        refine k _ (kp _) ?_
        have e : remember past rs = (past ++ [rs]).drop 1 := if_pos h50
        rw [e]
        refine key _ _ (paired_drop1 hP') (fun x hx => hN' x (List.mem_of_mem_drop hx)) ?_
        rw [List.length_drop, List.length_append]
        have := FA.small.2.2
        show past.length + 1 - 1 ≤ 1000
        omega
    · have hh' : ¬ (50 : Int) < ((past.length + 1 : Nat) : Int) := fun z => hh (decide_eq_true z)
      have h50 : ¬ past.length + 1 > 50 := by omega
      refine k _ (kp _) ?_
      have e : remember past rs = past ++ [rs] := if_neg h50
      rw [e]
      refine key _ _ hP' hN' ?_
      rw [List.length_append]
      show past.length + 1 ≤ 1000
      omega
abbrev sSetB : Stmt := inClass (top 17) 26
theorem scSetB : FnScope ["self", "advance"] ["self", "advance"] (defScope sSetB) := ⟨rfl, rfl, rfl, by decide +kernel, rfl, by decide +kernel, by decide +kernel⟩
theorem ok_setB {f fP fR : Addr} {fd fdP fdR : FuncData} (F : Fun K "set_blank" "Font.set_blank" sSetB f fd) (T : TxF K mg C CI fE fW fBt fWr) (GP : FnOk P w K mg base (L2N.CX P w) 4 fP fdP ["self", "advance"] (spPutB K C CI)) (bP : Binds K fdP ["self", "advance"] [])
    (mP : Meth K C "_put_blank" fP) (GR : FnOk P w K mg base CX0 1 fR fdR ["self", "records"] (spRemember C)) (bR : Binds K fdR ["self", "records"] []) (mR : Meth K C "_remember" fR) : FnOk P w K mg base (L2N.CX P w) 5 f fd ["self", "advance"] (spSetB K C CI) := by
  refine okN F scSetB (fun vs H Q E h => ?_) (fun cdv A outer s H vs Q E hr h => ?_)
  · obtain ⟨p, v, i, b, o, st, past, rfl, _⟩ := h
    rfl
  · obtain ⟨p, v, i, b, o, st, past, rfl, FA, kd, h1, h0, kE, k⟩ := h
    refine ⟨_, pss_one (ps_expr (pe_meth (pv 0) T.cl mR GR (hr.mono (by decide)) bR .nil pass0 (pa_cons (pe_meth (pv 0) T.cl mP GP hr bP .nil (L2N.passes_call (L2N.takes_of rfl rfl rfl rfl) (fun _ _ _ _ h => h)) (pa_cons (pv 1) pa_nil)) pa_nil))), ?_⟩
    refine ⟨_, rfl, p, _, _, rfl, FA.ob, fflds_no _ _ (by decide +kernel) (by decide +kernel) (by decide +kernel) (by decide +kernel), _, rfl, p, _, _, rfl, FA.ob, fflds_no _ _ (by decide +kernel) (by decide +kernel) (by decide +kernel) (by decide +kernel), _, rfl, ?_⟩
    refine ⟨p, v, i, b, o, st, past, rfl, FA, kd, h1, h0, kE, fun n e n0 n1 H' l hl kf F1 hr1 => ?_⟩
    obtain ⟨ls, hp, _⟩ := FA.dp
    refine ⟨p, l, o, setB st n, past, [.blank st.blank], rfl, F1, hr1, fun z => (by rw [z, hp] at hl; cases hl), fun H2 kf2 F2 => ?_⟩
    exact k n e n0 n1 H2 (kf.trans kf2) F2
end
/-! ### what is called while an error is being handled -/
section
variable {P : Program} {w : World} {K : PySem.W.Frag} {mg : Str → Option Value} {base : Heap} {C CI fE fW fBt fWr : Addr}
theorem hu_ofH {A : Around} {k : Nat} (hr : L2H.RoomH k A) : A.units + 1 < cLine := by
  have := hr.un
  omega
theorem ok_writeKH {f : Addr} {fd : FuncData} (F : Fun K "write" "write" sWrite f fd) : L2H.FnH P w K mg base CX0 1 f fd ["table", "key", "value"] spWriteK := by
  refine HQ.okH F scWrite (fun vs H Q E h => ?_) (fun cdv A outer s H vs Q E pn hot hr h => ?_)
  · obtain ⟨d, g, x, l, rfl, _⟩ := h
    rfl
  · obtain ⟨d, g, x, l, rfl, hd, hl, k⟩ := h
    have hu := hu_ofH hr
    have nd := scWrite.nd
    refine ⟨_, pss_cons (ps_set (i := 3) nd rfl (Or.inl rfl) (pe_dget1 hu (pv 0) (pv 1) ⟨rfl, rfl, rfl, rfl⟩))
      (pss_cons (ps_if (pt_cmp (pc_isN (pv 2))) (pss_one (ps_expr (pe_dpop2 (pv 0) (pv 1) pe_non ⟨rfl, rfl, rfl, rfl⟩))) (pss_one (ps_dput hu (pv 0) (pv 1) (pv 2) rfl)))
      (pss_one (ps_ret (pv 3)))), ?_⟩
    refine ⟨_, rfl, d, rfl, .inl ⟨_, .inl hd⟩, _, rfl, _, DGet.k (k := Sum.inr g) hd, ?_⟩
    rw [show valV (enc cA l) (Sum.inr g : Key) = (lget l g).map V.int from enc_get cA_inj l g, ov_get]
    refine ⟨_, rfl, _, rfl, ?_⟩
    rw [ov_isN]
    cases x with
    | none =>
      refine iteT ⟨_, rfl, d, rfl, .inl ⟨_, .inl hd⟩, _, rfl, _, Sum.inr g, hd, rfl, fun v hv => ?_, fun hn => ?_⟩
      · have e : dropK (enc cA l) (Sum.inr g : Key) = enc cA (ldrop l g) := enc_drop cA_inj l g
        rw [e]
        exact ⟨_, rfl, k⟩
      · rw [show valV (enc cA l) (Sum.inr g : Key) = (lget l g).map V.int from enc_get cA_inj l g, Option.map_eq_none_iff] at hn
        rw [ldrop_none hn, upd_id hd] at k
        exact ⟨_, rfl, k⟩
    | some n =>
      refine iteF ⟨_, rfl, _, rfl, _, rfl, d, _, rfl, DPut.k (k := Sum.inr g) hd (small1000 (by unfold enc; rw [List.length_map]; exact hl)), ?_⟩
      have e : putK (enc cA l) (Sum.inr g : Key) (.int n) = enc cA (lput l g n) := enc_put cA_inj l g n
      rw [show ov (some n) = V.int n from rfl, e]
      exact ⟨_, rfl, k⟩
theorem ok_writeTH {f : Addr} {fd : FuncData} (F : Fun K "write" "write" sWrite f fd) : L2H.FnH P w K mg base CX0 1 f fd ["table", "key", "value"] spWriteT := by
  refine HQ.okH F scWrite (fun vs H Q E h => ?_) (fun cdv A outer s H vs Q E pn hot hr h => ?_)
  · obtain ⟨d, q, g, x, l, rfl, _⟩ := h
    rfl
  · obtain ⟨d, q, g, x, l, rfl, hd, hq, hl, k⟩ := h
    have hu := hu_ofH hr
    have nd := scWrite.nd
    have hq' : H q = some (.tup ((cK g).map kV)) := hq
    refine ⟨_, pss_cons (ps_set (i := 3) nd rfl (Or.inl rfl) (pe_dget1 hu (pv 0) (pv 1) ⟨rfl, rfl, rfl, rfl⟩))
      (pss_cons (ps_if (pt_cmp (pc_isN (pv 2))) (pss_one (ps_expr (pe_bm PySem.F.plainAttrs_dict PySem.F.slot_dict_pop PySem.F.type_dict_pop (DX.mt_popT hu) (pv 0) (pa_cons (pv 1) (pa_cons pe_non pa_nil))))) (pss_one (ps_dput hu (pv 0) (pv 1) (pv 2) rfl)))
      (pss_one (ps_ret (pv 3)))), ?_⟩
    refine ⟨_, rfl, d, rfl, .inr ⟨_, .inl hd⟩, _, rfl, _, DGet.t (k := cK g) hd hq', ?_⟩
    rw [enc_get cK_inj l g, ov_get]
    refine ⟨_, rfl, _, rfl, ?_⟩
    rw [ov_isN]
    cases x with
    | none =>
      refine iteT ⟨_, rfl, .inr (.inr (.inl ⟨rfl, .inr ⟨_, hd⟩⟩)), _, rfl, d, _, cK g, q, _, rfl, rfl, hd, hq', fun v hv => ?_, fun hn => ?_⟩
      · rw [enc_drop cK_inj l g]
        exact ⟨_, rfl, k⟩
      · rw [enc_get cK_inj l g, Option.map_eq_none_iff] at hn
        rw [ldrop_none hn, upd_id hd] at k
        exact ⟨_, rfl, k⟩
    | some n =>
      refine iteF ⟨_, rfl, _, rfl, _, rfl, d, _, rfl, DPut.t (k := cK g) hd hq' (small1000 (by unfold enc; rw [List.length_map]; exact hl)), ?_⟩
      rw [show ov (some n) = V.int n from rfl, enc_put cK_inj l g n]
      exact ⟨_, rfl, k⟩
end
def back1 (st : FSt) : Rec → FSt
  | .adv g x => setA st g x
  | .krn l r x => setK st (l, r) x
  | .blank n => setB st n
def backs (st : FSt) (rs : List Rec) : FSt := rs.reverse.foldl back1 st
theorem lput_len {κ : Type} [DecidableEq κ] (l : List (κ × Int)) (k : κ) (v : Int) : (lput l k v).length ≤ l.length + 1 := by
  unfold lput
  split
  · rw [List.length_map]; omega
  · rw [List.length_append]; show l.length + 1 ≤ _; omega
theorem ldrop_len {κ : Type} [DecidableEq κ] (l : List (κ × Int)) (k : κ) : (ldrop l k).length ≤ l.length := List.length_filter_le _ _
theorem setA_len (st : FSt) (g : Str) (x : Option Int) : (setA st g x).adv.length ≤ st.adv.length + 1 := by
  cases x with
  | none => exact Nat.le_succ_of_le (ldrop_len _ _)
  | some n => exact lput_len _ _ _
theorem setK_len (st : FSt) (g : Str × Str) (x : Option Int) : (setK st g x).krn.length ≤ st.krn.length + 1 := by
  cases x with
  | none => exact Nat.le_succ_of_le (ldrop_len _ _)
  | some n => exact lput_len _ _ _
theorem back1_len (st : FSt) (r : Rec) : (back1 st r).adv.length ≤ st.adv.length + 1 ∧ (back1 st r).krn.length ≤ st.krn.length + 1 := by
  cases r with
  | adv g x => exact ⟨setA_len _ _ _, Nat.le_succ _⟩
  | krn l r x => exact ⟨Nat.le_succ _, setK_len _ _ _⟩
  | blank n => exact ⟨Nat.le_succ _, Nat.le_succ _⟩
theorem backs_len (st : FSt) (rs : List Rec) : (rs.foldl back1 st).adv.length ≤ st.adv.length + rs.length ∧ (rs.foldl back1 st).krn.length ≤ st.krn.length + rs.length := by
  induction rs generalizing st with
  | nil => exact ⟨Nat.le_refl _, Nat.le_refl _⟩
  | cons r t ih =>
    have := ih (back1 st r)
    have h := back1_len st r
    simp only [List.foldl_cons, List.length_cons]
    omega
theorem paired_rev {α β : Type} {R : α → β → Prop} : ∀ {as : List α} {bs : List β}, Paired R as bs → Paired R as.reverse bs.reverse
  | _, _, .nil => .nil
  | _, _, .cons r t => by
    rw [List.reverse_cons, List.reverse_cons]
    exact paired_snoc (paired_rev t) r
theorem paired_at {α β : Type} {R : α → β → Prop} : ∀ {as : List α} {bs : List β} {i : Nat} {a : α}, Paired R as bs → as[i]? = some a → ∃ b, bs[i]? = some b ∧ R a b
  | _, _, i, _, .nil, h => by cases i <;> cases h
  | _, _, 0, _, .cons r _, h => by
    cases h
    exact ⟨_, rfl, r⟩
  | _, _, i + 1, _, .cons _ t, h => paired_at (i := i) t (by simpa using h)
def spBack (C : Addr) : Sp := fun vs H Q _ => ∃ (p l : Addr) (o : Own) (st : FSt) (past : List (List Rec)) (rs : List Rec), vs = [.ref p, .ref l] ∧ FontAt C H p o st past ∧ RecsAt H l rs ∧ st.adv.length + rs.length ≤ 1000 ∧ st.krn.length + rs.length ≤ 1000 ∧
  ∀ H', KeepF p o H H' → FontAt C H' p o (backs st rs) past → Q .non H'
def spUndo (C CN : Addr) : Sp := fun vs H Q E => ∃ (p : Addr) (o : Own) (st : FSt) (past : List (List Rec)), vs = [.ref p] ∧ FontAt C H p o st past ∧
  (past = [] → E (.ref CN) none H) ∧
  (∀ ps rs, past = ps ++ [rs] → st.adv.length + rs.length ≤ 1000 ∧ st.krn.length + rs.length ≤ 1000 ∧ ∀ H', KeepF p o H H' → FontAt C H' p o (backs st rs) ps → Q .non H')
def spBlank (C : Addr) : Sp := fun vs H Q _ => ∃ (p : Addr) (o : Own) (st : FSt) (past : List (List Rec)), vs = [.ref p] ∧ FontAt C H p o st past ∧ Q (.int st.blank) H
def spChanges (C : Addr) : Sp := fun vs H Q _ => ∃ (p : Addr) (o : Own) (st : FSt) (past : List (List Rec)), vs = [.ref p] ∧ FontAt C H p o st past ∧ Q (.int past.length) H
section
variable {P : Program} {w : World} {K : PySem.W.Frag} {mg : Str → Option Value} {base : Heap} {C CI fE fW fBt fWr : Addr}
abbrev sBlank : Stmt := inClass (top 17) 19
theorem scBlank : FnScope ["self"] ["self"] (defScope sBlank) := ⟨rfl, rfl, rfl, by decide +kernel, rfl, by decide +kernel, by decide +kernel⟩
theorem ok_blank {f : Addr} {fd : FuncData} (F : Fun K "blank" "Font.blank" sBlank f fd) (T : TxF K mg C CI fE fW fBt fWr) : FnOk P w K mg base CX0 1 f fd ["self"] (spBlank C) := by
  refine F.ok scBlank (fun vs H Q E h => ?_) (fun cdv A outer s H vs Q E hr h => ?_)
  · obtain ⟨p, o, st, past, rfl, _⟩ := h
    rfl
  · obtain ⟨p, o, st, past, rfl, FA, k⟩ := h
    refine ⟨_, pss_one (ps_ret (pe_fld (pv 0) rfl)), ?_⟩
    exact ⟨_, rfl, p, C, _, _, _, rfl, FA.ob, T.cl, T.nB, fflds_blank _ _, k⟩
abbrev sChanges : Stmt := inClass (top 17) 21
theorem scChanges : FnScope ["self"] ["self"] (defScope sChanges) := ⟨rfl, rfl, rfl, by decide +kernel, rfl, by decide +kernel, by decide +kernel⟩
theorem ok_changes {f : Addr} {fd : FuncData} (F : Fun K "changes" "Font.changes" sChanges f fd) (T : TxF K mg C CI fE fW fBt fWr) : FnOk P w K mg base CX0 1 f fd ["self"] (spChanges C) := by
  refine F.ok scChanges (fun vs H Q E h => ?_) (fun cdv A outer s H vs Q E hr h => ?_)
  · obtain ⟨p, o, st, past, rfl, _⟩ := h
    rfl
  · obtain ⟨p, o, st, past, rfl, FA, k⟩ := h
    obtain ⟨ls, hp, hP, _⟩ := FA.dp
    refine ⟨_, pss_one (ps_ret (pe_callB call_len_seq (by rfl) T.len PySem.boot_len (pa_cons (pe_fld (pv 0) rfl) pa_nil))), ?_⟩
    refine ⟨_, rfl, p, C, _, _, _, rfl, FA.ob, T.cl, T.nP, fflds_past _ _, o.dP, _, rfl, .inl (SqL.of hp), ?_⟩
    rw [List.length_map, pair_len hP]
    exact k
abbrev sBack : Stmt := inClass (top 17) 42
theorem scBack : FnScope ["self", "records", "word", "key", "old"] ["self", "records"] (defScope sBack) := ⟨rfl, rfl, rfl, by decide +kernel, rfl, by decide +kernel, by decide +kernel⟩
theorem ok_backH {f : Addr} {fd fdWr : FuncData} (F : Fun K "_take_back" "Font._take_back" sBack f fd) (T : TxF K mg C CI fE fW fBt fWr) (GK : L2H.FnH P w K mg base CX0 1 fWr fdWr ["table", "key", "value"] spWriteK)
    (GT : L2H.FnH P w K mg base CX0 1 fWr fdWr ["table", "key", "value"] spWriteT) (bW : Binds K fdWr ["table", "key", "value"] []) : L2H.FnH P w K mg base CX0 2 f fd ["self", "records"] (spBack C) := by
  refine HQ.okH F scBack (fun vs H Q E h => ?_) (fun cdv A outer s H vs Q E pn hot hr h => ?_)
  · obtain ⟨p, l, o, st, past, rs, rfl, _⟩ := h
    rfl
  · obtain ⟨p, l, o, st, past, rs, rfl, FA, ⟨ts, hl, hts⟩, z1, z2, k⟩ := h
    have nd := scBack.nd
    have hc : L2H.HotC (L2H.cxH CX0 P w K mg base ["self", "records", "word", "key", "old"] "Font._take_back" (defScope sBack) f cdv A outer s H E pn) := ⟨pn, ⟨hot.1, hot.2⟩, List.mem_cons_self⟩
    refine ⟨_, pss_one (L2H.ps_forH (passes_of rfl) hc (pi_listH (pe_revL (pv 1))) (pg_tupH hc (pgs_cons (pg_name (i := 2) nd rfl (Or.inl rfl)) (pgs_cons (pg_name (i := 3) nd rfl (Or.inl rfl)) (pgs_cons (pg_name (i := 4) nd rfl (Or.inl rfl)) pgs_nil))))
      (pss_one (ps_if (pt_cmpR op_eq (pv 2) pe_str (nomark _)) (pss_one (ps_expr (L2H.pe_callH (E := fun _ => E0) GK hr hc (by rfl) T.wr.g T.wr.k bW (fun _ _ _ _ _ _ _ z => z.elim) (pa_cons (pe_fld (pv 0) rfl) (pa_cons (pv 3) (pa_cons (pv 4) pa_nil))))))
        (pss_one (ps_if (pt_cmpR op_eq (pv 2) pe_str (nomark _)) (pss_one (ps_expr (L2H.pe_callH (E := fun _ => E0) GT hr hc (by rfl) T.wr.g T.wr.k bW (fun _ _ _ _ _ _ _ z => z.elim) (pa_cons (pe_fld (pv 0) rfl) (pa_cons (pv 3) (pa_cons (pv 4) pa_nil))))))
          (pss_one (ps_fld (pv 0) (pv 4) rfl))))))), ?_⟩
    refine ⟨_, rfl, l, _, rfl, SqL.of hl, fun m hm => ⟨m, rfl, ⟨_, SqL.of upd_same⟩, ?_⟩⟩
    have hrev : (ts.map V.ref).reverse = ts.reverse.map V.ref := List.map_reverse.symm
    rw [hrev]
    have prt : Paired (RecAt H) ts.reverse rs.reverse := paired_rev hts
    have sm0 : Same H (upd H m (.lst (ts.reverse.map V.ref))) := same_upd hm
    have hmP : m ≠ o.dP := fun z => by
      obtain ⟨ls, hp, _⟩ := FA.dp
      rw [z, hp] at hm
      cases hm
    have lens : ∀ i, ((rs.reverse.take i).foldl back1 st).adv.length ≤ 1000 ∧ ((rs.reverse.take i).foldl back1 st).krn.length ≤ 1000 := fun i => by
      have h := backs_len st (rs.reverse.take i)
      have hi : (rs.reverse.take i).length ≤ rs.length := by rw [List.length_take, List.length_reverse]; exact Nat.min_le_right _ _
      omega
    refine for_list (K := K) (a := m) (xs := ts.reverse.map V.ref) (fun i σ H' => ∃ a b c : Option V, σ = [some (.ref p), some (.ref l), a, b, c] ∧ KeepF p o (upd H m (.lst (ts.reverse.map V.ref))) H' ∧ FontAt C H' p o ((rs.reverse.take i).foldl back1 st) past)
      ⟨none, none, none, rfl, KeepF.refl, FA.sm sm0⟩ (fun i σ H' _ ⟨_, _, _, _, kf, _⟩ => SqL.of ((FA.sm sm0).keepL kf upd_same hmP)) ?_ ?_
    · rintro i x σ H' hx ⟨a, b, c, rfl, kf, F1⟩
      rw [List.getElem?_map, Option.map_eq_some_iff] at hx
      obtain ⟨t, ht, rfl⟩ := hx
      obtain ⟨r, hrr, hrt⟩ := paired_at prt ht
      have ln := lens (i + 1)
      have ln0 := lens i
      have hrt' : RecAt H' t r := (FA.sm sm0).recd kf (RecAt.sm (fun a xs => sm0 a _) hrt)
      obtain ⟨k1, k2, k3, k4, k5, k6⟩ := F1.kinds
      have nx : ∀ H2, KeepF p o H' H2 → FontAt C H2 p o (back1 ((rs.reverse.take i).foldl back1 st) r) past → KeepF p o (upd H m (.lst (ts.reverse.map V.ref))) H2 ∧ FontAt C H2 p o ((rs.reverse.take (i + 1)).foldl back1 st) past := fun H2 k2 F2 => by
        rw [foldl_take back1 st hrr]
        exact ⟨kf.trans k2, F2⟩
      rw [foldl_take back1 st hrr] at ln
      generalize (rs.reverse.take i).foldl back1 st = s1 at F1 nx ln ln0
      cases r with
      | adv g old =>
        refine ⟨t, _, rfl, SqT.of hrt', rfl, _, _, rfl, _, _, rfl, _, _, rfl, rfl, ?_⟩
        refine ⟨_, rfl, rfl, _, rfl, ?_⟩
        rw [decide_eq_true rfl]
        refine iteT ⟨_, rfl, p, C, _, _, _, rfl, F1.ob, T.cl, T.nA, fflds_adv _ _, _, rfl, _, rfl, o.dA, g, old, s1.adv, rfl, F1.da, ln0.1, ?_⟩
        refine ⟨_, _, _, rfl, nx _ (KeepF.upA _) ?_⟩
        exact F1.put (st' := setA s1 g old) (KeepF.upA _) ((upd_ne k1).trans F1.ob) upd_same ((upd_ne (Ne.symm k4)).trans F1.dn) (fun u e => (upd_ne (Ne.symm k5)).trans e) ln
      | krn x y old =>
        obtain ⟨q, hq, hq2⟩ := hrt'
        refine ⟨t, _, rfl, SqT.of hq, rfl, _, _, rfl, _, _, rfl, _, _, rfl, rfl, ?_⟩
        refine ⟨_, rfl, rfl, _, rfl, ?_⟩
        rw [dec_str, show (("kern" : Str) == "advance") = false from by decide +kernel]
        refine iteF ⟨_, rfl, rfl, _, rfl, ?_⟩
        rw [decide_eq_true rfl]
        refine iteT ⟨_, rfl, p, C, _, _, _, rfl, F1.ob, T.cl, T.nN, fflds_krn _ _, _, rfl, _, rfl, o.dN, q, (x, y), old, s1.krn, rfl, F1.dn, hq2, ln0.2, ?_⟩
        refine ⟨_, _, _, rfl, nx _ (KeepF.upN _) ?_⟩
        exact F1.put (st' := setK s1 (x, y) old) (KeepF.upN _) ((upd_ne k2).trans F1.ob) ((upd_ne k4).trans F1.da) upd_same (fun u e => (upd_ne (Ne.symm k6)).trans e) ln
      | blank n =>
        refine ⟨t, _, rfl, SqT.of hrt', rfl, _, _, rfl, _, _, rfl, _, _, rfl, rfl, ?_⟩
        refine ⟨_, rfl, rfl, _, rfl, ?_⟩
        rw [dec_str, show (("blank" : Str) == "advance") = false from by decide +kernel]
        refine iteF ⟨_, rfl, rfl, _, rfl, ?_⟩
        rw [dec_str, show (("blank" : Str) == "kern") = false from by decide +kernel]
        refine iteF ⟨_, rfl, _, rfl, p, C, _, _, rfl, F1.ob, T.cl, T.nB, (by show 4 < 1000; decide), ?_⟩
        rw [fflds_put]
        refine ⟨_, _, _, rfl, nx _ (KeepF.upO _) ?_⟩
        exact F1.put (st' := setB s1 n) (KeepF.upO _) upd_same ((upd_ne (Ne.symm k1)).trans F1.da) ((upd_ne (Ne.symm k2)).trans F1.dn) (fun u e => (upd_ne (Ne.symm k3)).trans e) ln
    · rintro σ H' ⟨_, _, _, _, kf, F1⟩
      refine k H' ((KeepF.same sm0).trans kf) ?_
      have e : ((rs.reverse.take (ts.reverse.map V.ref).length).foldl back1 st) = backs st rs := by
        rw [List.take_of_length_le (Nat.le_of_eq (by rw [List.length_map, pair_len prt]))]
        rfl
      rw [← e]
      exact F1
end
/-! ### set_advance, an item set -/
/-- an advance of a glyph whose letters are there: set, or one ligature too many -/
def spSetA (C CT : Addr) : Sp := fun vs H Q E => ∃ (p : Addr) (g : Str) (n : Int) (o : Own) (st : FSt) (past : List (List Rec)), vs = [.ref p, .str g, .int n] ∧ FontAt C H p o st past ∧ nameB g = true ∧ g.length ≤ 1000 ∧ 0 ≤ n ∧ n ≤ 1000000 ∧
  (∀ e ∈ st.adv, e.1.length ≤ 1000) ∧ (g.length ≤ 1 ∨ missing st g = none) ∧ (roomless st g = true → ∀ H' d, Same H H' → H' d = none → E (.ref CT) (some d) (upd H' d (.xd [("limit", .int 40)]))) ∧
  (roomless st g = false → Wide st g n ∧ (setA st g (some n)).adv.length ≤ 1000 ∧ ∀ H', KeepF p o H H' → FontAt C H' p o (setA st g (some n)) (remember past [.adv g (lget st.adv g)]) → Q .non H')
section
variable {P : Program} {w : World} {K : PySem.W.Frag} {mg : Str → Option Value} {base : Heap} {C CI CU CT CG fE fW fBt fWr : Addr}
abbrev sSetA : Stmt := inClass (top 17) 22
theorem scSetA : FnScope ["self", "glyph", "advance"] ["self", "glyph", "advance"] (defScope sSetA) := ⟨rfl, rfl, rfl, by decide +kernel, rfl, by decide +kernel, by decide +kernel⟩
theorem ok_setA {f fP fR : Addr} {fd fdP fdR : FuncData} (F : Fun K "set_advance" "Font.set_advance" sSetA f fd) (T : TxF K mg C CI fE fW fBt fWr) (GP : FnOk P w K mg base (L2N.CX P w) 6 fP fdP ["self", "glyph", "advance"] (spPutA K C CI CU CT CG)) (bP : Binds K fdP ["self", "glyph", "advance"] [])
    (mP : Meth K C "_put_advance" fP) (GR : FnOk P w K mg base CX0 1 fR fdR ["self", "records"] (spRemember C)) (bR : Binds K fdR ["self", "records"] []) (mR : Meth K C "_remember" fR) : FnOk P w K mg base (L2N.CX P w) 7 f fd ["self", "glyph", "advance"] (spSetA C CT) := by
  refine okN F scSetA (fun vs H Q E h => ?_) (fun cdv A outer s H vs Q E hr h => ?_)
  · obtain ⟨p, g, n, o, st, past, rfl, _⟩ := h
    rfl
  · obtain ⟨p, g, n, o, st, past, rfl, FA, hn, hl, n0, n1, hls, hm, kE, k⟩ := h
    refine ⟨_, pss_one (ps_expr (pe_meth (pv 0) T.cl mR GR (hr.mono (by decide)) bR .nil pass0 (pa_cons (pe_meth (pv 0) T.cl mP GP hr bP .nil (L2N.passes_call (L2N.takes_of rfl rfl rfl rfl) (fun _ _ _ _ h => h)) (pa_cons (pv 1) (pa_cons (pv 2) pa_nil))) pa_nil))), ?_⟩
    have no : ∀ {m : Str}, (m == ("_advances" : Str)) = false → (m == ("_kerns" : Str)) = false → (m == ("_blank" : Str)) = false → (m == ("_past" : Str)) = false → (fflds o st.blank).lookup m = none := fun a b c d => fflds_no _ _ a b c d
    refine ⟨_, rfl, p, _, _, rfl, FA.ob, no (by decide +kernel) (by decide +kernel) (by decide +kernel) (by decide +kernel), _, rfl, p, _, _, rfl, FA.ob, no (by decide +kernel) (by decide +kernel) (by decide +kernel) (by decide +kernel), _, rfl, _, rfl, ?_⟩
    refine ⟨p, .str g, .int n, true, true, false, o, st, past, rfl, FA, Ks.str, IsS.str, fun g2 e => (V.str.inj e) ▸ hl, Kd.int, fun _ => ⟨n, rfl⟩, fun z => (by cases z), hls, fun z => (by rw [show nameV (.str g) = nameB g from rfl, hn] at z; cases z), fun _ z => (z ⟨n, rfl, n0, n1⟩).elim, fun g2 n2 e1 _ e2 _ _ => ?_⟩
    cases e1
    cases e2
    refine ⟨fun h1 c hc => ?_, fun _ => ⟨kE, fun hro => ?_⟩⟩
    · rcases hm with z | z
      · omega
      · rw [z] at hc; cases hc
    · obtain ⟨k1, k2, k3⟩ := k hro
      refine ⟨k1, k2, fun H' l hl2 kf F1 hr1 => ?_⟩
      obtain ⟨ls, hp, _⟩ := FA.dp
      exact ⟨p, l, o, setA st g (some n), past, [.adv g (lget st.adv g)], rfl, F1, hr1, fun z => (by rw [z, hp] at hl2; cases hl2), fun H2 kf2 F2 => k3 H2 (kf.trans kf2) F2⟩
abbrev sSetI : Stmt := inClass (top 17) 11
theorem scSetI : FnScope ["self", "at", "worth"] ["self", "at", "worth"] (defScope sSetI) := ⟨rfl, rfl, rfl, by decide +kernel, rfl, by decide +kernel, by decide +kernel⟩
theorem ok_setI {f fA : Addr} {fd fdA : FuncData} (F : Fun K "__setitem__" "Font.__setitem__" sSetI f fd) (T : TxF K mg C CI fE fW fBt fWr) (GA : FnOk P w K mg base (L2N.CX P w) 7 fA fdA ["self", "glyph", "advance"] (spSetA C CT)) (bA : Binds K fdA ["self", "glyph", "advance"] []) (mA : Meth K C "set_advance" fA) :
    FnOk P w K mg base (L2N.CX P w) 8 f fd ["self", "at", "worth"] (spSetA C CT) := by
  refine okN F scSetI (fun vs H Q E h => ?_) (fun cdv A outer s H vs Q E hr h => ?_)
  · obtain ⟨p, g, n, o, st, past, rfl, _⟩ := h
    rfl
  · refine ⟨_, pss_one (ps_expr (pe_meth (pv 0) T.cl mA GA hr bA .nil (L2N.passes_call (L2N.takes_of rfl rfl rfl rfl) (fun _ _ _ _ h => h)) (pa_cons (pv 1) (pa_cons (pv 2) pa_nil)))), ?_⟩
    obtain ⟨p, g, n, o, st, past, rfl, FA, r⟩ := h
    exact ⟨_, rfl, p, _, _, rfl, FA.ob, fflds_no _ _ (by decide +kernel) (by decide +kernel) (by decide +kernel) (by decide +kernel), _, rfl, _, rfl, p, g, n, o, st, past, rfl, FA, r⟩
end
/-! ### Font.__init__, every step accepted -/
def advOf (fa : AdvL) (g : Str) : Int := (lget fa g).getD 0
def keysA (fa : AdvL) : List Str := (fa.map (·.1)).mergeSort (PySem.W.dataLe false kRank)
def keysK (fk : KrnL) : List (Str × Str) := (fk.map (·.1)).mergeSort (PySem.W.dataLe false kPlace)
def stA (fa : AdvL) (b : Int) (i : Nat) : FSt := ((keysA fa).take i).foldl (fun st g => setA st g (some (advOf fa g))) ⟨[], [], b⟩
def stK (fk : KrnL) (st : FSt) (i : Nat) : FSt := ((keysK fk).take i).foldl (fun st g => setK st g (kx (kernOf fk g))) st
def StepA (st : FSt) (g : Str) (n : Int) : Prop := nameB g = true ∧ 0 ≤ n ∧ n ≤ 1000000 ∧ (g.length ≤ 1 ∨ missing st g = none) ∧ roomless st g = false ∧ Wide st g n ∧ (setA st g (some n)).adv.length ≤ 1000 ∧ (∀ e ∈ st.adv, e.1.length ≤ 1000)
def StepK (st : FSt) (g : Str × Str) (n : Int) : Prop := -1000000 ≤ n ∧ n ≤ 1000000 ∧ ∃ x y, lget st.adv g.1 = some x ∧ lget st.adv g.2 = some y ∧ 0 ≤ x + n ∧ 0 ≤ y + n ∧ (setK st g (kx n)).krn.length ≤ 1000
/-- a face that the constructor accepts, and the font's state then -/
structure Face (fa : AdvL) (fk : KrnL) (b : Int) : Prop where
  b0 : 0 ≤ b
  b1 : b ≤ 1000000
  la : fa.length ≤ 1000
  lk : fk.length ≤ 1000
  ln : ∀ e ∈ fa, e.1.length ≤ 1000
  sa : ∀ i g, (keysA fa)[i]? = some g → StepA (stA fa b i) g (advOf fa g)
  sk : ∀ i g, (keysK fk)[i]? = some g → StepK (stK fk (stA fa b fa.length) i) g (kernOf fk g)
def endSt (fa : AdvL) (fk : KrnL) (b : Int) : FSt := stK fk (stA fa b fa.length) fk.length
def KrnArg (H : Hp) (v : V) (fk : KrnL) : Prop := (∃ k, v = .ref k ∧ H k = some (.dT (enc cK fk))) ∨ (v = .non ∧ fk = [])
def spFont (C : Addr) : Sp := fun vs H Q _ => ∃ (p dx a : Addr) (kv : V) (fa : AdvL) (fk : KrnL) (b : Int), vs = [.ref p, .ref a, kv, .int b] ∧ H p = some (.ins C dx []) ∧ H a = some (.dK (enc cA fa)) ∧ KrnArg H kv fk ∧ Face fa fk b ∧
  ∀ H' (o : Own), o.dx = dx → (∀ c u, H c = some u → c ≠ p → H' c = some u) → H o.dA = none → H o.dN = none → H o.dP = none → FontAt C H' p o (endSt fa fk b) [] → Q .non H'
theorem sort_place (xs : List (Addr × (Str × Str))) : (xs.mergeSort (PySem.W.dataLe false fun x => kPlace x.2)).map (·.2) = (xs.map (·.2)).mergeSort (PySem.W.dataLe false kPlace) := List.map_mergeSort fun a _ b _ => rfl
section
variable {P : Program} {w : World} {K : PySem.W.Frag} {mg : Str → Option Value} {base : Heap} {C CI fE fW fBt fWr fHas fLen CU fEU fPl fPP CT CG CO : Addr}
abbrev sInit : Stmt := inClass (top 17) 4
theorem scInit : FnScope ["self", "advances", "kerns", "blank", "glyph", "pairs", "left", "right"] ["self", "advances", "kerns", "blank"] (defScope sInit) := ⟨rfl, rfl, rfl, by decide +kernel, rfl, by decide +kernel, by decide +kernel⟩
theorem ok_font {f fB fA fK : Addr} {fd fdB fdA fdK : FuncData} {t0 : Tok} (F : FunD K "__init__" "Font.__init__" (defArgs sInit) (defBody sInit) (defScope sInit) [.non] [("blank", .int 250)] f fd) (T : TxF K mg C CI fE fW fBt fWr) (U : TxH K mg C fHas fLen CU fEU fPl)
    (mB : mg "BLANK" = some (.int 250 t0)) (pp : mg "pair_place" = some (.ref fPP)) (GP : KeyStr P w K mg base fPl kRank) (GQ : KeyPair P w K mg base fPP kPlace)
    (GB : FnOk P w K mg base (L2N.CX P w) 4 fB fdB ["self", "advance"] (spPutB K C CI)) (bB : Binds K fdB ["self", "advance"] []) (eB : Meth K C "_put_blank" fB)
    (GA : FnOk P w K mg base (L2N.CX P w) 6 fA fdA ["self", "glyph", "advance"] (spPutA K C CI CU CT CG)) (bA : Binds K fdA ["self", "glyph", "advance"] []) (eA : Meth K C "_put_advance" fA)
    (GK : FnOk P w K mg base (L2N.CX P w) 4 fK fdK ["self", "left", "right", "kern"] (spPutK K C CI CU CO)) (bK : Binds K fdK ["self", "left", "right", "kern"] []) (eK : Meth K C "_put_kern" fK) : FnOk P w K mg base (L2N.CX P w) 7 f fd ["self", "advances", "kerns", "blank"] (spFont C) := by
  refine F.ok scInit (fun vs H Q E h => ?_) (fun cdv A outer s H vs Q E hr h => ?_)
  · obtain ⟨p, dx, a, kv, fa, fk, b, rfl, _⟩ := h
    rfl
  · obtain ⟨p, dx, a, kv, fa, fk, b, rfl, hp, ha, hk, FC, kQ⟩ := h
    have nd := scInit.nd
    have hu := hu_of hr
    refine ⟨_, pss_cons (ps_fld (pv 0) pe_dnewK rfl) (pss_cons (ps_fld (pv 0) pe_dnewT rfl) (pss_cons (ps_fld (pv 0) (pe_glob (v := .int 250) (by rfl) mB ⟨_, rfl⟩) rfl) (pss_cons (ps_fld (pv 0) (pe_lst pa_nil) rfl)
      (pss_cons (ps_expr (pe_meth (pv 0) T.cl eB GB (hr.mono (by decide)) bB .nil (L2N.passes_call (L2N.takes_of rfl rfl rfl rfl) (fun _ _ _ _ h => h)) (pa_cons (pv 3) pa_nil)))
      (pss_cons (ps_for (passes_of rfl) rfl (pi_list (pe_callBK (cr_sortedK (f := fPl) (val := V.str) (ok := fun _ _ x => x.length ≤ 1000) (k := kRank) rfl (hr.mono (by decide))) (by rfl) U.mSorted (by decide +kernel) (pa_cons (pe_callTy (call_list_dK rfl) (by rfl) U.mList (by decide +kernel) (pa_cons (pv 1) pa_nil)) pa_nil) (pk_cons (pe_glob (v := .ref fPl) (by rfl) U.pl rfl) pk_nil)))
        (pg_name (i := 4) nd rfl (Or.inl rfl)) (pss_one (ps_expr (pe_meth (pv 0) T.cl eA GA hr bA .nil (L2N.passes_call (L2N.takes_of rfl rfl rfl rfl) (fun _ _ _ _ h => h)) (pa_cons (pv 4) (pa_cons (pe_dget hu (pv 1) (pv 4) (fun _ _ => rfl)) pa_nil))))))
      (C8.pss_cut (ps_set (i := 5) nd rfl (Or.inl rfl) (pe_ifExp (pt_cmp (pc_isN (pv 2))) pe_dnewT (pv 2)))
      (pss_one (ps_for (passes_of rfl) rfl (pi_list (pe_callBK (cr_sortedK (f := fPP) (val := fun x => V.ref x.1) (ok := fun hp _ x => ∃ t1 t2, PyProof.Rows.IsTup hp x.1 #[.str x.2.1 t1, .str x.2.2 t2]) (k := fun x : Addr × (Str × Str) => kPlace x.2) rfl (hr.mono (by decide))) (by rfl) U.mSorted (by decide +kernel) (pa_cons (pe_callTy (call_list_dT rfl) (by rfl) U.mList (by decide +kernel) (pa_cons (pv 5) pa_nil)) pa_nil) (pk_cons (pe_glob (v := .ref fPP) (by rfl) pp rfl) pk_nil)))
        (pg_tup rfl (pgs_cons (pg_name (i := 6) nd rfl (Or.inl rfl)) (pgs_cons (pg_name (i := 7) nd rfl (Or.inl rfl)) pgs_nil)))
        (pss_one (ps_expr (pe_meth (pv 0) T.cl eK GK (hr.mono (by decide)) bK .nil (L2N.passes_call (L2N.takes_of rfl rfl rfl rfl) (fun _ _ _ _ h => h)) (pa_cons (pv 6) (pa_cons (pv 7) (pa_cons (pe_dget hu (pv 5) (pe_tup (pa_cons (pv 6) (pa_cons (pv 7) pa_nil))) (fun _ _ => rfl)) pa_nil)))))))))))))), ?_⟩
    have h1000 : (4 : Nat) < 1000 := by decide
    refine fun dA hA => ⟨_, rfl, p, C, dx, [], rfl, (upd_ne (fresh_of hA hp)).trans hp, T.cl, T.nA, (by show 0 < 1000; decide), ?_⟩
    obtain ⟨H1, e1⟩ : ∃ H1, H1 = upd (upd H dA (.dK [])) p (.ins C dx (putF "_advances" (.ref dA) [])) := ⟨_, rfl⟩
    rw [← e1]
    refine fun dN hN => ?_
    have p1 : H1 p = some (.ins C dx (putF "_advances" (.ref dA) [])) := by rw [e1]; exact upd_same
    refine ⟨_, rfl, p, C, dx, _, rfl, (upd_ne (fresh_of hN p1)).trans p1, T.cl, T.nN, (by show 1 < 1000; decide), ?_⟩
    obtain ⟨H2, e2⟩ : ∃ H2, H2 = upd (upd H1 dN (.dT [])) p (.ins C dx (putF "_kerns" (.ref dN) (putF "_advances" (.ref dA) []))) := ⟨_, rfl⟩
    rw [← e2]
    have p2 : H2 p = some (.ins C dx (putF "_kerns" (.ref dN) (putF "_advances" (.ref dA) []))) := by rw [e2]; exact upd_same
    refine ⟨_, rfl, p, C, dx, _, rfl, p2, T.cl, T.nB, (by show 2 < 1000; decide), ?_⟩
    obtain ⟨H3, e3⟩ : ∃ H3, H3 = upd H2 p (.ins C dx (putF "_blank" (.int 250) (putF "_kerns" (.ref dN) (putF "_advances" (.ref dA) [])))) := ⟨_, rfl⟩
    rw [← e3]
    have p3 : H3 p = some (.ins C dx (putF "_blank" (.int 250) (putF "_kerns" (.ref dN) (putF "_advances" (.ref dA) [])))) := by rw [e3]; exact upd_same
    refine ⟨by show 0 ≤ sizeLine; decide, fun dP hP => ?_⟩
    refine ⟨_, rfl, p, C, dx, _, rfl, (upd_ne (fresh_of hP p3)).trans p3, T.cl, T.nP, (by show 3 < 1000; decide), ?_⟩
    obtain ⟨o, eo⟩ : ∃ o : Own, o = ⟨dx, dA, dN, dP⟩ := ⟨_, rfl⟩
    have eff : putF "_past" (.ref dP) (putF "_blank" (.int 250) (putF "_kerns" (.ref dN) (putF "_advances" (.ref dA) []))) = fflds o 250 := by
      rw [eo]
      exact fflds_make ⟨dx, dA, dN, dP⟩ 250
    rw [eff]
    obtain ⟨H4, e4⟩ : ∃ H4, H4 = upd (upd H3 dP (.lst [])) p (.ins C dx (fflds o 250)) := ⟨_, rfl⟩
    rw [← e4]
    have pA : p ≠ dA := fresh_of hA hp
    have pN : p ≠ dN := fresh_of hN p1
    have pP : p ≠ dP := fresh_of hP p3
    have A1 : H1 dA = some (.dK []) := by rw [e1, upd_ne (Ne.symm pA), upd_same]
    have AN : dA ≠ dN := fresh_of hN A1
    have A2 : H2 dA = some (.dK []) := by rw [e2, upd_ne (Ne.symm pA), upd_ne AN, A1]
    have A3 : H3 dA = some (.dK []) := by rw [e3, upd_ne (Ne.symm pA), A2]
    have AP : dA ≠ dP := fresh_of hP A3
    have N2 : H2 dN = some (.dT []) := by rw [e2, upd_ne (Ne.symm pN), upd_same]
    have N3 : H3 dN = some (.dT []) := by rw [e3, upd_ne (Ne.symm pN), N2]
    have NP : dN ≠ dP := fresh_of hP N3
    have A4 : H4 dA = some (.dK []) := by rw [e4, upd_ne (Ne.symm pA), upd_ne AP, A3]
    have N4 : H4 dN = some (.dT []) := by rw [e4, upd_ne (Ne.symm pN), upd_ne NP, N3]
    have P4 : H4 dP = some (.lst []) := by rw [e4, upd_ne (Ne.symm pP), upd_same]
    have F4 : FontAt C H4 p o ⟨[], [], 250⟩ [] := by
      subst eo
      exact ⟨by rw [e4]; exact upd_same, A4, N4, ⟨[], P4, .nil, fun x hx => by cases hx⟩, Nat.zero_le _, Nat.zero_le _, Nat.zero_le _⟩
    have HN : H dN = none := by
      rw [e1] at hN
      exact noneU (noneU hN)
    have HP : H dP = none := by
      rw [e3, e2, e1] at hP
      exact noneU (noneU (noneU (noneU (noneU hP))))
    have st4 : ∀ c u, H c = some u → c ≠ p → H4 c = some u := fun c u e hc => by
      rw [e4, upd_ne hc, upd_ne (fresh_of HP e), e3, upd_ne hc, e2, upd_ne hc, upd_ne (fresh_of HN e), e1, upd_ne hc, upd_ne (fresh_of hA e), e]
    refine ⟨_, rfl, p, _, _, rfl, F4.ob, fflds_no _ _ (by decide +kernel) (by decide +kernel) (by decide +kernel) (by decide +kernel), _, rfl, ?_⟩
    refine ⟨p, .int b, true, false, o, ⟨[], [], 250⟩, [], rfl, F4, Kd.int, fun _ => ⟨b, rfl⟩, fun h => (by cases h), fun hn => absurd ⟨b, rfl, FC.b0, FC.b1⟩ hn, fun n en _ _ H5 l hl5 kf5 F5 _ => ?_⟩
    have en' : n = b := (V.int.inj en).symm
    subst en'
    have oA : o.dA = dA := by rw [eo]
    have oN : o.dN = dN := by rw [eo]
    have oP : o.dP = dP := by rw [eo]
    have keepH : ∀ c u, H c = some u → c ≠ p → c ≠ o.dA ∧ c ≠ o.dN ∧ c ≠ o.dP := fun c u e _ => by
      rw [oA, oN, oP]
      exact ⟨fresh_of hA e, fresh_of HN e, fresh_of HP e⟩
    have ap : a ≠ p := fun z => by rw [z, hp] at ha; cases ha
    obtain ⟨aA, aN, aP⟩ := keepH a _ ha ap
    have a5 : H5 a = some (.dK (enc cA fa)) := kf5 _ _ (st4 _ _ ha ap) ap aA aN aP
    refine ⟨_, rfl, a, _, rfl, a5, fun q hq => ?_⟩
    have kmap : (enc cA fa).map (fun kv => kV kv.1) = (fa.map (·.1)).map V.str := by
      unfold enc
      rw [List.map_map, List.map_map]
      rfl
    rw [kmap]
    refine ⟨q, fa.map (·.1), rfl, rfl, SqL.of upd_same, keyFn_str GP (fun x hx => ?_), fun L hL => ⟨L, rfl, ⟨_, SqL.of upd_same⟩, ?_⟩⟩
    · obtain ⟨e, he, rfl⟩ := List.mem_map.mp hx
      exact FC.ln e he
    obtain ⟨HL, eL⟩ : ∃ HL, HL = upd (upd H5 q (.lst ((fa.map (·.1)).map V.str))) L (.lst ((keysA fa).map V.str)) := ⟨_, rfl⟩
    show ∃ W : Nat → Nat → St → Hp → Prop, (∃ m, W 0 m _ (upd (upd H5 q (.lst ((fa.map (·.1)).map V.str))) L (.lst ((keysA fa).map V.str)))) ∧ _
    rw [← eL]
    have s5L : Same H5 HL := by
      rw [eL]
      exact (same_upd hq).trans (same_upd hL)
    have FL := F5.sm s5L
    have LL : HL L = some (.lst ((keysA fa).map V.str)) := by rw [eL]; exact upd_same
    have L5 : H5 L = none := noneU hL
    have LP : L ≠ o.dP := fun z => by
      obtain ⟨ls, hp5, _⟩ := F5.dp
      rw [z, hp5] at L5
      cases L5
    have aL : HL a = some (.dK (enc cA fa)) := s5L _ _ a5
    refine for_list (K := K) (a := L) (xs := (keysA fa).map V.str) (fun i σ H' => (∃ u w x y : Option V, σ = [some (.ref p), some (.ref a), some kv, some (.int n), u, w, x, y]) ∧ KeepF p o HL H' ∧ FontAt C H' p o (stA fa n i) [])
      ⟨⟨none, none, none, none, rfl⟩, KeepF.refl, FL⟩ (fun i σ H' _ ⟨_, kf, _⟩ => SqL.of (FL.keepL kf LL LP)) ?_ ?_
    · rintro i x σ H' hx ⟨⟨u, w', x', y', rfl⟩, kf, F'⟩
      rw [List.getElem?_map, Option.map_eq_some_iff] at hx
      obtain ⟨g, hg, rfl⟩ := hx
      obtain ⟨c1, c2, c3, c4, c5, c6, c7, c8⟩ := FC.sa i g hg
      have hgm : g ∈ fa.map (·.1) := List.mem_mergeSort.mp (List.mem_of_getElem? hg)
      obtain ⟨m, hm⟩ := lget_of_mem hgm
      have em : advOf fa g = m := by
        unfold advOf
        rw [hm]
        rfl
      have hgl : g.length ≤ 1000 := by
        obtain ⟨e, he, rfl⟩ := List.mem_map.mp hgm
        exact FC.ln e he
      rw [em] at c2 c3 c6 c7
      have hst : stA fa n (i + 1) = setA (stA fa n i) g (some m) := by
        unfold stA
        rw [foldl_take _ _ hg, em]
      refine ⟨_, rfl, p, _, _, rfl, F'.ob, fflds_no _ _ (by decide +kernel) (by decide +kernel) (by decide +kernel) (by decide +kernel), _, rfl, _, rfl, _, rfl, a, .int m, rfl, ?_, ?_⟩
      · have e : valV (enc cA fa) (Sum.inr g : Key) = some (.int m) := by
          rw [show valV (enc cA fa) (Sum.inr g : Key) = (lget fa g).map V.int from enc_get cA_inj fa g, hm]
          rfl
        rw [← e]
        exact DGet.k (k := Sum.inr g) (kf _ _ aL ap aA aN aP)
      · refine ⟨p, .str g, .int m, true, true, false, o, stA fa n i, [], rfl, F', Ks.str, IsS.str, fun g' e => (by cases e; exact hgl), Kd.int, fun _ => ⟨m, rfl⟩, fun h => (by cases h), c8, fun hn => (by rw [show nameV (.str g) = true from c1] at hn; cases hn), fun _ hn => absurd ⟨m, rfl, c2, c3⟩ hn, ?_⟩
        rintro g' m' eg _ em' _ _
        cases eg
        cases em'
        refine ⟨fun hl1 c hc => ?_, fun _ => ⟨fun hro => (by rw [c5] at hro; cases hro), fun _ => ⟨c6, c7, fun H2 l2 hl2 kf2 F2 _ => ⟨⟨_, _, _, _, rfl⟩, kf.trans kf2, ?_⟩⟩⟩⟩
        · rcases c4 with c4 | c4
          · omega
          · rw [c4] at hc; cases hc
        · rw [hst]
          exact F2
    · rintro σ H6 ⟨⟨u, w', x', y', rfl⟩, kf6, F6⟩
      have hkl : (keysA fa).length = fa.length := by
        unfold keysA
        rw [List.length_mergeSort, List.length_map]
      rw [List.length_map, hkl] at F6
      have st6 : ∀ c u, H c = some u → c ≠ p → H6 c = some u := fun c u e hc => by
        obtain ⟨cA', cN', cP'⟩ := keepH c u e hc
        exact kf6 _ _ (s5L _ _ (kf5 _ _ (st4 _ _ e hc) hc cA' cN' cP')) hc cA' cN' cP'
      refine ⟨fun σ' H' => ∃ (k : Addr) (u x' y' : Option V), σ' = [some (.ref p), some (.ref a), some kv, some (.int n), u, some (.ref k), x', y'] ∧ k ≠ p ∧ k ≠ o.dA ∧ k ≠ o.dN ∧ k ≠ o.dP ∧ H' k = some (.dT (enc cK fk)) ∧ FontAt C H' p o (stA fa n fa.length) [] ∧ (∀ c u, H c = some u → c ≠ p → H' c = some u), ?_, ?_⟩
      · refine ⟨_, rfl, _, rfl, ?_⟩
        rcases hk with ⟨k, rfl, hk⟩ | ⟨rfl, rfl⟩
        · have kp : k ≠ p := fun z => by rw [z, hp] at hk; cases hk
          obtain ⟨kA, kN, kP⟩ := keepH k _ hk kp
          refine iteF ⟨_, rfl, k, _, _, _, rfl, kp, kA, kN, kP, st6 _ _ hk kp, F6, st6⟩
        · refine iteT (fun d hd => ?_)
          have ob6 := F6.ob
          have da6 := F6.da
          have dn6 := F6.dn
          obtain ⟨ls6, dp6, _⟩ := F6.dp
          refine ⟨d, _, _, _, rfl, fun z => ?_, fun z => ?_, fun z => ?_, fun z => ?_, upd_same, F6.sm (same_upd hd), fun c u e hc => same_upd hd _ _ (st6 c u e hc)⟩
          · rw [z, ob6] at hd; cases hd
          · rw [z, da6] at hd; cases hd
          · rw [z, dn6] at hd; cases hd
          · rw [z, dp6] at hd; cases hd
      rintro σ' H6 ⟨k, u, x', y', rfl, kp, kA, kN, kP, k6, F6, st6⟩
      refine ⟨_, rfl, k, _, rfl, .inl k6, fun q2 bs hq2 hk2 => ?_⟩
      obtain ⟨xs, e1', e2', e3'⟩ := keys_pairs hk2
      rw [e1']
      refine ⟨q2, xs, rfl, rfl, SqL.of upd_same, keyFn_pair GQ (fun x hx => (same_upd hq2) _ _ (e3' x hx)), fun L2 hL2 => ⟨L2, rfl, ⟨_, SqL.of upd_same⟩, ?_⟩⟩
      have hss := sort_place xs
      rw [e2'] at hss
      generalize hys : xs.mergeSort (PySem.W.dataLe false fun x => kPlace x.2) = ys at hss hL2 ⊢
      have hyx : ∀ y ∈ ys, y ∈ xs := fun y hy => by rw [← hys] at hy; exact List.mem_mergeSort.mp hy
      obtain ⟨H7, e7⟩ : ∃ H7, H7 = upd (upd H6 q2 (.lst (xs.map fun x => V.ref x.1))) L2 (.lst (ys.map fun x => V.ref x.1)) := ⟨_, rfl⟩
      show ∃ W : Nat → Nat → St → Hp → Prop, (∃ m, W 0 m _ (upd (upd H6 q2 (.lst (xs.map fun x => V.ref x.1))) L2 (.lst (ys.map fun x => V.ref x.1)))) ∧ _
      rw [← e7]
      have s67 : Same H6 H7 := by
        rw [e7]
        exact (same_upd hq2).trans (same_upd hL2)
      have F7 := F6.sm s67
      have LL2 : H7 L2 = some (.lst (ys.map fun x => V.ref x.1)) := by rw [e7]; exact upd_same
      have L26 : H6 L2 = none := noneU hL2
      have LP2 : L2 ≠ o.dP := fun z => by
        obtain ⟨ls, hp6, _⟩ := F6.dp
        rw [z, hp6] at L26
        cases L26
      have k7 : H7 k = some (.dT (enc cK fk)) := s67 _ _ k6
      refine for_list (K := K) (a := L2) (xs := ys.map fun x => V.ref x.1) (fun i σ H' => (∃ u x y : Option V, σ = [some (.ref p), some (.ref a), some kv, some (.int n), u, some (.ref k), x, y]) ∧ KeepF p o H7 H' ∧ FontAt C H' p o (stK fk (stA fa n fa.length) i) [])
        ⟨⟨_, _, _, rfl⟩, KeepF.refl, F7⟩ (fun i σ H' _ ⟨_, kf, _⟩ => SqL.of (F7.keepL kf LL2 LP2)) ?_ ?_
      · rintro i x σ H' hx ⟨⟨u, x', y', rfl⟩, kf, F'⟩
        rw [List.getElem?_map, Option.map_eq_some_iff] at hx
        obtain ⟨y, hy, rfl⟩ := hx
        have hym : y ∈ ys := List.mem_of_getElem? hy
        have hky : (keysK fk)[i]? = some y.2 := by
          unfold keysK
          rw [← hss, List.getElem?_map, hy]
          rfl
        obtain ⟨c2, c3, vx, vy, hx1, hy1, n1, n2, hlen⟩ := FC.sk i y.2 hky
        have hgm : y.2 ∈ fk.map (·.1) := by rw [← e2']; exact List.mem_map.mpr ⟨y, hyx y hym, rfl⟩
        obtain ⟨m, hm⟩ := lget_of_mem hgm
        have em : kernOf fk y.2 = m := by
          unfold kernOf
          rw [hm]
          rfl
        rw [em] at c2 c3 n1 n2 hlen
        have hst : stK fk (stA fa n fa.length) (i + 1) = setK (stK fk (stA fa n fa.length) i) y.2 (kx m) := by
          unfold stK
          rw [foldl_take _ _ hky, em]
        have hy7 : H7 y.1 = some (.tup [.str y.2.1, .str y.2.2]) := s67 _ _ (e3' y (hyx y hym))
        have hyt : H' y.1 = some (.tup [.str y.2.1, .str y.2.2]) := F7.keepT kf hy7
        refine ⟨y.1, _, rfl, SqT.of hyt, rfl, _, _, rfl, _, _, rfl, rfl, ?_⟩
        refine ⟨_, rfl, p, _, _, rfl, F'.ob, fflds_no _ _ (by decide +kernel) (by decide +kernel) (by decide +kernel) (by decide +kernel), _, rfl, _, rfl, _, rfl, _, rfl, _, rfl, by show 2 ≤ sizeLine; decide, fun z hz => ?_⟩
        have kz : KeepF p o H' (upd H' z (.tup [.str y.2.1, .str y.2.2])) := KeepF.same (same_upd hz)
        have Fz := F'.sm (same_upd (o := .tup [.str y.2.1, .str y.2.2]) hz)
        have kk7 : upd H' z (.tup [.str y.2.1, .str y.2.2]) k = some (.dT (enc cK fk)) := kz _ _ (kf _ _ k7 kp kA kN kP) kp kA kN kP
        refine ⟨k, .int m, rfl, ?_, ?_⟩
        · have e : valV (enc cK fk) (cK y.2) = some (.int m) := by
            rw [enc_get cK_inj fk y.2, hm]
            rfl
          rw [← e]
          exact DGet.t (k := cK y.2) kk7 upd_same
        · refine ⟨p, .str y.2.1, .str y.2.2, .int m, true, true, true, false, o, stK fk (stA fa n fa.length) i, [], rfl, Fz, Ks.str, IsS.str, Ks.str, IsS.str, Kd.int, fun _ => ⟨m, rfl⟩, fun h => (by cases h), fun hn => ?_, fun _ hn => ?_, fun _ _ hn => absurd ⟨m, rfl, c2, c3⟩ hn, ?_⟩
          · rw [show knownV (stK fk (stA fa n fa.length) i) (.str y.2.1) = true from by show (lget _ y.2.1).isSome = true; rw [hx1]; rfl] at hn
            cases hn
          · rw [show knownV (stK fk (stA fa n fa.length) i) (.str y.2.2) = true from by show (lget _ y.2.2).isSome = true; rw [hy1]; rfl] at hn
            cases hn
          · rintro l' r' m' vx' vy' el er em' _ _ hx' hy'
            cases el
            cases er
            cases em'
            rw [hx1] at hx'
            rw [hy1] at hy'
            cases hx'
            cases hy'
            refine ⟨fun hb => (by omega), fun _ _ => ⟨hlen, fun H8 q8 hq8 kf8 F8 _ => ⟨⟨_, _, _, rfl⟩, (kf.trans kz).trans kf8, ?_⟩⟩⟩
            rw [hst]
            exact F8
      · rintro σ H8 ⟨_, kf8, F8⟩
        have hkl2 : ys.length = fk.length := by
          have := congrArg List.length e2'
          rw [List.length_map, List.length_map] at this
          rw [← hys, List.length_mergeSort, this]
        rw [List.length_map, hkl2] at F8
        refine kQ H8 o (by rw [eo]) (fun c u e hc => ?_) (by rw [oA]; exact hA) (by rw [oN]; exact HN) (by rw [oP]; exact HP) F8
        obtain ⟨cA', cN', cP'⟩ := keepH c u e hc
        exact kf8 _ _ (s67 _ _ (st6 _ _ e hc)) hc cA' cN' cP'
end
/-! ### _set_all: one step is refused, all is taken back -/
section
variable {X : Cx} {CX : CXT} {k : Nat} {f C : Addr} {fd : FuncData} {ps : List Str} {sp : Sp} {E : L2.St → XK} {m : Str} {pos apos : Pos} {o e : Expr} {es : List Expr} {ta : TE} {t : TA}
/-- o.m(..), wished for at the caller's slots -/
def tMethA (C : Addr) (m : Str) (sp : Sp) (E : L2.St → XK) (ta : TE) (t : TA) : TE := fun σ H Q => ta σ H fun x H1 => ∃ a dx fs, x = .ref a ∧ H1 a = some (.ins C dx fs) ∧ fs.lookup m = none ∧ t σ H1 fun vs H2 => sp (x :: vs) H2 Q (E σ)
theorem pe_methA {pl : Sem Bool} (he : PE X o ta) (c : Cls X.K C) (hm : Meth X.K C m f) (F : FnOk X.prog X.w X.K X.mg X.base CX k f fd ps sp) (hr : Room k X.A) (hb : Binds X.K fd ps []) (hx : ∀ σ, PassesAt CX X σ (E σ)) (ha : PA X (e :: es) t)
    (hst : starEach (e :: es) X.env = (false, eval e X.env) :: starEach es X.env := by rfl) (hpl : (backTo pos (starEach es X.env)).any (·.1) = false := by rfl)
    (ht : eval (.Call (.Attribute o m apos) (e :: es) [] pos) X.env = (do
      let ov ← eval o X.env
      standAt apos.atName
      let (f, first) ← holding [ov] (getMethod ov m pl)
      callWith pos f first (backTo pos (starEach (e :: es) X.env)) (backToKw pos (keywordEach [] X.env))) := by rfl) :
    PE X (.Call (.Attribute o m apos) (e :: es) [] pos) (tMethA C m sp E ta t) := by
  refine ⟨fun pins s σ H Q I h => PySem.W.methodCall_KW (pl := pl) (thn (he.run pins s σ H _ I h) ?_) ht⟩
  rintro u s1 ⟨_, H1, I1, rx, a, dx, fs, rfl, ea, l, q⟩
  obtain rfl : u = Value.ref a := rx
  refine getmeth_ok I1 ea c hm l (PySem.W.callWith_K (first := [.ref a]) (h₀ := X.base) I.ok.mod.kin hm.kp (thn (ha.run pos pins s1 σ H1 _ I1 q) ?_) hst hpl)
  rintro us s2 ⟨vs, H2, I2, r, q2⟩
  exact ⟨I2.kIn, run_fnS (us := .ref a :: us) (vs := .ref a :: vs) F hr hb (hx σ) I2 (.cons rfl r) q2⟩
end
section
variable {X : Cx} {pn : List (Addr × Obj)} {xe : Value → Shared → Prop} {o e : Expr} {to te : TE} {apos cpos : Pos}
/-- l.extend(e) within a try: its reading speaks of the outer context alone -/
theorem pe_extendT (ho : PE (X.tr pn xe) o to) (he : PE (X.tr pn xe) e te) (hs : starEach (e :: []) (X.tr pn xe).env = (false, eval e (X.tr pn xe).env) :: starEach [] (X.tr pn xe).env := by rfl) (hbase : attributeBase o "extend" (X.tr pn xe).env (eval o (X.tr pn xe).env) = eval o (X.tr pn xe).env := by rfl)
    (hfew : ((backTo cpos (starEach (e :: []) (X.tr pn xe).env)).all (fun x => !x.1) && (backToKw cpos (keywordEach [] (X.tr pn xe).env)).all (fun x => x.1.isSome) && Nat.ble ([e].length + ([] : List Keyword).length) 30) = true := by rfl) (hline : (apos.endLine == cpos.line) = true := by rfl) :
    PE (X.tr pn xe) (.Call (.Attribute o "extend" apos) [e] [] cpos) (tBM X.K "list" rExtend to (tCons te tNil)) :=
  pe_bm PySem.F.plainAttrs_list PySem.F.slot_list_extend PySem.F.type_list_extend mt_extend ho (pa_cons he pa_nil hs) hbase hfew hline hs
end
/-- the steps that are accepted -/
def putsA (st : FSt) (oks : List (Str × Int)) : FSt := oks.foldl (fun s e => setA s e.1 (some e.2)) st
def recsA : FSt → List (Str × Int) → List Rec
  | _, [] => []
  | st, e :: r => .adv e.1 (lget st.adv e.1) :: recsA (setA st e.1 (some e.2)) r
theorem recsA_len (l : List (Str × Int)) : ∀ st, (recsA st l).length = l.length := by
  induction l with
  | nil => intro st; rfl
  | cons e r ih => intro st; exact congrArg (· + 1) (ih _)
theorem recsA_snoc (e : Str × Int) (l : List (Str × Int)) : ∀ st, recsA st (l ++ [e]) = recsA st l ++ [.adv e.1 (lget (putsA st l).adv e.1)] := by
  induction l with
  | nil => intro st; rfl
  | cons x r ih => intro st; exact congrArg (_ :: ·) (ih _)
theorem putsA_next {st : FSt} {l : List (Str × Int)} {i : Nat} {e : Str × Int} (h : l[i]? = some e) : putsA st (l.take (i + 1)) = setA (putsA st (l.take i)) e.1 (some e.2) ∧ recsA st (l.take (i + 1)) = recsA st (l.take i) ++ [.adv e.1 (lget (putsA st (l.take i)).adv e.1)] := by
  have h2 : l.take (i + 1) = l.take i ++ [e] := by rw [List.take_add_one, h]; rfl
  rw [h2, recsA_snoc]
  exact ⟨by unfold putsA; rw [List.foldl_append]; rfl, rfl⟩
/-- the step that is refused, its error -/
inductive BadA (st : FSt) (CG CI CU CT : Addr) (g : Str) (v : V) : Addr → List (Str × V) → Prop
  | name : nameB g = false → BadA st CG CI CU CT g v CG [("glyph", .str g)]
  | num : nameB g = true → ¬ inR v 0 1000000 → BadA st CG CI CU CT g v CI [("value", v)]
  | letter {n : Int} {c : Str} : nameB g = true → v = .int n → 0 ≤ n → n ≤ 1000000 → 1 < g.length → missing st g = some c → BadA st CG CI CU CT g v CU [("glyph", .str c)]
  | room {n : Int} : nameB g = true → v = .int n → 0 ≤ n → n ≤ 1000000 → (g.length ≤ 1 ∨ missing st g = none) → roomless st g = true → BadA st CG CI CU CT g v CT [("limit", .int 40)]
def encV (adv : List (Str × V)) : List (Key × V) := adv.map fun e => (cA e.1, e.2)
def ordV (adv : List (Str × V)) : List Str := (adv.map (·.1)).mergeSort (PySem.W.dataLe false kRank)
structure RefA (adv : List (Str × V)) (st : FSt) (oks : List (Str × Int)) (g : Str) (v : V) (rest : List Str) : Prop where
  ln : ∀ e ∈ adv, e.1.length ≤ 1000
  ord : ordV adv = oks.map (·.1) ++ g :: rest
  get : ∀ e ∈ oks, valV (encV adv) (cA e.1) = some (.int e.2)
  bad : valV (encV adv) (cA g) = some v
  ok : ∀ j e, oks[j]? = some e → StepA (putsA st (oks.take j)) e.1 e.2
  names : ∀ e ∈ (putsA st oks).adv, e.1.length ≤ 1000
  zA : (putsA st oks).adv.length + oks.length ≤ 1000
  zK : (putsA st oks).krn.length + oks.length ≤ 1000
def spSetAll (K : PySem.W.Frag) (C CG CI CU CT : Addr) : Sp := fun vs H _ E => ∃ (p a : Addr) (adv : List (Str × V)) (o : Own) (st : FSt) (past : List (List Rec)) (oks : List (Str × Int)) (g : Str) (v : V) (i b : Bool) (rest : List Str) (Ce : Addr) (fl : List (Str × V)),
  vs = [.ref p, .ref a] ∧ FontAt C H p o st past ∧ past = [] ∧ a ≠ o.dA ∧ H a = some (.dK (encV adv)) ∧ RefA adv st oks g v rest ∧ (∀ H2, Kd K H2 v i b) ∧ ((i && !b) = true → ∃ n, v = .int n) ∧ ((i && !b) = false → ∀ n, v ≠ .int n) ∧ BadA (putsA st oks) CG CI CU CT g v Ce fl ∧
  ∀ H' d, KeepF p o H H' → H d = none → H' d = some (.xd fl) → FontAt C H' p o (backs (putsA st oks) (recsA st oks)) past → E (.ref Ce) (some d) H'
theorem keep_none {C : Addr} {H H' : Hp} {p d : Addr} {o : Own} {st' : FSt} {past' : List (List Rec)} (kf : KeepF p o H H') (F1 : FontAt C H' p o st' past') (hd : H' d = none) : H d = none := by
  cases e : H d with
  | none => rfl
  | some u =>
    obtain ⟨ls, hp, _⟩ := F1.dp
    have z : ∀ {b : Addr} {x : HO}, H' b = some x → d ≠ b := fun q y => by rw [y, q] at hd; cases hd
    rw [kf _ _ e (z F1.ob) (z F1.da) (z F1.dn) (z hp)] at hd
    cases hd
theorem ps_again {X : Cx} {a : Addr} {pn : List (Addr × Obj)} {W : L2.St → Hp → Prop} (ag : AgainOk X a pn W) (p : Pos) : PS (L2H.suiteX X a pn) (.Raise none none p) (fun _ σ H => W σ H) := ⟨fun pins s σ H D I h => ag p pins s σ H _ I h⟩
section
variable {P : Program} {w : World} {K : PySem.W.Frag} {mg : Str → Option Value} {base : Heap} {C CI CU CT CG CF fE fW fBt fWr fHas fLen fEU fPl : Addr}
abbrev sSetAll : Stmt := inClass (top 17) 29
theorem scSetAll : FnScope ["self", "advances", "records", "glyph"] ["self", "advances"] (defScope sSetAll) := ⟨rfl, rfl, rfl, by decide +kernel, rfl, by decide +kernel, by decide +kernel⟩
theorem ok_setAll {f fP fB : Addr} {fd fdP fdB : FuncData} (F : Fun K "_set_all" "Font._set_all" sSetAll f fd) (T : TxF K mg C CI fE fW fBt fWr) (U : TxH K mg C fHas fLen CU fEU fPl) (KP : KeyStr P w K mg base fPl kRank) (gF : mg "FontError" = some (.ref CF)) (xs : ∀ Ce ∈ [CG, CI, CU, CT], PySem.W.exmOne K (.ref Ce) (.ref CF) = some true)
    (GP : FnOk P w K mg base (L2N.CX P w) 6 fP fdP ["self", "glyph", "advance"] (spPutA K C CI CU CT CG)) (bP : Binds K fdP ["self", "glyph", "advance"] []) (mP : Meth K C "_put_advance" fP)
    (GB : L2H.FnH P w K mg base CX0 2 fB fdB ["self", "records"] (spBack C)) (bB : Binds K fdB ["self", "records"] []) (mB : Meth K C "_take_back" fB) : FnOk P w K mg base (L2.CX P w) 7 f fd ["self", "advances"] (spSetAll K C CG CI CU CT) := by
  refine F.okX scSetAll (fun vs H Q E h => ?_) (fun cdv A outer s H vs Q E hr h => ?_)
  · obtain ⟨p, a, adv, o, st, past, oks, g, v, i, b, rest, Ce, fl, rfl, _⟩ := h
    rfl
  · obtain ⟨p, a, adv, o, st, past, oks, g, v, ib, bb, rest, Ce, fl, rfl, FA, rfl, nA, ha, RA, kd, h1, h0, bad, kE⟩ := h
    have nd := scSetAll.nd
    have hu := hu_of hr
    refine ⟨_, pss_cons (ps_set (i := 2) nd rfl (Or.inl rfl) (pe_lst pa_nil))
      (pss_cons (ps_for (passes_of rfl) rfl (pi_list (pe_callBK (cr_sortedK (f := fPl) (val := V.str) (ok := fun _ _ x => x.length ≤ 1000) (k := kRank) rfl (hr.mono (by decide))) (by rfl) U.mSorted (by decide +kernel) (pa_cons (pe_callTy (call_list_dK rfl) (by rfl) U.mList (by decide +kernel) (pa_cons (pv 1) pa_nil)) pa_nil) (pk_cons (pe_glob (v := .ref fPl) (by rfl) U.pl rfl) pk_nil)))
        (pg_name (i := 3) nd rfl (Or.inl rfl))
        (pss_one (ps_try_again (Wout := fun cls d _ H => E cls d H) rfl rfl rfl ⟨by rfl, by decide, .inl gF⟩ (L2H.passesAt_of rfl) (takes_of rfl rfl rfl rfl)
          (fun W pn xe tk pa => pss_one (ps_expr (pe_extendT (pv 2) (pe_methA (pv 0) T.cl mP GP hr bP (L2N.passAt tk) (pa_cons (pv 3) (pa_cons (pe_dget hu (pv 1) (pv 3) (fun _ _ => rfl)) pa_nil))))))
          (fun a2 oe cls d pn hz hc ag => pss_cons (by exact ps_expr (L2H.pe_methH (E := fun _ => E0) (pv 0) T.cl mB GB ((L2H.roomH_mark hr _).mono (by decide)) hc bB (fun _ _ _ _ _ _ _ z => z.elim) (pa_cons (pv 2) pa_nil))) (pss_one (ps_again ag _))))))
      pss_no), ?_⟩
    refine ⟨by show 0 ≤ sizeLine; decide, fun R hR => ?_⟩
    have rne : ∀ {b : Addr} {x : HO}, H b = some x → b ≠ R := fun q => fresh_of hR q
    obtain ⟨lsP, hP, _⟩ := FA.dp
    have ap : a ≠ p := fun z => by rw [z, FA.ob] at ha; cases ha
    have aN : a ≠ o.dN := fun z => by rw [z, FA.dn] at ha; cases ha
    have aP : a ≠ o.dP := fun z => by rw [z, hP] at ha; cases ha
    have pR := rne FA.ob
    have AR := rne FA.da
    have NR := rne FA.dn
    have PR := rne hP
    obtain ⟨H1, e1⟩ : ∃ H1, H1 = upd H R (.lst []) := ⟨_, rfl⟩
    have s1 : Same H H1 := by rw [e1]; exact same_upd hR
    have R1 : H1 R = some (.lst []) := by rw [e1]; exact upd_same
    rw [← e1]
    refine ⟨_, rfl, a, _, rfl, s1 _ _ ha, fun q hq => ?_⟩
    have kmap : (encV adv).map (fun kv => kV kv.1) = (adv.map (·.1)).map V.str := by
      unfold encV
      rw [List.map_map, List.map_map]
      rfl
    rw [kmap]
    refine ⟨q, adv.map (·.1), rfl, rfl, SqL.of upd_same, keyFn_str KP (fun x hx => ?_), fun L hL => ⟨L, rfl, ⟨_, SqL.of upd_same⟩, ?_⟩⟩
    · obtain ⟨e, he, rfl⟩ := List.mem_map.mp hx
      exact RA.ln e he
    obtain ⟨HL, eL⟩ : ∃ HL, HL = upd (upd H1 q (.lst ((adv.map (·.1)).map V.str))) L (.lst ((ordV adv).map V.str)) := ⟨_, rfl⟩
    show ∃ W : Nat → Nat → L2.St → Hp → Prop, (∃ m, W 0 m _ (upd (upd H1 q (.lst ((adv.map (·.1)).map V.str))) L (.lst ((ordV adv).map V.str)))) ∧ _
    rw [← eL]
    have sL : Same H1 HL := by rw [eL]; exact (same_upd hq).trans (same_upd hL)
    have LL : HL L = some (.lst ((ordV adv).map V.str)) := by rw [eL]; exact upd_same
    have L1 : H1 L = none := noneU hL
    have lne : ∀ {b : Addr} {x : HO}, H1 b = some x → b ≠ L := fun q => fresh_of L1 q
    have gl : ∀ {x : Str}, x ∈ adv.map (·.1) → x.length ≤ 1000 := fun hx => by
      obtain ⟨e, he, rfl⟩ := List.mem_map.mp hx
      exact RA.ln e he
    have inOrd : ∀ {x : Str}, x ∈ ordV adv → x ∈ adv.map (·.1) := fun hx => List.mem_mergeSort.mp hx
    refine for_list (K := K) (a := L) (xs := (ordV adv).map V.str) (fun i σ H' => i ≤ oks.length ∧ (∃ u : Option V, σ = [some (.ref p), some (.ref a), some (.ref R), u]) ∧ KeepF p o H H' ∧ FontAt C H' p o (putsA st (oks.take i)) [] ∧
      (∃ ts : List Addr, H' R = some (.lst (ts.map V.ref)) ∧ Paired (RecAt H') ts (recsA st (oks.take i))) ∧ H' a = some (.dK (encV adv)) ∧ H' L = some (.lst ((ordV adv).map V.str)))
      ⟨Nat.zero_le _, ⟨none, rfl⟩, KeepF.same (s1.trans sL), FA.sm (s1.trans sL), ⟨[], sL _ _ R1, .nil⟩, sL _ _ (s1 _ _ ha), LL⟩ (fun i σ H' _ h => SqL.of h.2.2.2.2.2.2) ?_ ?_
    · rintro i x σ H' hx ⟨hi, ⟨u, rfl⟩, kf, F1, ⟨ts, hR1, hts⟩, a1, LL1⟩
      rw [List.getElem?_map, Option.map_eq_some_iff] at hx
      obtain ⟨g1, hg1, rfl⟩ := hx
      have hgl : g1.length ≤ 1000 := gl (inOrd (List.mem_of_getElem? hg1))
      rw [RA.ord] at hg1
      have tsl : ts.length ≤ 1000 := by
        rw [pair_len hts, recsA_len, List.length_take]
        have := RA.zA
        omega
      have no : ∀ {m : Str} {b : Int}, (m == ("_advances" : Str)) = false → (m == ("_kerns" : Str)) = false → (m == ("_blank" : Str)) = false → (m == ("_past" : Str)) = false → (fflds o b).lookup m = none := fun a b c d => fflds_no _ _ a b c d
      have RF : ∀ {H2 : Hp}, KeepF p o H' H2 → H2 R = some (.lst (ts.map V.ref)) := fun k2 => k2 _ _ hR1 (Ne.symm pR) (Ne.symm AR) (Ne.symm NR) (Ne.symm PR)
      rcases Nat.lt_or_eq_of_le hi with lt | eq
      · obtain ⟨e, he⟩ : ∃ e, oks[i]? = some e := ⟨_, List.getElem?_eq_getElem lt⟩
        rw [List.getElem?_append_left (by rw [List.length_map]; exact lt), List.getElem?_map, he] at hg1
        obtain rfl : e.1 = g1 := Option.some.inj hg1
        obtain ⟨c1, c2, c3, c4, c5, c6, c7, c8⟩ := RA.ok i e he
        obtain ⟨q1, q2⟩ := putsA_next (st := st) he
        refine ⟨_, rfl, .inl ⟨rfl, _, SqL.of hR1⟩, _, rfl, p, _, _, rfl, F1.ob, no (by decide +kernel) (by decide +kernel) (by decide +kernel) (by decide +kernel), _, rfl, _, rfl, _, rfl, a, .int e.2, rfl, ?_, ?_⟩
        · rw [← RA.get e (List.mem_of_getElem? he)]
          exact DGet.k (k := Sum.inr e.1) a1
        refine ⟨p, .str e.1, .int e.2, true, true, false, o, putsA st (oks.take i), [], rfl, F1, Ks.str, IsS.str, fun g2 z => (by cases z; exact hgl), Kd.int, fun _ => ⟨e.2, rfl⟩, fun z => (by cases z), c8, fun z => (by rw [show nameV (.str e.1) = nameB e.1 from rfl, c1] at z; cases z), fun _ z => (z ⟨e.2, rfl, c2, c3⟩).elim, fun g2 n2 z1 _ z2 _ _ => ?_⟩
        obtain rfl : e.1 = g2 := V.str.inj z1
        obtain rfl : e.2 = n2 := V.int.inj z2
        refine ⟨fun h1 c hc => ?_, fun _ => ⟨fun hro => (by rw [c5] at hro; cases hro), fun _ => ⟨c6, c7, fun H2 l hl2 kf2 F2 hr2 => ?_⟩⟩⟩
        · rcases c4 with z | z
          · omega
          · rw [z] at hc; cases hc
        obtain ⟨t2, hl3, hp2⟩ := hr2
        have R2 := RF kf2
        have t2l : t2.length = 1 := by rw [pair_len hp2]; rfl
        refine ⟨R, l, _, _, rfl, rfl, R2, hl3, ?_, ?_⟩
        · rw [List.length_map, List.length_map, t2l]
          have h4 : (sizeLine : Nat) = 16777216 := sizeLine_eq
          omega
        have up : ∀ {b : Addr} {x : HO}, H2 b = some x → b ≠ R → (upd H2 R (.lst (ts.map V.ref ++ t2.map V.ref))) b = some x := fun q n => (upd_ne n).trans q
        have tupsN : ∀ (b : Addr) (xs : List V), H2 b = some (.tup xs) → (upd H2 R (.lst (ts.map V.ref ++ t2.map V.ref))) b = some (.tup xs) := fun b xs q => up q fun z => by rw [z, R2] at q; cases q
        have kf3 : KeepF p o H (upd H2 R (.lst (ts.map V.ref ++ t2.map V.ref))) := fun b x q n1 n2 n3 n4 => up ((kf.trans kf2) b x q n1 n2 n3 n4) (rne q)
        refine ⟨lt, ⟨_, rfl⟩, kf3, ?_, ⟨ts ++ t2, ?_, ?_⟩, up (kf2 _ _ a1 ap nA aN aP) (rne ha), up (kf2 _ _ LL1 ?_ ?_ ?_ ?_) (Ne.symm (lne R1))⟩
        · rw [q1]
          obtain ⟨ls, hp2', hPn, _⟩ := F2.dp
          cases hPn
          exact ⟨up F2.ob pR, up F2.da AR, up F2.dn NR, ⟨[], up hp2' PR, .nil, fun x hx => by cases hx⟩, F2.small⟩
        · rw [upd_same, List.map_append]
        · rw [q2]
          have app : ∀ {as as2 : List Addr} {bs bs2 : List Rec} {S : Addr → Rec → Prop}, Paired S as bs → Paired S as2 bs2 → Paired S (as ++ as2) (bs ++ bs2) := fun h h2 => by
            induction h with
            | nil => exact h2
            | cons r _ ih => exact .cons r ih
          exact app (paired_mono (fun _ _ => RecAt.sm tupsN) (paired_mem hts fun x hx rs r => RecAt.sm (fun b xs q => kf2 _ _ q (fun z => by rw [z, F1.ob] at q; cases q) (fun z => by rw [z, F1.da] at q; cases q) (fun z => by rw [z, F1.dn] at q; cases q) (fun z => by
            obtain ⟨ls, hpp, _⟩ := F1.dp
            rw [z, hpp] at q; cases q)) r)) (paired_mono (fun _ _ => RecAt.sm tupsN) hp2)
        · exact Ne.symm (lne (s1 _ _ FA.ob))
        · exact Ne.symm (lne (s1 _ _ FA.da))
        · exact Ne.symm (lne (s1 _ _ FA.dn))
        · exact Ne.symm (lne (s1 _ _ hP))
      · subst eq
        rw [List.getElem?_append_right (by rw [List.length_map]; exact Nat.le_refl _), List.length_map, Nat.sub_self] at hg1
        obtain rfl : g = g1 := Option.some.inj hg1
        rw [List.take_length] at F1 hts
        have fin : ∀ {H2 : Hp} {d : Addr} {σ2 : L2.St} {D : Ends}, Same H' H2 → H2 d = none → (∃ u : Option V, σ2 = [some (.ref p), some (.ref a), some (.ref R), u]) → Ce ∈ [CG, CI, CU, CT] → PySem.W.exmOne K (.ref Ce) (.ref CF) = some true ∧
            tSeq (tDrop (L2H.tMethH C "_take_back" (spBack C) (fun _ => E0) (tVar 0) (tCons (tVar 2) tNil))) (fun _ _ H => E (.ref Ce) (some d) H) D σ2 (upd H2 d (.xd fl)) := fun {H2 d σ2 D} s2 hd hσ hm => by
          obtain ⟨u, rfl⟩ := hσ
          have s3 : Same H' (upd H2 d (.xd fl)) := s2.trans (same_upd hd)
          have F3 := F1.sm s3
          refine ⟨xs _ hm, _, rfl, p, _, _, rfl, F3.ob, no (by decide +kernel) (by decide +kernel) (by decide +kernel) (by decide +kernel), _, rfl, p, R, o, putsA st oks, [], recsA st oks, rfl, F3, ⟨ts, s3 _ _ hR1, paired_mono (fun _ _ => RecAt.sm fun _ _ => s3 _ _) hts⟩, ?_, ?_, fun H4 kf4 F4 => ?_⟩
          · rw [recsA_len]; exact RA.zA
          · rw [recsA_len]; exact RA.zK
          · have F2 := F1.sm s2
            have dn : ∀ {b : Addr} {x : HO}, H2 b = some x → d ≠ b := fun q z => by rw [z, q] at hd; cases hd
            obtain ⟨ls2, hp2, _⟩ := F2.dp
            exact kE H4 d ((kf.trans (KeepF.same s3)).trans kf4) (keep_none (kf.trans (KeepF.same s2)) F2 hd) (kf4 _ _ upd_same (dn F2.ob) (dn F2.da) (dn F2.dn) (dn hp2)) F4
        refine ⟨_, rfl, .inl ⟨rfl, _, SqL.of hR1⟩, _, rfl, p, _, _, rfl, F1.ob, no (by decide +kernel) (by decide +kernel) (by decide +kernel) (by decide +kernel), _, rfl, _, rfl, _, rfl, a, v, rfl, ?_, ?_⟩
        · rw [← RA.bad]
          exact DGet.k (k := Sum.inr g) a1
        have nm : nameV (.str g) = nameB g := rfl
        refine ⟨p, .str g, v, true, ib, bb, o, putsA st oks, [], rfl, F1, Ks.str, IsS.str, fun g2 z => (by cases z; exact hgl), kd _, h1, h0, RA.names, fun z d hd => ?_, fun z z2 d hd => ?_, fun g2 n2 z1 z2 z3 z4 z5 => ?_⟩
        · cases bad with
          | name _ => exact fin (fun _ _ q => q) hd ⟨_, rfl⟩ (by simp)
          | num h _ => rw [nm, h] at z; cases z
          | letter h => rw [nm, h] at z; cases z
          | room h => rw [nm, h] at z; cases z
        · cases bad with
          | name h => rw [nm, h] at z; cases z
          | num _ _ => exact fin (fun _ _ q => q) hd ⟨_, rfl⟩ (by simp)
          | letter _ h b0 b1 => exact (z2 ⟨_, h, b0, b1⟩).elim
          | room _ h b0 b1 => exact (z2 ⟨_, h, b0, b1⟩).elim
        · obtain rfl : g = g2 := V.str.inj z1
          cases bad with
          | name h => rw [h] at z2; cases z2
          | num _ h => exact (h ⟨n2, z3, z4, z5⟩).elim
          | letter _ h b0 b1 l1 hm =>
            refine ⟨fun _ c hc d hd => ?_, fun hmm => ?_⟩
            · rw [hm] at hc
              obtain rfl := Option.some.inj hc
              exact fin (fun _ _ q => q) hd ⟨_, rfl⟩ (by simp)
            · rcases hmm with y | y
              · omega
              · rw [hm] at y; cases y
          | room _ h b0 b1 hm hro =>
            refine ⟨fun l1 c hc => ?_, fun _ => ⟨fun _ H2 d s2 hd => fin s2 hd ⟨_, rfl⟩ (by simp), fun y => (by rw [hro] at y; cases y)⟩⟩
            rcases hm with y | y
            · omega
            · rw [y] at hc; cases hc
    · rintro σ H6 ⟨hi, _⟩
      rw [List.length_map, RA.ord, List.length_append, List.length_map, List.length_cons] at hi
      omega
end
/-! ### set_advances: a method called with keywords -/
section
open PyProof.Rows
variable {X : Cx} {CX : CXT} {k : Nat} {f C : Addr} {ps ks : List Str} {p0 : Str} {sp : Sp} {E : L2.St → XK} {m : Str} {pos apos : Pos} {o : Expr} {kws : List Keyword} {ta : TE} {tk : TA}
def tMethKW (C : Addr) (m : Str) (ks : List Str) (sp : Sp) (E : L2.St → XK) (ta : TE) (tk : TA) : TE := fun σ H Q => ta σ H fun x H1 => ∃ a dx fs, x = .ref a ∧ H1 a = some (.ins C dx fs) ∧ fs.lookup m = none ∧
  tk σ H1 fun zs H2 => zs.length = ks.length ∧ ∀ p, H2 p = none → sp [x, V.ref p] (upd H2 p (.dK (kwV ks zs))) Q (E σ)
theorem pe_methKW {pl : Sem Bool} (he : PE X o ta) (c : Cls X.K C) (hm : Meth X.K C m f) (F : FnKw X.prog X.w X.K X.mg X.base CX k f [p0] ks sp) (hr : Room k X.A) (hx : ∀ σ, PassesAt CX X σ (E σ)) (hkw : PK X kws tk)
    (hall : (backToKw pos (keywordEach kws X.env)).all (·.1.isSome) = true := by rfl) (hks : (backToKw pos (keywordEach kws X.env)).filterMap (·.1) = ks := by rfl) (hpl : ((backTo pos (starEach [] X.env)).any (·.1) || (backToKw pos (keywordEach kws X.env)).any (·.1.isNone)) = false := by rfl)
    (ht : eval (.Call (.Attribute o m apos) [] kws pos) X.env = (do
      let ov ← eval o X.env
      standAt apos.atName
      let (f, first) ← holding [ov] (getMethod ov m pl)
      callWith pos f first (backTo pos (starEach [] X.env)) (backToKw pos (keywordEach kws X.env))) := by rfl) :
    PE X (.Call (.Attribute o m apos) [] kws pos) (tMethKW C m ks sp E ta tk) := by
  refine ⟨fun pins s σ H Q I h => PySem.W.methodCall_KW (pl := pl) (thn (he.run pins s σ H _ I h) ?_) ht⟩
  rintro u s1 ⟨_, H1, I1, rx, a, dx, fs, rfl, ea, l, q⟩
  obtain rfl : u = Value.ref a := rx
  refine getmeth_ok I1 ea c hm l (PySem.W.callWith_KW0 (first := [.ref a]) (h₀ := X.base) I.ok.mod.kin hm.kp hall (thn (hkw.run pos pins s1 σ H1 _ I1 q) ?_) hpl)
  rintro ws s2 ⟨zs, H2, I2, rz, hl, q2⟩
  rw [hks]
  refine ⟨I2.kIn, wpAny_call (codeAny_mono (F X.A X.stack s2 H2 [.ref a] ws [.ref a] zs Q (E σ) hr I2.env0 (.cons rfl .nil) rz rfl hl q2) fun r s' z => ?_)⟩
  rcases r with e | (_ | _ | _ | u)
  · exact hx σ pins H2 s2 e s' I2 z
  · exact (show False from z).elim
  · exact (show False from z).elim
  · exact (show False from z).elim
  · exact I2.after z
end
section
open PySem.Spec PyProof.Rows PySem.W StX
variable {P : Program} {w : World} {K : PySem.W.Frag} {mg : Str → Option Value} {base : Heap} {C CI CU CT CG fE fW fBt fWr : Addr}
abbrev sSetAdvs : Stmt := inClass (top 17) 23
theorem scSetAdvs : FnScope ["this_font", "advances"] ([("this_font" : Str)] ++ [("advances" : Str)]) (defScope sSetAdvs) := ⟨rfl, rfl, rfl, by decide +kernel, rfl, by decide +kernel, by decide +kernel⟩
def BindsKw (ks : List Str) : Prop := ∀ (kV doc pm cdv ct : Value) (an : Option Addr) (us ws : List Value), us.length = 1 → ws.length = ks.length → bindArgs (PySem.W.fnOf "set_advances" "Font.set_advances" (defArgs sSetAdvs) (defBody sSetAdvs) (defScope sSetAdvs) .none kV doc pm an cdv ct) ⟨us, ks.zip ws⟩ =
  ((alloc ({ cls := .type "dict", data := .dict #[] } : Obj) : Sem Addr) >>= fun d => (forIn (ks.zip ws) PUnit.unit fun x _ => (nsSet d x.1 x.2 >>= fun _ => pure (ForInStep.yield PUnit.unit))) >>= fun _ => pure ([("this_font" : Str)].zip us ++ [(("advances" : Str), Value.ref d)]))
theorem binds_a_gg : BindsKw ["a", "gg"] := fun _ _ _ _ _ _ us ws h1 h2 => match us, ws, h1, h2 with | [_], [_, _], _, _ => rfl
theorem binds_A_a : BindsKw ["A", "a"] := fun _ _ _ _ _ _ us ws h1 h2 => match us, ws, h1, h2 with | [_], [_, _], _, _ => rfl
theorem binds_ab_b_a : BindsKw ["ab", "b", "a"] := fun _ _ _ _ _ _ us ws h1 h2 => match us, ws, h1, h2 with | [_], [_, _, _], _, _ => rfl
theorem binds_a_zz : BindsKw ["a", "zz"] := fun _ _ _ _ _ _ us ws h1 h2 => match us, ws, h1, h2 with | [_], [_, _], _, _ => rfl
theorem ok_setAdvs {f fA : Addr} {fd fdA : FuncData} {ks : List Str} (nd : ks.Nodup) (hz : ks.length ≤ 100) (hb : BindsKw ks) (F : Fun K "set_advances" "Font.set_advances" sSetAdvs f fd) (T : TxF K mg C CI fE fW fBt fWr)
    (GA : FnOk P w K mg base (L2.CX P w) 7 fA fdA ["self", "advances"] (spSetAll K C CG CI CU CT)) (bA : Binds K fdA ["self", "advances"] []) (mA : Meth K C "_set_all" fA) : FnKw P w K mg base (L2.CX P w) 8 f ["this_font"] ks (spSetAll K C CG CI CU CT) := by
  obtain ⟨_, _, _, _, _, _, cdv, _, _, rfl, lk, hcd⟩ := F.ex
  refine fn_kw lk hcd scSetAdvs cxUp nd (Nat.le_trans hz (by rw [sizeLine_eq]; decide)) (fun us ws h1 h2 => hb _ _ _ _ _ _ us ws h1 h2) fun A outer s H vs Q E hr h => ?_
  refine ⟨_, pss_one (ps_expr (pe_meth (pv 0) T.cl mA GA hr bA .nil (passes_call (takes_of rfl rfl rfl rfl) (fun _ _ _ _ h => h)) (pa_cons (pv 1) pa_nil))), ?_⟩
  obtain ⟨p, a, adv, o, st, past, oks, g, v, i, b, rest, Ce, fl, rfl, FA, r⟩ := h
  exact ⟨_, rfl, p, _, _, rfl, FA.ob, fflds_no _ _ (by decide +kernel) (by decide +kernel) (by decide +kernel) (by decide +kernel), _, rfl, p, a, adv, o, st, past, oks, g, v, i, b, rest, Ce, fl, rfl, FA, r⟩
end
/-! ### drop of a ligature, without kerns -/
theorem FontAt.aside {C : Addr} {H : Hp} {p : Addr} {o : Own} {st : FSt} {past : List (List Rec)} {R : Addr} {zs : List V} (F : FontAt C H p o st past) (hR : H R = some (.lst [])) (ne : ∀ rs ∈ past, rs ≠ []) (nP : R ≠ o.dP) : FontAt C (upd H R (.lst zs)) p o st past := by
  obtain ⟨ls, hp, hP, hn⟩ := F.dp
  have up : ∀ {b : Addr} {x : HO}, H b = some x → b ≠ R → (upd H R (.lst zs)) b = some x := fun q n => (upd_ne n).trans q
  have nR : ∀ l ∈ ls, ∀ rs, rs ∈ past → RecsAt H l rs → l ≠ R := fun l _ rs m r z => by
    obtain ⟨ts, h, q⟩ := r
    rw [z, hR] at h
    cases ts with
    | nil => cases q; exact ne _ m rfl
    | cons _ _ => cases h
  have tups : ∀ (b : Addr) (xs : List V), H b = some (.tup xs) → (upd H R (.lst zs)) b = some (.tup xs) := fun b xs q => up q fun z => by rw [z, hR] at q; cases q
  have mem : ∀ {as : List Addr} {bs : List (List Rec)}, Paired (RecsAt H) as bs → (∀ rs ∈ bs, rs ≠ []) → Paired (RecsAt (upd H R (.lst zs))) as bs := fun h => by
    induction h with
    | nil => exact fun _ => .nil
    | @cons a b as bs r _ ih =>
      intro hb
      refine .cons ?_ (ih fun rs m => hb rs (List.mem_cons_of_mem _ m))
      refine r.sm (fun xs q => up q fun z => ?_) tups
      obtain ⟨ts, h, q2⟩ := r
      rw [z, hR] at h
      cases ts with
      | nil => cases q2; exact hb _ List.mem_cons_self rfl
      | cons _ _ => cases h
  exact ⟨up F.ob fun z => (by have q := F.ob; rw [z, hR] at q; cases q), up F.da fun z => (by have q := F.da; rw [z, hR] at q; cases q), up F.dn fun z => (by have q := F.dn; rw [z, hR] at q; cases q), ⟨ls, up hp (Ne.symm nP), mem hP ne, hn⟩, F.small⟩
def spTakeOut (C : Addr) : Sp := fun vs H Q _ => ∃ (p : Addr) (g : Str) (o : Own) (st : FSt) (past : List (List Rec)), vs = [.ref p, .str g] ∧ FontAt C H p o st past ∧ (∀ rs ∈ past, rs ≠ []) ∧ st.krn = [] ∧ 1 < g.length ∧ g.length ≤ 1000 ∧ (lget st.adv g).isSome = true ∧
  ∀ H' l, H l = none → KeepF p o H H' → FontAt C H' p o (setA st g none) past → RecsAt H' l [.adv g (lget st.adv g)] → Q (.ref l) H'
def spDrop (C : Addr) : Sp := fun vs H Q _ => ∃ (p : Addr) (g : Str) (o : Own) (st : FSt) (past : List (List Rec)), vs = [.ref p, .str g] ∧ FontAt C H p o st past ∧ (∀ rs ∈ past, rs ≠ []) ∧ st.krn = [] ∧ 1 < g.length ∧ g.length ≤ 1000 ∧ (lget st.adv g).isSome = true ∧
  ∀ H', KeepF p o H H' → FontAt C H' p o (setA st g none) (remember past [.adv g (lget st.adv g)]) → Q .non H'
def spUnused (C : Addr) : Sp := fun vs H Q _ => ∃ (p : Addr) (g : Str), vs = [.ref p, .str g] ∧ 1 < g.length ∧ g.length ≤ 1000 ∧ Q .non H
section
variable {P : Program} {w : World} {K : PySem.W.Frag} {mg : Str → Option Value} {base : Heap} {C CI CU fE fW fBt fWr fHas fLen fEU fPl : Addr}
abbrev sUnused : Stmt := inClass (top 17) 39
theorem scUnused : FnScope ["self", "glyph", "ligature"] ["self", "glyph"] (defScope sUnused) := ⟨rfl, rfl, rfl, by decide +kernel, rfl, by decide +kernel, by decide +kernel⟩
theorem ok_unused {f : Addr} {fd : FuncData} (F : Fun K "_check_unused" "Font._check_unused" sUnused f fd) (T : TxF K mg C CI fE fW fBt fWr) : FnOk P w K mg base CX0 1 f fd ["self", "glyph"] (spUnused C) := by
  refine F.ok scUnused (fun vs H Q E h => ?_) (fun cdv A outer s H vs Q E hr h => ?_)
  · obtain ⟨p, g, rfl, _⟩ := h
    rfl
  · obtain ⟨p, g, rfl, l1, l2, k⟩ := h
    have h4 : (sizeLine : Nat) = 16777216 := sizeLine_eq
    refine ⟨_, pss_one (ps_if (pt_cmpR op_eq (pe_callB call_len_str (by rfl) T.len PySem.boot_len (pa_cons (pv 1) pa_nil)) pe_int (nomark _)) pss_no pss_nil), ?_⟩
    refine ⟨_, rfl, g, rfl, by omega, rfl, _, rfl, ?_⟩
    rw [dec_int, show ((g.length : Int) == 1) = false from beq_eq_false_iff_ne.mpr (by omega)]
    exact iteF k
abbrev sTakeOut : Stmt := inClass (top 17) 33
theorem scTakeOut : FnScope ["self", "glyph", "records", "pair"] ["self", "glyph"] (defScope sTakeOut) := ⟨rfl, rfl, rfl, by decide +kernel, rfl, by decide +kernel, by decide +kernel⟩
theorem ok_takeOut {f fK fN fWA : Addr} {fd fdK fdN fdW : FuncData} (F : Fun K "_take_out" "Font._take_out" sTakeOut f fd) (T : TxF K mg C CI fE fW fBt fWr) (U : TxH K mg C fHas fLen CU fEU fPl)
    (GK : FnOk P w K mg base (L2N.CX P w) 3 fK fdK ["self", "glyph"] (spKnown K C CU)) (bK : Binds K fdK ["self", "glyph"] []) (mK : Meth K C "_check_known" fK) (GN : FnOk P w K mg base CX0 1 fN fdN ["self", "glyph"] (spUnused C)) (bN : Binds K fdN ["self", "glyph"] []) (mN : Meth K C "_check_unused" fN)
    (GW : FnOk P w K mg base CX0 2 fWA fdW ["self", "glyph", "advance"] (spWrA C)) (bW : Binds K fdW ["self", "glyph", "advance"] []) (mW : Meth K C "_write_advance" fWA) : FnOk P w K mg base (L2N.CX P w) 4 f fd ["self", "glyph"] (spTakeOut C) := by
  refine okN F scTakeOut (fun vs H Q E h => ?_) (fun cdv A outer s H vs Q E hr h => ?_)
  · obtain ⟨p, g, o, st, past, rfl, _⟩ := h
    rfl
  · obtain ⟨p, g, o, st, past, rfl, FA, ne, nk, l1, l2, hg, k⟩ := h
    have nd := scTakeOut.nd
    have no : ∀ {m : Str} {b : Int}, (m == ("_advances" : Str)) = false → (m == ("_kerns" : Str)) = false → (m == ("_blank" : Str)) = false → (m == ("_past" : Str)) = false → (fflds o b).lookup m = none := fun a b c d => fflds_no _ _ a b c d
    refine ⟨_, pss_cons (ps_expr (pe_meth (pv 0) T.cl mK GK hr bK .nil (L2N.passes_call (L2N.takes_of rfl rfl rfl rfl) (fun _ _ _ _ h => h)) (pa_cons (pv 1) pa_nil)))
      (pss_cons (ps_expr (pe_meth (pv 0) T.cl mN GN (hr.mono (by decide)) bN .nil pass0 (pa_cons (pv 1) pa_nil)))
      (pss_cons (ps_set (i := 2) nd rfl (Or.inl rfl) (pe_lst pa_nil))
      (pss_cons (ps_for (passes_of rfl) rfl (pi_list (pe_callTy (call_list_dT rfl) (by rfl) U.mList (by decide +kernel) (pa_cons (pe_fld (pv 0) rfl) pa_nil))) (pg_name (i := 3) nd rfl (Or.inl rfl)) pss_no)
      (pss_cons (ps_expr (pe_bm PySem.F.plainAttrs_list PySem.F.slot_list_append PySem.F.type_list_append mt_append (pv 2) (pa_cons (pe_meth (pv 0) T.cl mW GW (hr.mono (by decide)) bW .nil pass0 (pa_cons (pv 1) (pa_cons pe_non pa_nil))) pa_nil)))
      (pss_one (ps_ret (pv 2))))))), ?_⟩
    refine ⟨_, rfl, p, _, _, rfl, FA.ob, no (by decide +kernel) (by decide +kernel) (by decide +kernel) (by decide +kernel), _, rfl, p, .str g, true, o, st, past, rfl, FA, Ks.str, IsS.str, fun z => ?_, fun _ => ?_⟩
    · rw [show knownV st (.str g) = (lget st.adv g).isSome from rfl, hg] at z
      cases z
    refine ⟨_, rfl, p, _, _, rfl, FA.ob, no (by decide +kernel) (by decide +kernel) (by decide +kernel) (by decide +kernel), _, rfl, p, g, rfl, l1, l2, ?_⟩
    refine ⟨by show 0 ≤ sizeLine; decide, fun R hR => ?_⟩
    obtain ⟨lsP, hP, _⟩ := FA.dp
    have PR : o.dP ≠ R := fresh_of hR hP
    have F1 := FA.sm (same_upd (o := .lst []) hR)
    obtain ⟨H1, e1⟩ : ∃ H1, H1 = upd H R (.lst []) := ⟨_, rfl⟩
    rw [← e1] at F1 ⊢
    have R1 : H1 R = some (.lst []) := by rw [e1]; exact upd_same
    have s1 : Same H H1 := by rw [e1]; exact same_upd hR
    refine ⟨_, rfl, p, C, _, _, _, rfl, F1.ob, T.cl, T.nN, fflds_krn _ _, o.dN, _, rfl, .inl F1.dn, fun q bs hq hb => ⟨q, rfl, ⟨_, SqL.of upd_same⟩, ?_⟩⟩
    rw [nk] at hb
    cases hb
    have s2 : Same H1 (upd H1 q (.lst (([] : List Addr).map V.ref))) := same_upd hq
    obtain ⟨H2, e2⟩ : ∃ H2, H2 = upd H1 q (.lst (([] : List Addr).map V.ref)) := ⟨_, rfl⟩
    show ∃ W : Nat → Nat → L2.St → Hp → Prop, (∃ m, W 0 m _ (upd H1 q (.lst (([] : List Addr).map V.ref)))) ∧ _
    rw [← e2] at s2 ⊢
    have Q2 : H2 q = some (.lst []) := by rw [e2]; exact upd_same
    refine for_list (K := K) (tb := fun _ _ _ => False) (a := q) (xs := []) (fun i σ H' => H' = H2 ∧ σ = [some (.ref p), some (.str g), some (.ref R), none]) ⟨rfl, rfl⟩ (fun i σ H' _ h => by rw [h.1]; exact SqL.of Q2) (fun i x σ H' hx _ => by cases hx) ?_
    rintro σ H' ⟨rfl, rfl⟩
    have F2 := F1.sm s2
    have R2 : H' R = some (.lst []) := s2 _ _ R1
    refine ⟨_, rfl, .inl ⟨rfl, _, SqL.of R2⟩, _, rfl, p, _, _, rfl, F2.ob, no (by decide +kernel) (by decide +kernel) (by decide +kernel) (by decide +kernel), _, rfl, p, g, none, o, st, past, rfl, F2, ?_, fun H3 t ht kf3 F3 hrec => ?_⟩
    · exact Nat.le_trans (ldrop_len _ _) F2.small.1
    have R3 : H3 R = some (.lst []) := kf3 _ _ R2 (Ne.symm (fresh_of hR FA.ob)) (Ne.symm (fresh_of hR FA.da)) (Ne.symm (fresh_of hR FA.dn)) (Ne.symm PR)
    refine ⟨R, _, _, rfl, rfl, R3, by show 0 < sizeLine; decide, _, rfl, ?_⟩
    have kf : KeepF p o H (upd H3 R (.lst ([] ++ [V.ref t]))) := fun b x q n1 n2 n3 n4 => (upd_ne (fresh_of hR q)).trans (kf3 _ _ (s2 _ _ (s1 _ _ q)) n1 n2 n3 n4)
    have tR : t ≠ R := fun z => by rw [z, R2] at ht; cases ht
    exact k _ R hR kf (F3.aside R3 ne (Ne.symm PR)) ⟨[t], upd_same, .cons ((upd_ne tR).trans hrec) .nil⟩
abbrev sDrop : Stmt := inClass (top 17) 25
theorem scDrop : FnScope ["self", "glyph"] ["self", "glyph"] (defScope sDrop) := ⟨rfl, rfl, rfl, by decide +kernel, rfl, by decide +kernel, by decide +kernel⟩
theorem ok_drop {f fP fR : Addr} {fd fdP fdR : FuncData} (F : Fun K "drop" "Font.drop" sDrop f fd) (T : TxF K mg C CI fE fW fBt fWr) (GP : FnOk P w K mg base (L2N.CX P w) 4 fP fdP ["self", "glyph"] (spTakeOut C)) (bP : Binds K fdP ["self", "glyph"] [])
    (mP : Meth K C "_take_out" fP) (GR : FnOk P w K mg base CX0 1 fR fdR ["self", "records"] (spRemember C)) (bR : Binds K fdR ["self", "records"] []) (mR : Meth K C "_remember" fR) : FnOk P w K mg base (L2N.CX P w) 5 f fd ["self", "glyph"] (spDrop C) := by
  refine okN F scDrop (fun vs H Q E h => ?_) (fun cdv A outer s H vs Q E hr h => ?_)
  · obtain ⟨p, g, o, st, past, rfl, _⟩ := h
    rfl
  · obtain ⟨p, g, o, st, past, rfl, FA, ne, nk, l1, l2, hg, k⟩ := h
    have no : ∀ {m : Str}, (m == ("_advances" : Str)) = false → (m == ("_kerns" : Str)) = false → (m == ("_blank" : Str)) = false → (m == ("_past" : Str)) = false → (fflds o st.blank).lookup m = none := fun a b c d => fflds_no _ _ a b c d
    refine ⟨_, pss_one (ps_expr (pe_meth (pv 0) T.cl mR GR (hr.mono (by decide)) bR .nil pass0 (pa_cons (pe_meth (pv 0) T.cl mP GP hr bP .nil (L2N.passes_call (L2N.takes_of rfl rfl rfl rfl) (fun _ _ _ _ h => h)) (pa_cons (pv 1) pa_nil)) pa_nil))), ?_⟩
    refine ⟨_, rfl, p, _, _, rfl, FA.ob, no (by decide +kernel) (by decide +kernel) (by decide +kernel) (by decide +kernel), _, rfl, p, _, _, rfl, FA.ob, no (by decide +kernel) (by decide +kernel) (by decide +kernel) (by decide +kernel), _, rfl, ?_⟩
    refine ⟨p, g, o, st, past, rfl, FA, ne, nk, l1, l2, hg, fun H' l hl2 kf F1 hr1 => ?_⟩
    obtain ⟨ls, hp, _⟩ := FA.dp
    exact ⟨p, l, o, setA st g none, past, [.adv g (lget st.adv g)], rfl, F1, hr1, fun z => (by rw [z, hp] at hl2; cases hl2), fun H2 kf2 F2 => k H2 (kf.trans kf2) F2⟩
end
/-! ### deeds -/
section
open PySem.Spec PyProof.Rows
variable {X : Cx} {d : Addr} {es : Array DictEntry} {n : Nat} {o e : Expr} {apos cpos : Pos} {td ty : TE}
/-- D.get(e), D a dict of the module with text keys, the key there -/
def tKGet (K : PySem.W.Frag) (d : Addr) (td ty : TE) : TE := fun σ H Q => td σ H fun x H1 => x = .ref d ∧ ty σ H1 fun y H2 => ∃ (z : Str) (u0 : Value) (v0 : V), y = .str z ∧ PySem.W.nsIn K d z = some (some u0) ∧ RelV v0 u0 ∧ Q v0 H2
theorem pe_kdget (D : KDict X.K X.w d es n) (ho : PE X o td) (he : PE X e ty) (m : M1 X o "get" apos e cpos) : PE X (.Call (.Attribute o "get" apos) [e] [] cpos) (tKGet X.K d td ty) := by
  refine ⟨fun pins s σ H Q I h => wpAny_Call_method m.base m.few m.line PySem.F.plainAttrs_dict PySem.F.slot_dict_get PySem.F.type_dict_get (thn (ho.run pins s σ H _ I h) ?_)⟩
  rintro u s1 ⟨_, H1, I1, rx, rfl, q1⟩
  obtain rfl : u = Value.ref d := rx
  refine ⟨kd_type D I1, fun b z => (by cases z; exact ⟨_, I1.kIn _ _ D.at_, rfl⟩), ?_⟩
  rw [m.trees]
  refine Calls.callWith_builtin rfl (Calls.evalArgs_plain (Calls.spliced_cons (thn (he.run pins s1 σ H1 _ I1 q1) ?_)))
  rintro iv s2 ⟨y, H2, I2, ry, z, u0, v0, rfl, e0, r0, q2⟩
  obtain ⟨t, rfl⟩ := ry
  have M2 := PySem.W.mapOf_K (prog := X.prog) (w := X.w) I2.kIn D.at_ D.lit
  refine Calls.spliced_nil (call_meetsIn PySem.F.slot_dict_get M2.typeIs PySem.F.entry_dict_get (PySem.F.args_dict_get_2 _ _) (meets_dict_get (strKind X.prog X.w) d (PySem.strKind_is X.prog X.w z t) D.low) ⟨_, M2, ?_⟩)
  rw [PySem.W.find_K D.at_ e0]
  exact ⟨v0, H2, I2.tok _, r0, q2⟩
end
/-- the two deeds that the law knows -/
inductive Deed where
  | blank (n : Int)
  | adv (g : Str) (n : Int)
def Deed.tup : Deed → List V
  | .blank n => [.str "blank", .int n]
  | .adv g n => [.str "advance", .str g, .int n]
def spIsDeed : Sp := fun vs H Q _ => ∃ (t : Addr) (dd : Deed), vs = [.ref t] ∧ H t = some (.tup dd.tup) ∧ Q (.bl true) H
section
variable {P : Program} {w : World} {K : PySem.W.Frag} {mg : Str → Option Value} {base : Heap} {C CI CU CT CG fE fW fBt fWr : Addr}
abbrev sIsDeed : Stmt := top 21
theorem scIsDeed : FnScope ["value"] ["value"] (defScope sIsDeed) := ⟨rfl, rfl, rfl, by decide +kernel, rfl, by decide +kernel, by decide +kernel⟩
structure SizesOk (K : PySem.W.Frag) (w : World) (mg : Str → Option Value) (D : Addr) : Prop where
  g : mg "DEED_SIZES" = some (.ref D)
  d : ∃ es n, KDict K w D es n
  a : ∃ t, PySem.W.nsIn K D "advance" = some (some (.int 3 t))
  b : ∃ t, PySem.W.nsIn K D "blank" = some (some (.int 2 t))
theorem ok_isDeed {f D : Addr} {fd : FuncData} (F : Fun K "is_deed" "is_deed" sIsDeed f fd) (Z : SizesOk K w mg D) (mIs : mg "isinstance" = none) (mT : mg "tuple" = none) (mS : mg "str" = none) (mL : mg "len" = none) : FnOk P w K mg base CX0 1 f fd ["value"] spIsDeed := by
  obtain ⟨es, n, KD⟩ := Z.d
  refine F.ok scIsDeed (fun vs H Q E h => ?_) (fun cdv A outer s H vs Q E hr h => ?_)
  · obtain ⟨t, dd, rfl, _⟩ := h
    rfl
  · obtain ⟨t, dd, rfl, ht, k⟩ := h
    refine ⟨_, pss_cons (ps_if (PW.pt (pw_or (pt_not (pt_val (pe_callB call_isi (by rfl) mIs (by decide +kernel) (pa_cons (pv 0) (pa_cons (pe_bltn (v := .ty "tuple") (by rfl) mT (by decide +kernel) rfl) pa_nil)))))
        (pw_or (pt_cmpR op_eq (pe_callB call_len_seq (by rfl) mL PySem.boot_len (pa_cons (pv 0) pa_nil)) pe_int (nomark _))
        (pw_or1 (pt_not (pt_val (pe_callB call_isi (by rfl) mIs (by decide +kernel) (pa_cons (pe_ix ix_tup (pv 0) pe_int (fun _ _ => rfl)) (pa_cons (pe_bltn (v := .ty "str") (by rfl) mS (by decide +kernel) rfl) pa_nil))))))))) pss_no pss_nil)
      (pss_one (ps_ret (pe_cmpR op_eq (pe_kdget KD (pe_glob (v := .ref D) (by rfl) Z.g rfl) (pe_ix ix_tup (pv 0) pe_int (fun _ _ => rfl)) ⟨rfl, rfl, rfl, rfl⟩) (pe_callB call_len_seq (by rfl) mL PySem.boot_len (pa_cons (pv 0) pa_nil)) (nomark _)))), ?_⟩
    cases dd with
    | blank n1 =>
      obtain ⟨tk, hk⟩ := Z.b
      refine ⟨_, rfl, _, _, _, _, true, rfl, .ty "tuple", .base (.tup ht), kit_ty (by decide +kernel), true, rfl, iteF ?_⟩
      refine ⟨_, rfl, t, _, rfl, .inr (SqT.of ht), rfl, _, rfl, ?_⟩
      refine iteF ⟨_, rfl, t, _, 0, .str "blank", rfl, rfl, SqT.of ht, rfl, _, _, _, _, true, rfl, .ty "str", .base (.str "blank"), kit_ty (by decide +kernel), true, rfl, iteF ?_⟩
      exact ⟨rfl, _, rfl, t, _, 0, .str "blank", rfl, rfl, SqT.of ht, rfl, "blank", _, .int 2, rfl, hk, ⟨tk, rfl⟩, _, rfl, t, _, rfl, .inr (SqT.of ht), rfl, k⟩
    | adv g1 n1 =>
      obtain ⟨tk, hk⟩ := Z.a
      refine ⟨_, rfl, _, _, _, _, true, rfl, .ty "tuple", .base (.tup ht), kit_ty (by decide +kernel), true, rfl, iteF ?_⟩
      refine ⟨_, rfl, t, _, rfl, .inr (SqT.of ht), rfl, _, rfl, ?_⟩
      refine iteF ⟨_, rfl, t, _, 0, .str "advance", rfl, rfl, SqT.of ht, rfl, _, _, _, _, true, rfl, .ty "str", .base (.str "advance"), kit_ty (by decide +kernel), true, rfl, iteF ?_⟩
      exact ⟨rfl, _, rfl, t, _, 0, .str "advance", rfl, rfl, SqT.of ht, rfl, "advance", _, .int 3, rfl, hk, ⟨tk, rfl⟩, _, rfl, t, _, rfl, .inr (SqT.of ht), rfl, k⟩
end
/-! ### _do -/
def spDo (C CT : Addr) : Sp := fun vs H Q E => ∃ (p t : Addr) (o : Own) (st : FSt) (past : List (List Rec)), vs = [.ref p, .ref t] ∧ FontAt C H p o st past ∧
  ((∃ n, H t = some (.tup (Deed.blank n).tup) ∧ 0 ≤ n ∧ n ≤ 1000000 ∧ ∀ H' l, H l = none → KeepF p o H H' → FontAt C H' p o (setB st n) past → RecsAt H' l [.blank st.blank] → Q (.ref l) H') ∨
   (∃ g n, H t = some (.tup (Deed.adv g n).tup) ∧ nameB g = true ∧ g.length ≤ 1000 ∧ 0 ≤ n ∧ n ≤ 1000000 ∧ (∀ e ∈ st.adv, e.1.length ≤ 1000) ∧ (g.length ≤ 1 ∨ missing st g = none) ∧ roomless st g = true ∧
     ∀ H' d, Same H H' → H' d = none → E (.ref CT) (some d) (upd H' d (.xd [("limit", .int 40)]))))
section
variable {P : Program} {w : World} {K : PySem.W.Frag} {mg : Str → Option Value} {base : Heap} {C CI CU CT CG fE fW fBt fWr : Addr}
abbrev sDo : Stmt := inClass (top 17) 30
theorem scDo : FnScope ["self", "deed", "word"] ["self", "deed"] (defScope sDo) := ⟨rfl, rfl, rfl, by decide +kernel, rfl, by decide +kernel, by decide +kernel⟩
theorem ok_do {f fP fB : Addr} {fd fdP fdB : FuncData} (F : Fun K "_do" "Font._do" sDo f fd) (T : TxF K mg C CI fE fW fBt fWr) (GP : FnOk P w K mg base (L2N.CX P w) 6 fP fdP ["self", "glyph", "advance"] (spPutA K C CI CU CT CG)) (bP : Binds K fdP ["self", "glyph", "advance"] []) (mP : Meth K C "_put_advance" fP)
    (GB : FnOk P w K mg base (L2N.CX P w) 4 fB fdB ["self", "advance"] (spPutB K C CI)) (bB : Binds K fdB ["self", "advance"] []) (mB : Meth K C "_put_blank" fB) : FnOk P w K mg base (L2N.CX P w) 7 f fd ["self", "deed"] (spDo C CT) := by
  refine okN F scDo (fun vs H Q E h => ?_) (fun cdv A outer s H vs Q E hr h => ?_)
  · obtain ⟨p, t, o, st, past, rfl, _⟩ := h
    rfl
  · obtain ⟨p, t, o, st, past, rfl, FA, h⟩ := h
    have nd := scDo.nd
    have no : ∀ {m : Str}, (m == ("_advances" : Str)) = false → (m == ("_kerns" : Str)) = false → (m == ("_blank" : Str)) = false → (m == ("_past" : Str)) = false → (fflds o st.blank).lookup m = none := fun a b c d => fflds_no _ _ a b c d
    refine ⟨_, pss_cons (ps_set (i := 2) nd rfl (Or.inl rfl) (pe_ix ix_tup (pv 1) pe_int (fun _ _ => rfl)))
      (pss_cons (ps_if (pt_cmpR op_eq (pv 2) pe_str (nomark _)) (pss_one (ps_ret (pe_meth (pv 0) T.cl mP GP hr bP .nil (L2N.passes_call (L2N.takes_of rfl rfl rfl rfl) (fun _ _ _ _ h => h)) (pa_cons (pe_ix ix_tup (pv 1) pe_int (fun _ _ => rfl)) (pa_cons (pe_ix ix_tup (pv 1) pe_int (fun _ _ => rfl)) pa_nil))))) pss_nil)
      (pss_cons (ps_if (pt_cmpR op_eq (pv 2) pe_str (nomark _)) pss_no pss_nil)
      (pss_cons (ps_if (pt_cmpR op_eq (pv 2) pe_str (nomark _)) pss_no pss_nil)
      (pss_one (ps_ret (pe_meth (pv 0) T.cl mB GB (hr.mono (by decide)) bB .nil (L2N.passes_call (L2N.takes_of rfl rfl rfl rfl) (fun _ _ _ _ h => h)) (pa_cons (pe_ix ix_tup (pv 1) pe_int (fun _ _ => rfl)) pa_nil))))))), ?_⟩
    rcases h with ⟨n, ht, n0, n1, k⟩ | ⟨g, n, ht, hn, hl, n0, n1, hls, hm, hro, kE⟩
    · refine ⟨_, rfl, t, _, 0, .str "blank", rfl, rfl, SqT.of ht, rfl, _, rfl, rfl, _, rfl, ?_⟩
      rw [dec_str, show (("blank" : Str) == "advance") = false from by decide +kernel]
      refine iteF ⟨_, rfl, rfl, _, rfl, ?_⟩
      rw [dec_str, show (("blank" : Str) == "kern") = false from by decide +kernel]
      refine iteF ⟨_, rfl, rfl, _, rfl, ?_⟩
      rw [dec_str, show (("blank" : Str) == "drop") = false from by decide +kernel]
      refine iteF ⟨_, rfl, p, _, _, rfl, FA.ob, no (by decide +kernel) (by decide +kernel) (by decide +kernel) (by decide +kernel), _, rfl, t, _, 1, .int n, rfl, rfl, SqT.of ht, rfl, ?_⟩
      exact ⟨p, .int n, true, false, o, st, past, rfl, FA, Kd.int, fun _ => ⟨n, rfl⟩, fun z => (by cases z), fun z => (z ⟨n, rfl, n0, n1⟩).elim, fun n2 z _ _ H' l hl2 kf F1 hr1 => by
        obtain rfl : n = n2 := V.int.inj z
        exact k H' l hl2 kf F1 hr1⟩
    · refine ⟨_, rfl, t, _, 0, .str "advance", rfl, rfl, SqT.of ht, rfl, _, rfl, rfl, _, rfl, ?_⟩
      rw [decide_eq_true rfl]
      refine iteT ⟨_, rfl, p, _, _, rfl, FA.ob, no (by decide +kernel) (by decide +kernel) (by decide +kernel) (by decide +kernel), _, rfl, t, _, 1, .str g, rfl, rfl, SqT.of ht, rfl, _, rfl, t, _, 2, .int n, rfl, rfl, SqT.of ht, rfl, ?_⟩
      refine ⟨p, .str g, .int n, true, true, false, o, st, past, rfl, FA, Ks.str, IsS.str, fun g2 e => (V.str.inj e) ▸ hl, Kd.int, fun _ => ⟨n, rfl⟩, fun z => (by cases z), hls, fun z => (by rw [show nameV (.str g) = nameB g from rfl, hn] at z; cases z), fun _ z => (z ⟨n, rfl, n0, n1⟩).elim, fun g2 n2 e1 _ e2 _ _ => ?_⟩
      cases e1
      cases e2
      refine ⟨fun h1 c hc => ?_, fun _ => ⟨fun _ H' d s2 hd => kE H' d s2 hd, fun z => (by rw [hro] at z; cases z)⟩⟩
      rcases hm with z | z
      · omega
      · rw [z] at hc; cases hc
end
/-! ### apply: the second deed is refused -/
section
open PyProof.Rows
variable {X : Cx}
def tRaiseFrom (K : PySem.W.Frag) (cls : Value) (a : Addr) (i : Nat) (C : Addr) (f : Str) (W : WX) (te : TE) : TS := fun _ σ H => PySem.W.subIn K cls (.type "BaseException") = some true ∧ PySem.W.typeIn K cls = some (.type "type") ∧ σ[i]? = some (some (.ref a)) ∧
  te σ H fun y H1 => ∀ d, H1 d = none → W (.ref C) (some d) σ (upd H1 d (.xd [(f, y)]))
theorem ps_raise_fromE {W : WX} {a C fI : Addr} {oe : Obj} {cls : Value} {d : Option Addr} {pn : List (Addr × Obj)} {xe : Value → Shared → Prop} {x f n : Str} {k i : Nat} {fd : FuncData} {te : TE} {e : Expr} {p cp pos pos2 : Pos}
    (hz : L2N.Zn cls d oe) (hf : ∃ vs, oe.data = .fields vs) (hb : X.base.get? a = none) (hc : L2H.HotC (suiteE X a ((a, oe) :: pn) xe)) (tk : L2.Takes (suiteE X a ((a, oe) :: pn) xe) W) (R : ErrC X.K X.mg x C fI) (F1 : L2H.FnH X.prog X.w X.K X.mg X.base CX0 k fI fd ["self", f] (spEx1 C f)) (hr : L2H.RoomH (k + 1) (X.A.mark (some (.ref a))))
    (bI : Binds X.K fd ["self", f] []) (hg : Gl (suiteE X a ((a, oe) :: pn) xe) x) (he : PE (suiteE X a ((a, oe) :: pn) xe) e te) (hm : ∀ σ H (P R : V → Hp → Prop), (∀ v H, P v H → R v H) → te σ H P → te σ H R) (hN : X.N[i]? = some n) (hv : Vis X.env.scope n) (hdb : (x == ("__debug__" : Str)) = false := by decide)
    (hst : starEach (e :: []) X.env = (false, eval e X.env) :: starEach [] X.env := by rfl) (hpl : (backTo pos (starEach [] X.env)).any (·.1) = false := by rfl) (hd : (n == ("__debug__" : Str)) = false := by decide) (hcd : (n == ("__classdict__" : Str)) = false := by decide) :
    PS (suiteE X a ((a, oe) :: pn) xe) (.Raise (some (.Call (.Name x p) [e] [] pos)) (some (.Name n cp)) pos2) (tRaiseFrom X.K cls a i C f W te) := by
  refine ⟨fun pins s σ H D I h => ?_⟩
  obtain ⟨r1, r2, hσ, t⟩ := h
  obtain ⟨vs, hd2⟩ := hf
  have hr2 : Raises (suiteE X a ((a, oe) :: pn) xe) oe.cls := by rw [hz.1]; exact raises_own r1 r2
  refine (ps_raise_from (X := suiteE X a ((a, oe) :: pn) xe) rfl List.mem_cons_self ⟨vs, hd2, hz.2.2 vs hd2⟩ hb hr2 tk (L2H.pmk5_oexH (X := suiteE X a ((a, oe) :: pn) xe) R.T R.iC R.tI F1 hr hc bI (fun _ _ _ _ _ _ _ z => z.elim) hg R.g (pa_cons he pa_nil hst) hdb hst hpl) hN hv hd hcd).run pins s σ H D I ⟨hσ, ?_⟩
  exact mkO1 (f := f) (hm σ H _ _ (fun y _ k => ⟨y, rfl, k⟩) t) fun _ _ hpr z => hm σ H _ _ (fun _ _ k => hpr _ _ k) z
end
def spApply (K : PySem.W.Frag) (C CD : Addr) : Sp := fun vs H _ E => ∃ (p L t1 t2 : Addr) (o : Own) (st : FSt) (past : List (List Rec)) (n m : Int) (g : Str), vs = [.ref p, .ref L] ∧ FontAt C H p o st past ∧ (∀ rs ∈ past, rs ≠ []) ∧ H L = some (.lst [.ref t1, .ref t2]) ∧ L ≠ o.dP ∧ H t1 = some (.tup (Deed.blank n).tup) ∧ H t2 = some (.tup (Deed.adv g m).tup) ∧
  0 ≤ n ∧ n ≤ 1000000 ∧ nameB g = true ∧ g.length ≤ 1000 ∧ 0 ≤ m ∧ m ≤ 1000000 ∧ (∀ e ∈ st.adv, e.1.length ≤ 1000) ∧ (g.length ≤ 1 ∨ missing st g = none) ∧ roomless st g = true ∧ st.adv.length + 1 ≤ 1000 ∧ st.krn.length + 1 ≤ 1000 ∧
  ∀ H' d, KeepF p o H H' → H d = none → H' d = some (.xd [("index", .int 1)]) → FontAt C H' p o st past → E (.ref CD) (some d) H'
section
variable {P : Program} {w : World} {K : PySem.W.Frag} {mg : Str → Option Value} {base : Heap} {C CI CU CT CD CF fE fW fBt fWr fHas fLen fEU fPl fED fIs : Addr}
abbrev sApply : Stmt := inClass (top 17) 27
theorem scApply : FnScope ["self", "deeds", "records", "index", "deed", "error"] ["self", "deeds"] (defScope sApply) := ⟨rfl, rfl, rfl, by decide +kernel, rfl, by decide +kernel, by decide +kernel⟩
theorem ok_apply {f fD fB : Addr} {fd fdD fdB fdI fdE : FuncData} (F : Fun K "apply" "Font.apply" sApply f fd) (T : TxF K mg C CI fE fW fBt fWr) (mEn : mg "enumerate" = none) (gF : mg "FontError" = some (.ref CF)) (xT : PySem.W.exmOne K (.ref CT) (.ref CF) = some true) (sT0 : PySem.W.subIn K (.ref CT) (.type "BaseException") = some true) (tT : PySem.W.typeIn K (.ref CT) = some (.type "type"))
    (aI : At K mg "is_deed" fIs) (GI : FnOk P w K mg base CX0 1 fIs fdI ["value"] spIsDeed) (bI : Binds K fdI ["value"] []) (GD : FnOk P w K mg base (L2N.CX P w) 7 fD fdD ["self", "deed"] (spDo C CT)) (bD : Binds K fdD ["self", "deed"] []) (mD : Meth K C "_do" fD)
    (GB : L2H.FnH P w K mg base CX0 2 fB fdB ["self", "records"] (spBack C)) (bB : Binds K fdB ["self", "records"] []) (mB : Meth K C "_take_back" fB) (eD : ErrC K mg "DeedRefused" CD fED) (GE : L2H.FnH P w K mg base CX0 1 fED fdE ["self", "index"] (spEx1 CD "index")) (bE : Binds K fdE ["self", "index"] []) :
    FnOk P w K mg base (L2.CX P w) 8 f fd ["self", "deeds"] (spApply K C CD) := by
  refine F.okX scApply (fun vs H Q E h => ?_) (fun cdv A outer s H vs Q E hr h => ?_)
  · obtain ⟨p, L, t1, t2, o, st, past, n, m, g, rfl, _⟩ := h
    rfl
  · obtain ⟨p, L, t1, t2, o, st, past, n, m, g, rfl, FA, ne, hL, nL, ht1, ht2, n0, n1, hn, hl, m0, m1, hls, hm, hro, z1, z2, kE⟩ := h
    have nd := scApply.nd
    refine ⟨_, pss_cons (ps_set (i := 2) nd rfl (Or.inl rfl) (pe_lst pa_nil))
      (pss_cons (ps_for (passes_of rfl) rfl (pi_enum (by rfl) mEn (pa_cons (pv 1) pa_nil)) (pg_tup rfl (pgs_cons (pg_name (i := 3) nd rfl (Or.inl rfl)) (pgs_cons (pg_name (i := 4) nd rfl (Or.inl rfl)) pgs_nil)))
        (pss_cons (ps_if (pt_not (pt_val (pe_call GI (hr.mono (by decide)) (by rfl) aI.g aI.k bI .nil pass0 (pa_cons (pv 4) pa_nil)))) pss_no pss_nil)
        (pss_one (ps_try_asX (i := 5) (Wout := fun cls d _ H => E cls d H) rfl rfl rfl nd ⟨by rfl, by decide, .inl gF⟩ rfl rfl (L2H.passesAt_of rfl) (takes_of rfl rfl rfl rfl)
          (fun W pn xe tk pa => pss_one (ps_expr (pe_extendT (pv 2) (pe_methA (pv 0) T.cl mD GD hr bD (L2N.passAt tk) (pa_cons (pv 4) pa_nil)))))
          (fun a2 oe cls d pn xe hz hf hb hc tk => pss_cons (by exact ps_expr (L2H.pe_methH (E := fun _ => E0) (pv 0) T.cl mB GB ((L2H.roomH_mark hr _).mono (by decide)) hc bB (fun _ _ _ _ _ _ _ z => z.elim) (pa_cons (pv 2) pa_nil)))
            (pss_one (by exact ps_raise_fromE (i := 5) hz hf hb hc tk eD GE ((L2H.roomH_mark hr _).mono (by decide)) bE (by rfl) (pv 3) (fun σ H P R h => mono_tVar σ H P R h) rfl (Or.inl rfl))))))))
      pss_no), ?_⟩
    obtain ⟨lsP, hP, _⟩ := FA.dp
    refine ⟨by show 0 ≤ sizeLine; decide, fun R hR => ?_⟩
    have rne : ∀ {b : Addr} {x : HO}, H b = some x → b ≠ R := fun q => fresh_of hR q
    obtain ⟨H1, e1⟩ : ∃ H1, H1 = upd H R (.lst []) := ⟨_, rfl⟩
    have s1 : Same H H1 := by rw [e1]; exact same_upd hR
    have R1 : H1 R = some (.lst []) := by rw [e1]; exact upd_same
    rw [← e1]
    have own : ∀ {b : Addr} {x : HO}, H b = some x → (∀ y, x ≠ .dK y) → (∀ y, x ≠ .dT y) → (∀ c d y, x ≠ .ins c d y) → b ≠ o.dP → b ≠ p ∧ b ≠ o.dA ∧ b ≠ o.dN ∧ b ≠ o.dP := fun q a1 a2 a3 a4 =>
      ⟨fun z => (by rw [z, FA.ob] at q; exact a3 _ _ _ (Option.some.inj q).symm), fun z => (by rw [z, FA.da] at q; exact a1 _ (Option.some.inj q).symm), fun z => (by rw [z, FA.dn] at q; exact a2 _ (Option.some.inj q).symm), a4⟩
    have oL := own hL (fun _ z => nomatch z) (fun _ z => nomatch z) (fun _ _ _ z => nomatch z) nL
    have oT1 := own ht1 (fun _ z => nomatch z) (fun _ z => nomatch z) (fun _ _ _ z => nomatch z) (fun z => by rw [z, hP] at ht1; cases ht1)
    have oT2 := own ht2 (fun _ z => nomatch z) (fun _ z => nomatch z) (fun _ _ _ z => nomatch z) (fun z => by rw [z, hP] at ht2; cases ht2)
    have no : ∀ {m : Str} {b : Int}, (m == ("_advances" : Str)) = false → (m == ("_kerns" : Str)) = false → (m == ("_blank" : Str)) = false → (m == ("_past" : Str)) = false → (fflds o b).lookup m = none := fun a b c d => fflds_no _ _ a b c d
    refine ⟨_, rfl, L, _, rfl, SqL.of (s1 _ _ hL), ?_⟩
    refine for_it (walk_enum (xs := [V.ref t1, V.ref t2])) (fun i σ H' => (i = 0 ∧ σ = [some (.ref p), some (.ref L), some (.ref R), none, none, none] ∧ H' = H1) ∨
      (i = 1 ∧ (∃ u v w : Option V, σ = [some (.ref p), some (.ref L), some (.ref R), u, v, w]) ∧ KeepF p o H H' ∧ FontAt C H' p o (setB st n) past ∧ ∃ tt, H' R = some (.lst [.ref tt]) ∧ RecAt H' tt (.blank st.blank))) (.inl ⟨rfl, rfl, rfl⟩) (fun i σ H' _ h => ?_) ?_ ?_
    · rcases h with ⟨_, _, rfl⟩ | ⟨_, _, kf, _⟩
      · exact SqL.of (s1 _ _ hL)
      · exact SqL.of (kf _ _ hL oL.1 oL.2.1 oL.2.2.1 oL.2.2.2)
    · rintro i x σ H' H'' hi (⟨rfl, rfl, rfl⟩ | ⟨rfl, ⟨u, v, w', rfl⟩, kf, F1, tt, hRt, hrec⟩) hy
      · obtain ⟨T1, x1, y1, rfl, hT, rfl, ex, ey⟩ := hy
        obtain rfl := Option.some.inj ex
        obtain rfl := Option.some.inj ey
        have sT : Same H' (upd H' T1 (.tup [.int (0 : Nat), .ref t1])) := same_upd hT
        have F1 := FA.sm (s1.trans sT)
        obtain ⟨H2, e2⟩ : ∃ H2, H2 = upd H' T1 (.tup [.int (0 : Nat), .ref t1]) := ⟨_, rfl⟩
        have hT2 : H2 T1 = some (.tup [.int (0 : Nat), .ref t1]) := by rw [e2]; exact upd_same
        rw [← e2] at F1 sT ⊢
        have a1 : H2 t1 = some (.tup (Deed.blank n).tup) := sT _ _ (s1 _ _ ht1)
        have R2 : H2 R = some (.lst []) := sT _ _ R1
        refine ⟨T1, _, rfl, SqT.of hT2, rfl, _, _, rfl, _, _, rfl, rfl, ?_⟩
        refine ⟨_, rfl, t1, .blank n, rfl, a1, _, rfl, iteF ?_⟩
        refine ⟨_, rfl, .inl ⟨rfl, _, SqL.of R2⟩, _, rfl, p, _, _, rfl, F1.ob, no (by decide +kernel) (by decide +kernel) (by decide +kernel) (by decide +kernel), _, rfl, p, t1, o, st, past, rfl, F1, .inl ⟨n, a1, n0, n1, fun H3 l hl2 kf2 F2 hr2 => ?_⟩⟩
        obtain ⟨ts, hl3, hp2⟩ := hr2
        cases hp2 with
        | @cons tt _ ts2 _ hrec hnil =>
          cases hnil
          have R3 : H3 R = some (.lst []) := kf2 _ _ R2 (Ne.symm (rne FA.ob)) (Ne.symm (rne FA.da)) (Ne.symm (rne FA.dn)) (Ne.symm (rne hP))
          refine ⟨R, l, _, _, rfl, rfl, R3, hl3, by show 0 + 1 ≤ sizeLine; decide, ?_⟩
          refine .inr ⟨rfl, ⟨_, _, _, rfl⟩, fun b x q c1 c2 c3 c4 => (upd_ne (rne q)).trans (kf2 _ _ (sT _ _ (s1 _ _ q)) c1 c2 c3 c4), F2.aside R3 ne (Ne.symm (rne hP)), tt, upd_same, ?_⟩
          exact (upd_ne (fun z => by rw [z] at hrec; rw [show H3 R = _ from hrec] at R3; cases R3)).trans hrec
      · obtain ⟨T1, x1, y1, rfl, hT, rfl, ex, ey⟩ := hy
        obtain rfl := Option.some.inj ex
        obtain rfl := Option.some.inj ey
        have sT : Same H' (upd H' T1 (.tup [.int (1 : Nat), .ref t2])) := same_upd hT
        have F2 := F1.sm sT
        obtain ⟨H2, e2⟩ : ∃ H2, H2 = upd H' T1 (.tup [.int (1 : Nat), .ref t2]) := ⟨_, rfl⟩
        have hT2 : H2 T1 = some (.tup [.int (1 : Nat), .ref t2]) := by rw [e2]; exact upd_same
        rw [← e2] at F2 sT ⊢
        have a2 : H2 t2 = some (.tup (Deed.adv g m).tup) := sT _ _ (kf _ _ ht2 oT2.1 oT2.2.1 oT2.2.2.1 oT2.2.2.2)
        have R2 : H2 R = some (.lst [.ref tt]) := sT _ _ hRt
        have rec2 : RecAt H2 tt (.blank st.blank) := RecAt.sm (fun _ _ => sT _ _) hrec
        refine ⟨T1, _, rfl, SqT.of hT2, rfl, _, _, rfl, _, _, rfl, rfl, ?_⟩
        refine ⟨_, rfl, t2, .adv g m, rfl, a2, _, rfl, iteF ?_⟩
        refine ⟨_, rfl, .inl ⟨rfl, _, SqL.of R2⟩, _, rfl, p, _, _, rfl, F2.ob, no (by decide +kernel) (by decide +kernel) (by decide +kernel) (by decide +kernel), _, rfl, p, t2, o, setB st n, past, rfl, F2, .inr ⟨g, m, a2, hn, hl, m0, m1, hls, hm, hro, fun H3 d s3 hd => ?_⟩⟩
        have s4 : Same H2 (upd H3 d (.xd [("limit", .int 40)])) := s3.trans (same_upd hd)
        have F4 := F2.sm s4
        refine ⟨xT, fun a na => ?_⟩
        refine ⟨_, rfl, p, _, _, rfl, F4.ob, no (by decide +kernel) (by decide +kernel) (by decide +kernel) (by decide +kernel), _, rfl, p, R, o, setB st n, past, [.blank st.blank], rfl, F4, ⟨[tt], s4 _ _ R2, .cons (RecAt.sm (fun _ _ => s4 _ _) rec2) .nil⟩, z1, z2, fun H5 kf5 F5 => ?_⟩
        refine ⟨sT0, tT, rfl, _, rfl, fun d2 hd2 => ?_⟩
        have kfE : KeepF p o H H5 := (kf.trans (KeepF.same (sT.trans s4))).trans kf5
        have eb : backs (setB st n) [.blank st.blank] = st := by cases st; rfl
        rw [eb] at F5
        exact kE _ d2 (kfE.trans (KeepF.same (same_upd hd2))) (keep_none kfE F5 hd2) upd_same (F5.sm (same_upd hd2))
    · rintro σ H6 (⟨z, _⟩ | ⟨z, _⟩) <;> cases z
end
/-! ### Font.__init__ refused: one ligature too many -/
structure BadFace (fa : AdvL) (b : Int) (m : Nat) (g : Str) : Prop where
  b0 : 0 ≤ b
  b1 : b ≤ 1000000
  ln : ∀ e ∈ fa, e.1.length ≤ 1000
  sa : ∀ i g, i < m → (keysA fa)[i]? = some g → StepA (stA fa b i) g (advOf fa g)
  hm : (keysA fa)[m]? = some g
  bad : nameB g = true ∧ 0 ≤ advOf fa g ∧ advOf fa g ≤ 1000000 ∧ (g.length ≤ 1 ∨ missing (stA fa b m) g = none) ∧ roomless (stA fa b m) g = true
  names : ∀ e ∈ (stA fa b m).adv, e.1.length ≤ 1000
def spFontX (C CT : Addr) : Sp := fun vs H _ E => ∃ (p dx a : Addr) (fa : AdvL) (b : Int) (m : Nat) (g : Str), vs = [.ref p, .ref a, .non, .int b] ∧ H p = some (.ins C dx []) ∧ H a = some (.dK (enc cA fa)) ∧ BadFace fa b m g ∧
  ∀ H' d, (∀ c u, H c = some u → c ≠ p → H' c = some u) → H d = none → H' d = some (.xd [("limit", .int 40)]) → E (.ref CT) (some d) H'
section
variable {P : Program} {w : World} {K : PySem.W.Frag} {mg : Str → Option Value} {base : Heap} {C CI fE fW fBt fWr fHas fLen CU fEU fPl fPP CT CG CO : Addr}
theorem ok_fontX {f fB fA fK : Addr} {fd fdB fdA fdK : FuncData} {t0 : Tok} (F : FunD K "__init__" "Font.__init__" (defArgs sInit) (defBody sInit) (defScope sInit) [.non] [("blank", .int 250)] f fd) (T : TxF K mg C CI fE fW fBt fWr) (U : TxH K mg C fHas fLen CU fEU fPl)
    (mB : mg "BLANK" = some (.int 250 t0)) (pp : mg "pair_place" = some (.ref fPP)) (GP : KeyStr P w K mg base fPl kRank) (GQ : KeyPair P w K mg base fPP kPlace)
    (GB : FnOk P w K mg base (L2N.CX P w) 4 fB fdB ["self", "advance"] (spPutB K C CI)) (bB : Binds K fdB ["self", "advance"] []) (eB : Meth K C "_put_blank" fB)
    (GA : FnOk P w K mg base (L2N.CX P w) 6 fA fdA ["self", "glyph", "advance"] (spPutA K C CI CU CT CG)) (bA : Binds K fdA ["self", "glyph", "advance"] []) (eA : Meth K C "_put_advance" fA)
    (GK : FnOk P w K mg base (L2N.CX P w) 4 fK fdK ["self", "left", "right", "kern"] (spPutK K C CI CU CO)) (bK : Binds K fdK ["self", "left", "right", "kern"] []) (eK : Meth K C "_put_kern" fK) : FnOk P w K mg base (L2N.CX P w) 7 f fd ["self", "advances", "kerns", "blank"] (spFontX C CT) := by
  refine F.ok scInit (fun vs H Q E h => ?_) (fun cdv A outer s H vs Q E hr h => ?_)
  · obtain ⟨p, dx, a, fa, b, m, gb, rfl, _⟩ := h
    rfl
  · obtain ⟨p, dx, a, fa, b, m, gb, rfl, hp, ha, FC, kE⟩ := h
    obtain ⟨kv, ekv⟩ : ∃ kv : V, kv = .non := ⟨_, rfl⟩
    rw [← ekv]
    have nd := scInit.nd
    have hu := hu_of hr
    refine ⟨_, pss_cons (ps_fld (pv 0) pe_dnewK rfl) (pss_cons (ps_fld (pv 0) pe_dnewT rfl) (pss_cons (ps_fld (pv 0) (pe_glob (v := .int 250) (by rfl) mB ⟨_, rfl⟩) rfl) (pss_cons (ps_fld (pv 0) (pe_lst pa_nil) rfl)
      (pss_cons (ps_expr (pe_meth (pv 0) T.cl eB GB (hr.mono (by decide)) bB .nil (L2N.passes_call (L2N.takes_of rfl rfl rfl rfl) (fun _ _ _ _ h => h)) (pa_cons (pv 3) pa_nil)))
      (pss_cons (ps_for (passes_of rfl) rfl (pi_list (pe_callBK (cr_sortedK (f := fPl) (val := V.str) (ok := fun _ _ x => x.length ≤ 1000) (k := kRank) rfl (hr.mono (by decide))) (by rfl) U.mSorted (by decide +kernel) (pa_cons (pe_callTy (call_list_dK rfl) (by rfl) U.mList (by decide +kernel) (pa_cons (pv 1) pa_nil)) pa_nil) (pk_cons (pe_glob (v := .ref fPl) (by rfl) U.pl rfl) pk_nil)))
        (pg_name (i := 4) nd rfl (Or.inl rfl)) (pss_one (ps_expr (pe_meth (pv 0) T.cl eA GA hr bA .nil (L2N.passes_call (L2N.takes_of rfl rfl rfl rfl) (fun _ _ _ _ h => h)) (pa_cons (pv 4) (pa_cons (pe_dget hu (pv 1) (pv 4) (fun _ _ => rfl)) pa_nil))))))
      pss_no))))), ?_⟩
    have h1000 : (4 : Nat) < 1000 := by decide
    refine fun dA hA => ⟨_, rfl, p, C, dx, [], rfl, (upd_ne (fresh_of hA hp)).trans hp, T.cl, T.nA, (by show 0 < 1000; decide), ?_⟩
    obtain ⟨H1, e1⟩ : ∃ H1, H1 = upd (upd H dA (.dK [])) p (.ins C dx (putF "_advances" (.ref dA) [])) := ⟨_, rfl⟩
    rw [← e1]
    refine fun dN hN => ?_
    have p1 : H1 p = some (.ins C dx (putF "_advances" (.ref dA) [])) := by rw [e1]; exact upd_same
    refine ⟨_, rfl, p, C, dx, _, rfl, (upd_ne (fresh_of hN p1)).trans p1, T.cl, T.nN, (by show 1 < 1000; decide), ?_⟩
    obtain ⟨H2, e2⟩ : ∃ H2, H2 = upd (upd H1 dN (.dT [])) p (.ins C dx (putF "_kerns" (.ref dN) (putF "_advances" (.ref dA) []))) := ⟨_, rfl⟩
    rw [← e2]
    have p2 : H2 p = some (.ins C dx (putF "_kerns" (.ref dN) (putF "_advances" (.ref dA) []))) := by rw [e2]; exact upd_same
    refine ⟨_, rfl, p, C, dx, _, rfl, p2, T.cl, T.nB, (by show 2 < 1000; decide), ?_⟩
    obtain ⟨H3, e3⟩ : ∃ H3, H3 = upd H2 p (.ins C dx (putF "_blank" (.int 250) (putF "_kerns" (.ref dN) (putF "_advances" (.ref dA) [])))) := ⟨_, rfl⟩
    rw [← e3]
    have p3 : H3 p = some (.ins C dx (putF "_blank" (.int 250) (putF "_kerns" (.ref dN) (putF "_advances" (.ref dA) [])))) := by rw [e3]; exact upd_same
    refine ⟨by show 0 ≤ sizeLine; decide, fun dP hP => ?_⟩
    refine ⟨_, rfl, p, C, dx, _, rfl, (upd_ne (fresh_of hP p3)).trans p3, T.cl, T.nP, (by show 3 < 1000; decide), ?_⟩
    obtain ⟨o, eo⟩ : ∃ o : Own, o = ⟨dx, dA, dN, dP⟩ := ⟨_, rfl⟩
    have eff : putF "_past" (.ref dP) (putF "_blank" (.int 250) (putF "_kerns" (.ref dN) (putF "_advances" (.ref dA) []))) = fflds o 250 := by
      rw [eo]
      exact fflds_make ⟨dx, dA, dN, dP⟩ 250
    rw [eff]
    obtain ⟨H4, e4⟩ : ∃ H4, H4 = upd (upd H3 dP (.lst [])) p (.ins C dx (fflds o 250)) := ⟨_, rfl⟩
    rw [← e4]
    have pA : p ≠ dA := fresh_of hA hp
    have pN : p ≠ dN := fresh_of hN p1
    have pP : p ≠ dP := fresh_of hP p3
    have A1 : H1 dA = some (.dK []) := by rw [e1, upd_ne (Ne.symm pA), upd_same]
    have AN : dA ≠ dN := fresh_of hN A1
    have A2 : H2 dA = some (.dK []) := by rw [e2, upd_ne (Ne.symm pA), upd_ne AN, A1]
    have A3 : H3 dA = some (.dK []) := by rw [e3, upd_ne (Ne.symm pA), A2]
    have AP : dA ≠ dP := fresh_of hP A3
    have N2 : H2 dN = some (.dT []) := by rw [e2, upd_ne (Ne.symm pN), upd_same]
    have N3 : H3 dN = some (.dT []) := by rw [e3, upd_ne (Ne.symm pN), N2]
    have NP : dN ≠ dP := fresh_of hP N3
    have A4 : H4 dA = some (.dK []) := by rw [e4, upd_ne (Ne.symm pA), upd_ne AP, A3]
    have N4 : H4 dN = some (.dT []) := by rw [e4, upd_ne (Ne.symm pN), upd_ne NP, N3]
    have P4 : H4 dP = some (.lst []) := by rw [e4, upd_ne (Ne.symm pP), upd_same]
    have F4 : FontAt C H4 p o ⟨[], [], 250⟩ [] := by
      subst eo
      exact ⟨by rw [e4]; exact upd_same, A4, N4, ⟨[], P4, .nil, fun x hx => by cases hx⟩, Nat.zero_le _, Nat.zero_le _, Nat.zero_le _⟩
    have HN : H dN = none := by
      rw [e1] at hN
      exact noneU (noneU hN)
    have HP : H dP = none := by
      rw [e3, e2, e1] at hP
      exact noneU (noneU (noneU (noneU (noneU hP))))
    have st4 : ∀ c u, H c = some u → c ≠ p → H4 c = some u := fun c u e hc => by
      rw [e4, upd_ne hc, upd_ne (fresh_of HP e), e3, upd_ne hc, e2, upd_ne hc, upd_ne (fresh_of HN e), e1, upd_ne hc, upd_ne (fresh_of hA e), e]
    refine ⟨_, rfl, p, _, _, rfl, F4.ob, fflds_no _ _ (by decide +kernel) (by decide +kernel) (by decide +kernel) (by decide +kernel), _, rfl, ?_⟩
    refine ⟨p, .int b, true, false, o, ⟨[], [], 250⟩, [], rfl, F4, Kd.int, fun _ => ⟨b, rfl⟩, fun h => (by cases h), fun hn => absurd ⟨b, rfl, FC.b0, FC.b1⟩ hn, fun n en _ _ H5 l hl5 kf5 F5 _ => ?_⟩
    have en' : n = b := (V.int.inj en).symm
    subst en'
    have oA : o.dA = dA := by rw [eo]
    have oN : o.dN = dN := by rw [eo]
    have oP : o.dP = dP := by rw [eo]
    have keepH : ∀ c u, H c = some u → c ≠ p → c ≠ o.dA ∧ c ≠ o.dN ∧ c ≠ o.dP := fun c u e _ => by
      rw [oA, oN, oP]
      exact ⟨fresh_of hA e, fresh_of HN e, fresh_of HP e⟩
    have ap : a ≠ p := fun z => by rw [z, hp] at ha; cases ha
    obtain ⟨aA, aN, aP⟩ := keepH a _ ha ap
    have a5 : H5 a = some (.dK (enc cA fa)) := kf5 _ _ (st4 _ _ ha ap) ap aA aN aP
    refine ⟨_, rfl, a, _, rfl, a5, fun q hq => ?_⟩
    have kmap : (enc cA fa).map (fun kv => kV kv.1) = (fa.map (·.1)).map V.str := by
      unfold enc
      rw [List.map_map, List.map_map]
      rfl
    rw [kmap]
    refine ⟨q, fa.map (·.1), rfl, rfl, SqL.of upd_same, keyFn_str GP (fun x hx => ?_), fun L hL => ⟨L, rfl, ⟨_, SqL.of upd_same⟩, ?_⟩⟩
    · obtain ⟨e, he, rfl⟩ := List.mem_map.mp hx
      exact FC.ln e he
    obtain ⟨HL, eL⟩ : ∃ HL, HL = upd (upd H5 q (.lst ((fa.map (·.1)).map V.str))) L (.lst ((keysA fa).map V.str)) := ⟨_, rfl⟩
    show ∃ W : Nat → Nat → St → Hp → Prop, (∃ m, W 0 m _ (upd (upd H5 q (.lst ((fa.map (·.1)).map V.str))) L (.lst ((keysA fa).map V.str)))) ∧ _
    rw [← eL]
    have s5L : Same H5 HL := by
      rw [eL]
      exact (same_upd hq).trans (same_upd hL)
    have FL := F5.sm s5L
    have LL : HL L = some (.lst ((keysA fa).map V.str)) := by rw [eL]; exact upd_same
    have L5 : H5 L = none := noneU hL
    have LP : L ≠ o.dP := fun z => by
      obtain ⟨ls, hp5, _⟩ := F5.dp
      rw [z, hp5] at L5
      cases L5
    have aL : HL a = some (.dK (enc cA fa)) := s5L _ _ a5
    refine for_list (K := K) (a := L) (xs := (keysA fa).map V.str) (fun i σ H' => i ≤ m ∧ (∃ u w x y : Option V, σ = [some (.ref p), some (.ref a), some kv, some (.int n), u, w, x, y]) ∧ KeepF p o HL H' ∧ FontAt C H' p o (stA fa n i) [])
      ⟨Nat.zero_le _, ⟨none, none, none, none, rfl⟩, KeepF.refl, FL⟩ (fun i σ H' _ ⟨_, _, kf, _⟩ => SqL.of (FL.keepL kf LL LP)) ?_ ?_
    · rintro i x σ H' hx ⟨him, ⟨u, w', x', y', rfl⟩, kf, F'⟩
      rw [List.getElem?_map, Option.map_eq_some_iff] at hx
      obtain ⟨g, hg, rfl⟩ := hx
      rcases Nat.lt_or_eq_of_le him with lt | eq
      · obtain ⟨c1, c2, c3, c4, c5, c6, c7, c8⟩ := FC.sa i g lt hg
        have hgm : g ∈ fa.map (·.1) := List.mem_mergeSort.mp (List.mem_of_getElem? hg)
        obtain ⟨m, hm⟩ := lget_of_mem hgm
        have em : advOf fa g = m := by
          unfold advOf
          rw [hm]
          rfl
        have hgl : g.length ≤ 1000 := by
          obtain ⟨e, he, rfl⟩ := List.mem_map.mp hgm
          exact FC.ln e he
        rw [em] at c2 c3 c6 c7
        have hst : stA fa n (i + 1) = setA (stA fa n i) g (some m) := by
          unfold stA
          rw [foldl_take _ _ hg, em]
        refine ⟨_, rfl, p, _, _, rfl, F'.ob, fflds_no _ _ (by decide +kernel) (by decide +kernel) (by decide +kernel) (by decide +kernel), _, rfl, _, rfl, _, rfl, a, .int m, rfl, ?_, ?_⟩
        · have e : valV (enc cA fa) (Sum.inr g : Key) = some (.int m) := by
            rw [show valV (enc cA fa) (Sum.inr g : Key) = (lget fa g).map V.int from enc_get cA_inj fa g, hm]
            rfl
          rw [← e]
          exact DGet.k (k := Sum.inr g) (kf _ _ aL ap aA aN aP)
        · refine ⟨p, .str g, .int m, true, true, false, o, stA fa n i, [], rfl, F', Ks.str, IsS.str, fun g' e => (by cases e; exact hgl), Kd.int, fun _ => ⟨m, rfl⟩, fun h => (by cases h), c8, fun hn => (by rw [show nameV (.str g) = true from c1] at hn; cases hn), fun _ hn => absurd ⟨m, rfl, c2, c3⟩ hn, ?_⟩
          rintro g' m' eg _ em' _ _
          cases eg
          cases em'
          refine ⟨fun hl1 c hc => ?_, fun _ => ⟨fun hro => (by rw [c5] at hro; cases hro), fun _ => ⟨c6, c7, fun H2 l2 hl2 kf2 F2 _ => ⟨lt, ⟨_, _, _, _, rfl⟩, kf.trans kf2, ?_⟩⟩⟩⟩
          · rcases c4 with c4 | c4
            · omega
            · rw [c4] at hc; cases hc
          · rw [hst]
            exact F2
      · subst eq
        obtain rfl : gb = g := Option.some.inj (FC.hm.symm.trans hg)
        obtain ⟨c1, c2, c3, c4, c5⟩ := FC.bad
        have hgm : gb ∈ fa.map (·.1) := List.mem_mergeSort.mp (List.mem_of_getElem? hg)
        obtain ⟨mm, hm⟩ := lget_of_mem hgm
        have em : advOf fa gb = mm := by
          unfold advOf
          rw [hm]
          rfl
        have hgl : gb.length ≤ 1000 := by
          obtain ⟨e, he, rfl⟩ := List.mem_map.mp hgm
          exact FC.ln e he
        rw [em] at c2 c3
        refine ⟨_, rfl, p, _, _, rfl, F'.ob, fflds_no _ _ (by decide +kernel) (by decide +kernel) (by decide +kernel) (by decide +kernel), _, rfl, _, rfl, _, rfl, a, .int mm, rfl, ?_, ?_⟩
        · have e : valV (enc cA fa) (Sum.inr gb : Key) = some (.int mm) := by
            rw [show valV (enc cA fa) (Sum.inr gb : Key) = (lget fa gb).map V.int from enc_get cA_inj fa gb, hm]
            rfl
          rw [← e]
          exact DGet.k (k := Sum.inr gb) (kf _ _ aL ap aA aN aP)
        · refine ⟨p, .str gb, .int mm, true, true, false, o, stA fa n i, [], rfl, F', Ks.str, IsS.str, fun g' e => (by cases e; exact hgl), Kd.int, fun _ => ⟨mm, rfl⟩, fun h => (by cases h), FC.names, fun hn => (by rw [show nameV (.str gb) = true from c1] at hn; cases hn), fun _ hn => absurd ⟨mm, rfl, c2, c3⟩ hn, ?_⟩
          rintro g' m' eg _ em' _ _
          cases eg
          cases em'
          refine ⟨fun hl1 c hc => ?_, fun _ => ⟨fun _ H2 d s2 hd => ?_, fun hro => (by rw [c5] at hro; cases hro)⟩⟩
          · rcases c4 with c4 | c4
            · omega
            · rw [c4] at hc; cases hc
          · have st6 : ∀ c u, H c = some u → c ≠ p → H2 c = some u := fun c u e hc => by
              obtain ⟨cA', cN', cP'⟩ := keepH c u e hc
              exact s2 _ _ (kf _ _ (s5L _ _ (kf5 _ _ (st4 _ _ e hc) hc cA' cN' cP')) hc cA' cN' cP')
            have dH : H d = none := by
              cases q : H d with
              | none => rfl
              | some u =>
                by_cases z : d = p
                · rw [z, s2 _ _ F'.ob] at hd; cases hd
                · rw [st6 d u q z] at hd; cases hd
            exact kE _ d (fun c u q z => (upd_ne (fun y => by rw [y, dH] at q; cases q)).trans (st6 c u q z)) dH upd_same
    · rintro σ H6 ⟨him, _⟩
      have hkl := (List.getElem?_eq_some_iff.mp FC.hm).1
      rw [List.length_map] at him
      omega
end
/-! ### Font.even -/
section
open PySem.Spec PyProof.Rows
variable {X : Cx} {CX : CXT} {k n i : Nat} {f C p g : Addr} {mc : Value} {fd : FuncData} {ps ks : List Str} {sp : Sp} {E : XK} {x m : Str} {p1 pos apos : Pos} {o e : Expr} {es : List Expr} {kws : List Keyword} {ta : TE} {t tk : TA} {gg : List Value → List Value → List Value} {gV : List V → List V → List V}
/-- c(e, .., k = v, ..), c a name of the def's own that holds the class -/
def tMakeNv (i : Nat) (C : Addr) (n m : Nat) (sp : Sp) (gV : List V → List V → List V) (E : XK) (t tk : TA) : TE := fun σ H Q => σ[i]? = some (some (.ref C)) ∧ tMakeN C n m sp gV E t tk σ H Q
theorem pe_makeNv (M : Mk X.K C f) (F : FnOk X.prog X.w X.K X.mg X.base CX k f fd ps sp) (hr : Room (k + 1) X.A) (hN : X.N[i]? = some x) (hv : Vis X.env.scope x) (hb : KBn X.K fd ps (n + 1) ks gg gV) (hx : Passes CX X E)
    (ha : PA X (e :: es) t) (hkw : PK X kws tk) (hall : (backToKw pos (keywordEach kws X.env)).all (·.1.isSome) = true := by rfl) (hks : (backToKw pos (keywordEach kws X.env)).filterMap (·.1) = ks := by rfl)
    (hd : (x == ("__debug__" : Str)) = false := by decide) (hcd : (x == ("__classdict__" : Str)) = false := by decide) (he : starEach (e :: es) X.env = (false, eval e X.env) :: starEach es X.env := by rfl)
    (hpl : ((backTo pos (starEach (e :: es) X.env)).any (·.1) || (backToKw pos (keywordEach kws X.env)).any (·.1.isNone)) = false := by rfl) :
    PE X (.Call (.Name x p1) (e :: es) kws pos) (tMakeNv i C n ks.length sp gV E t tk) := by
  refine ⟨fun pins s σ H Q I h => wpAny_Call_Name_kw (ld_own I hN hv h.1 hd hcd ?_)⟩
  refine PySem.W.callWith_KW (h₀ := X.base) I.ok.mod.kin M.kp hall (thn (ha.run pos pins s σ H _ I h.2) ?_) hpl he
  rintro us s1 ⟨vs, H1, I1, r, q⟩
  refine thn (hkw.run pos pins s1 σ H1 _ I1 q) ?_
  rintro ws s2 ⟨zs, H2, I2, rz, l1, l2, q2⟩
  rw [hks]
  exact ⟨I2.kIn, run_makeN M F hr hb hx I2 r rz l1 l2 q2⟩
/-- C.m(e, .., k = v, ..), m a classmethod -/
def tCMethK (C : Addr) (n m : Nat) (sp : Sp) (gV : List V → List V → List V) (E : XK) (ta : TE) (t tk : TA) : TE := fun σ H Q => ta σ H fun x H1 => x = .ref C ∧ t σ H1 fun vs H2 => tk σ H2 fun zs H3 => vs.length = n ∧ zs.length = m ∧ sp (gV (.ref C :: vs) zs) H3 Q E
theorem pe_cmethK {pl : Sem Bool} (he : PE X o ta) (r : ClX.CRead X.K C mc) (c : ClX.CMet X.K C mc m p g) (F : FnOk X.prog X.w X.K X.mg X.base CX k g fd ps sp) (hr : Room k X.A) (hb : KBn X.K fd ps (n + 1) ks gg gV) (hx : Passes CX X E) (ha : PA X (e :: es) t) (hkw : PK X kws tk)
    (hall : (backToKw pos (keywordEach kws X.env)).all (·.1.isSome) = true := by rfl) (hks : (backToKw pos (keywordEach kws X.env)).filterMap (·.1) = ks := by rfl) (hst : starEach (e :: es) X.env = (false, eval e X.env) :: starEach es X.env := by rfl)
    (hpl : ((backTo pos (starEach (e :: es) X.env)).any (·.1) || (backToKw pos (keywordEach kws X.env)).any (·.1.isNone)) = false := by rfl)
    (ht : eval (.Call (.Attribute o m apos) (e :: es) kws pos) X.env = (do
      let ov ← eval o X.env
      standAt apos.atName
      let (f, first) ← holding [ov] (getMethod ov m pl)
      callWith pos f first (backTo pos (starEach (e :: es) X.env)) (backToKw pos (keywordEach kws X.env))) := by rfl) :
    PE X (.Call (.Attribute o m apos) (e :: es) kws pos) (tCMethK C n ks.length sp gV E ta t tk) := by
  refine ⟨fun pins s σ H Q I h => PySem.W.methodCall_KW (pl := pl) (thn (he.run pins s σ H _ I h) ?_) ht⟩
  rintro u s1 ⟨_, H1, I1, rx, rfl, q⟩
  obtain rfl : u = Value.ref C := rx
  refine ClX.getmethcm_ok I1 r c fun s2 I2 => ?_
  refine PySem.W.callWith_of (P := PySem.W.MethP X.K s1.heap.objs.size g (.ref C)) (first := []) hpl (PySem.W.keeps_M c.fi) (evalArgs_kw2 hall (thn (ha.run pos _ s2 σ H1 _ I2 q) ?_) hst)
  rintro us s3 ⟨vs, H2, I3, rv, q2⟩
  refine thn (hkw.run pos _ s3 σ H2 _ I3 q2) ?_
  rintro ws s4 ⟨zs, H3, I4, rz, l1, l2, q3⟩
  refine ⟨⟨ClX.pin_at I4, I4.kIn⟩, ?_⟩
  rw [hks]
  have r1 : Vals (V.ref C :: vs) (Value.ref C :: us) := .cons rfl rv
  have r2 := hb.rel r1 rz
  have z : wpAny (model X.prog X.w) X.A (call (.ref s1.heap.objs.size) us (ks.zip ws)) (EP X ((s1.heap.objs.size, PySem.W.methodObj (.ref g) (.ref C)) :: pins) σ Q) X.xe s4 :=
    wpAny_call (PySem.W.method_call (ClX.pin_at I4) (codeAny_mono (F.run X.A X.stack s4 H3 ⟨Value.ref C :: us, ks.zip ws⟩ (gg (Value.ref C :: us) ws) (gV (V.ref C :: vs) zs) Q E hr I4.env0 (hb.to s4 (Value.ref C :: us) ws I4.kIn (r1.length.symm.trans (congrArg Nat.succ l1)) (rz.length.symm.trans l2)) r2 q3) fun r s' hq => by
      rcases r with e | (_ | _ | _ | u)
      · exact hx _ σ H3 s4 e s' I4 hq
      · exact (show False from hq).elim
      · exact (show False from hq).elim
      · exact (show False from hq).elim
      · exact I4.after hq))
  exact thn z fun _ _ y => ClX.unpinE y
end
theorem dc_it {J : It} {n : Nat} {G : Hp → Prop} {Y : Nat → Hp → V → Hp → Prop} (w : Walk J n G Y) {g : TG} {tt : TT} {tk tv : TE} {vs : List Nat} {σ : L2.St} {H1 : Hp} {D : Addr} {Qd : Hp → Prop} (Pv : Nat → Hp → Prop) (h0 : Pv 0 (upd H1 D (.dK []))) (hG : ∀ i H, i ≤ n → Pv i H → G H)
    (hs : ∀ i x H H', i < n → Pv i H → Y i H x H' → g x (wipe σ vs) H' fun σ2 H2 => wipe σ2 vs = wipe σ vs ∧ tt σ2 H2 fun b H3 =>
      if b = true then tk σ2 H3 fun y H4 => tv σ2 H4 fun z H5 => ∃ kvs k, y = kV k ∧ H5 D = some (.dK kvs) ∧ kvs.length < sizeLine ∧ Pv (i + 1) (upd H5 D (.dK (putK kvs k z))) else Pv (i + 1) H3) (hd : ∀ H, Pv n H → Qd H) :
    ∃ W : Nat → Nat → Hp → Prop, (∃ m, W 0 m (upd H1 D (.dK []))) ∧ ∀ i m H, W i m H →
      (J.stop i H ∧ Qd H) ∨ (J.go i H ∧ ∃ Nx : Hp → Prop, (∀ H', Nx H' → ∃ m', m' < m ∧ W (i + 1) m' H') ∧ ∀ x H', J.yld i H x H' → g x (wipe σ vs) H' fun σ2 H2 => wipe σ2 vs = wipe σ vs ∧ tt σ2 H2 fun b H3 =>
        if b = true then tk σ2 H3 fun y H4 => tv σ2 H4 fun z H5 => ∃ kvs k, y = kV k ∧ H5 D = some (.dK kvs) ∧ kvs.length < sizeLine ∧ Nx (upd H5 D (.dK (putK kvs k z))) else Nx H3) := by
  refine ⟨fun i m H => m = n - i ∧ i ≤ n ∧ Pv i H, ⟨n, by simp, Nat.zero_le _, h0⟩, fun i m H h => ?_⟩
  obtain ⟨rfl, hi, pv⟩ := h
  have q := hG i H hi pv
  rcases Nat.lt_or_eq_of_le hi with lt | eq
  · exact .inr ⟨w.goes i H lt q, Pv (i + 1), fun H' p' => ⟨n - (i + 1), by omega, rfl, lt, p'⟩, fun x H' y => hs i x H H' lt pv (w.yields i H x H' lt q y)⟩
  · subst eq
    exact .inl ⟨w.stops H q, hd H pv⟩
section
open PySem.Spec PyProof.Rows
variable {X : Cx} {i : Nat} {y : Str} {py pos spos : Pos} {kx vx tg iter : Expr} {scope : Scope} {own : List (Str × Nat)} {wi : TI} {g : TG} {tk tv : TE}
theorem sw_dict {gs : List Comprehension} {l : Nat} {env : Env} (hk : env.scope.kind = .function) (hy : env.scope.names.lookup y = some .local) (hl : (py.line == pos.line) = true) (ha : (scope.names.any fun (n, k) => n == y && (k == .local || k == .cell)) = false) :
    swapsWith (.DictComp kx vx gs scope pos) (some (.Name y py)) l env = pure true := by
  unfold swapsWith
  have fn : env.blockKind = .function := by unfold Env.blockKind; rw [hk]; rfl
  have lo : env.kindOf y = some .local := hy
  simp only [fn, lo, ha, hl, Expr.pos]
  rfl
/-- name = {k: v for .. in ..} on one line -/
theorem ps_setDc (hc : X.calm = true) (hN : X.N.Nodup) (hy : X.N[i]? = some y) (hl : X.env.scope.names.lookup y = some .local) (hsw : swapsWith (.DictComp kx vx [⟨tg, iter, [], 0⟩] scope pos) (some (.Name y py)) spos.line X.env = pure true) (hi : PI X tg iter wi) (ok : BlkOk X.N X.env.scope scope own)
    (hg : ∀ (s : Shared) (H : Hp) (C : Addr) (cl : List (Str × Addr)) (fp : List Addr), PG (X.blk s H scope (compEnvC scope cl C X.env) fp) tg g) (hk : ∀ (s : Shared) (H : Hp) (C : Addr) (cl : List (Str × Addr)) (fp : List Addr), PE (X.blk s H scope (compEnvC scope cl C X.env) fp) kx tk)
    (hv : ∀ (s : Shared) (H : Hp) (C : Addr) (cl : List (Str × Addr)) (fp : List Addr), PE (X.blk s H scope (compEnvC scope cl C X.env) fp) vx tv) (hs : ∀ x, foldedSetIterable iter X.env x = pure x := by intro _; rfl) :
    PS X (.Assign [.Name y py] (.DictComp kx vx [⟨tg, iter, [], 0⟩] scope pos) spos) (tAsg (tDc wi g tYes tk tv (own.map (·.2))) (gName i)) := by
  constructor
  intro pins s σ H D I h
  rw [exec_Assign_Name_used _ _ _ _ hsw]
  have core := dc_core (Q := fun v H1 => gName i v σ H1 D.nx) (Qf := fun _ s1 => SP X pins D .next s1) (use := some (assign (.Name y py) X.env)) (pos := pos) (pos' := firstIterPos [⟨tg, iter, [], 0⟩] pos) hc hN I hi ok hg (fun _ _ _ _ _ => pts_nil) hk hv hs h fun L B s1 m H1 I1 q ns f => ?_
  · exact wpAny_bind (wpAny_standAt (wpAny_bind (wpAny_bind (thn core fun _ s1 z => wpAny_pure (wpAny_pure z)))))
  · obtain ⟨c0, c1, c2, c3, c4, c5⟩ := f
    refine wpAny_assign_Name (store_ok2 (v := V.ref L) I1 hN hy (.inl hl) rfl (fun s2 I2 ⟨a, same, ha⟩ => ⟨m, ns.sameBut same ?_, fun h3 same3 => ⟨_, H1, I2.turned (t' := s2.toks) (fun b o n z => (same3.2 b n).trans z) c0 c1 c3 c4 c5, q⟩⟩) (.inr hl))
    rcases ha with z | z
    · rw [z]; exact c1
    · exact fun e => c4 y a z e.symm
end
/-- the advances of an even font -/
def evenA (z : Str) (n : Int) : AdvL := (chars z).foldl (fun l c => lput l c n) []
def spEven (C : Addr) : Sp := fun vs H Q _ => ∃ (z : Str) (n b : Int), vs = [.ref C, .str z, .int n, .int b] ∧ z.length ≤ 1000 ∧ Face (evenA z n) [] b ∧ ∀ H' p o, Same H H' → H p = none → H o.dA = none → FontAt C H' p o (endSt (evenA z n) [] b) [] → Q (.ref p) H'
section
variable {P : Program} {w : World} {K : PySem.W.Frag} {mg : Str → Option Value} {base : Heap} {C CI fE fW fBt fWr : Addr}
abbrev sEven : Stmt := inClass (top 17) 5
theorem scEven : FnScope ["cls", "letters", "advance", "blank", "advances", "letter"] ["cls", "letters", "advance", "blank"] (defScope sEven) := ⟨rfl, rfl, rfl, by decide +kernel, rfl, by decide +kernel, by decide +kernel⟩
end
section
variable {P : Program} {w : World} {K : PySem.W.Frag} {mg : Str → Option Value} {base : Heap} {C CI fE fW fBt fWr : Addr}
theorem ok_even {f fQ : Addr} {fd fdQ : FuncData} {gg : List Value → List Value → List Value} (F : FunD K "even" "Font.even" (defArgs sEven) (defBody sEven) (defScope sEven) [] [("blank", .int 250)] f fd) (M : Mk K C fQ) (GQ : FnOk P w K mg base (L2N.CX P w) 7 fQ fdQ ["self", "advances", "kerns", "blank"] (spFont C))
    (hb : KBn K fdQ ["self", "advances", "kerns", "blank"] 2 ["blank"] gg (fun vs zs => vs ++ (V.non :: zs))) : FnOk P w K mg base (L2N.CX P w) 9 f fd ["cls", "letters", "advance", "blank"] (spEven C) := by
  refine F.ok scEven (fun vs H Q E h => ?_) (fun cdv A outer s H vs Q E hr h => ?_)
  · obtain ⟨z, n, b, rfl, _⟩ := h
    rfl
  · obtain ⟨z, n, b, rfl, hz, FC, k⟩ := h
    have nd := scEven.nd
    refine ⟨_, pss_cons (ps_setDc (i := 4) (own := [("letter", 5)]) (g := gName 5) (tk := tVar 5) (tv := tVar 2) rfl nd rfl rfl (sw_dict rfl rfl rfl (by decide +kernel)) (pi_str (pv 1))
        (blkOk_by (N := ["cls", "letters", "advance", "blank", "advances", "letter"]) (sc := defScope sEven) (by decide +kernel)) (fun _ _ _ _ _ => pg_name (i := 5) nd rfl (Or.inl rfl)) (fun _ _ _ _ _ => pv 5) (fun _ _ _ _ _ => pv 2))
      (pss_one (ps_ret (pe_makeNv (i := 0) M GQ hr rfl (Or.inl rfl) hb (L2N.passes_call (L2N.takes_of rfl rfl rfl rfl) (fun _ _ _ _ h => h)) (pa_cons (pv 4) pa_nil) (pk_cons (pv 3) pk_nil)))), ?_⟩
    refine ⟨_, rfl, z, rfl, fun D hD => ?_⟩
    have clen : (chars z).length = z.cps.size := by unfold chars; rw [List.length_map, Array.length_toList]
    refine dc_it walk_str (fun i H' => H' = upd H D (.dK (enc cA (((chars z).take i).foldl (fun l c => lput l c n) [])))) rfl (fun _ _ _ _ => trivial) ?_ ?_
    · rintro i x H1 H2 hi rfl ⟨rfl, c, hc, rfl⟩
      have hch := chars_at hc
      have small : (((chars z).take i).foldl (fun l c => lput l c n) ([] : AdvL)).length ≤ i := by
        have gen : ∀ (cs : List Str) (l : AdvL), (cs.foldl (fun l c => lput l c n) l).length ≤ l.length + cs.length := fun cs => by
          induction cs with
          | nil => exact fun l => Nat.le_refl _
          | cons c cs ih =>
            intro l
            have h1 := ih (lput l c n)
            have h2 := lput_len l c n
            rw [List.foldl_cons, List.length_cons]
            omega
        have h := gen ((chars z).take i) []
        have h2 : ((chars z).take i).length ≤ i := by rw [List.length_take]; exact Nat.min_le_left _ _
        have h3 : ([] : AdvL).length = 0 := rfl
        omega
      have zl : z.cps.size ≤ 1000 := hz
      refine ⟨rfl, _, rfl, _, rfl, _, Sum.inr ⟨#[c]⟩, rfl, upd_same, ?_, ?_⟩
      · unfold enc
        rw [List.length_map]
        have h4 : (sizeLine : Nat) = 16777216 := sizeLine_eq
        omega
      · rw [upd_upd, show (Sum.inr ⟨#[c]⟩ : Key) = cA ⟨#[c]⟩ from rfl, enc_put cA_inj, foldl_take (fun l c => lput l c n) [] hch]
    · rintro H1 rfl
      rw [← clen, List.take_length]
      refine ⟨rfl, _, rfl, _, rfl, rfl, rfl, fun x dx hx hdx ne => ?_⟩
      refine ⟨x, dx, D, .non, evenA z n, [], b, rfl, upd_same, ?_, .inr ⟨rfl, rfl⟩, FC, fun H' o ho keep hA hN hP FA => ⟨rfl, k H' x o (fun c u q => ?_) (noneU hx) (noneU (noneU (noneU hA))) FA⟩⟩
      · have Dx : D ≠ x := fun y => by rw [← y, upd_same] at hx; cases hx
        have Dd : D ≠ dx := fun y => by rw [← y, upd_same] at hdx; cases hdx
        rw [upd_ne Dx, upd_ne Dd, upd_same]
        rfl
      · have cx : c ≠ x := fun y => by rw [y, noneU hx] at q; cases q
        have cd : c ≠ dx := fun y => by rw [y, noneU hdx] at q; cases q
        exact keep c u (by rw [upd_ne cx, upd_ne cd, upd_ne (fresh_of hD q)]; exact q) cx
end
/-! ### the errors' __init__ -/
section
variable {P : Program} {w : World} {K : PySem.W.Frag} {mg : Str → Option Value} {base : Heap}
abbrev sEG : Stmt := inClass (top 3) 0
theorem scEG : FnScope ["self", "glyph"] ["self", "glyph"] (defScope sEG) := ⟨rfl, rfl, rfl, by decide +kernel, rfl, by decide +kernel, by decide +kernel⟩
theorem ok_eg {f C : Addr} {fd : FuncData} (F : Fun K "__init__" "InvalidGlyph.__init__" sEG f fd) (T : OexC K C) (hno : PySem.W.findIn K (.ref C) "glyph" = some none) : FnOk P w K mg base CX0 1 f fd ["self", "glyph"] (spEx1 C "glyph") := by
  refine F.ok scEG (fun vs H Q E h => ?_) (fun cdv A outer s H vs Q E hr h => ?_)
  · obtain ⟨v, i, rfl, _⟩ := h
    rfl
  · obtain ⟨a, y, rfl, ha, k⟩ := h
    refine ⟨_, pss_one (ps_ost (pv 0) (pv 1)), ?_⟩
    exact ⟨_, rfl, _, rfl, a, C, rfl, T, hno, .inl ⟨ha, fun dx n ne => k dx n ne⟩⟩
abbrev sEU : Stmt := inClass (top 5) 0
theorem scEU : FnScope ["self", "glyph"] ["self", "glyph"] (defScope sEU) := ⟨rfl, rfl, rfl, by decide +kernel, rfl, by decide +kernel, by decide +kernel⟩
theorem ok_eu {f C : Addr} {fd : FuncData} (F : Fun K "__init__" "UnknownGlyph.__init__" sEU f fd) (T : OexC K C) (hno : PySem.W.findIn K (.ref C) "glyph" = some none) : FnOk P w K mg base CX0 1 f fd ["self", "glyph"] (spEx1 C "glyph") := by
  refine F.ok scEU (fun vs H Q E h => ?_) (fun cdv A outer s H vs Q E hr h => ?_)
  · obtain ⟨v, i, rfl, _⟩ := h
    rfl
  · obtain ⟨a, y, rfl, ha, k⟩ := h
    refine ⟨_, pss_one (ps_ost (pv 0) (pv 1)), ?_⟩
    exact ⟨_, rfl, _, rfl, a, C, rfl, T, hno, .inl ⟨ha, fun dx n ne => k dx n ne⟩⟩
abbrev sET : Stmt := inClass (top 6) 0
theorem scET : FnScope ["self", "limit"] ["self", "limit"] (defScope sET) := ⟨rfl, rfl, rfl, by decide +kernel, rfl, by decide +kernel, by decide +kernel⟩
theorem ok_et {f C : Addr} {fd : FuncData} (F : Fun K "__init__" "TooMany.__init__" sET f fd) (T : OexC K C) (hno : PySem.W.findIn K (.ref C) "limit" = some none) : FnOk P w K mg base CX0 1 f fd ["self", "limit"] (spEx1 C "limit") := by
  refine F.ok scET (fun vs H Q E h => ?_) (fun cdv A outer s H vs Q E hr h => ?_)
  · obtain ⟨v, i, rfl, _⟩ := h
    rfl
  · obtain ⟨a, y, rfl, ha, k⟩ := h
    refine ⟨_, pss_one (ps_ost (pv 0) (pv 1)), ?_⟩
    exact ⟨_, rfl, _, rfl, a, C, rfl, T, hno, .inl ⟨ha, fun dx n ne => k dx n ne⟩⟩
abbrev sEO : Stmt := inClass (top 7) 0
theorem scEO : FnScope ["self", "left", "right"] ["self", "left", "right"] (defScope sEO) := ⟨rfl, rfl, rfl, by decide +kernel, rfl, by decide +kernel, by decide +kernel⟩
theorem ok_eo {f C : Addr} {fd : FuncData} (F : Fun K "__init__" "Overlap.__init__" sEO f fd) (T : OexC K C) (hl : PySem.W.findIn K (.ref C) "left" = some none) (hrt : PySem.W.findIn K (.ref C) "right" = some none) : FnOk P w K mg base CX0 1 f fd ["self", "left", "right"] (spEx2 C "left" "right") := by
  refine F.ok scEO (fun vs H Q E h => ?_) (fun cdv A outer s H vs Q E hr h => ?_)
  · obtain ⟨v, i, j, rfl, _⟩ := h
    rfl
  · obtain ⟨a, x, y, rfl, ha, k⟩ := h
    refine ⟨_, pss_cons (ps_ost (pv 0) (pv 1)) (pss_one (ps_ost (pv 0) (pv 2))), ?_⟩
    refine ⟨_, rfl, _, rfl, a, C, rfl, T, hl, .inl ⟨ha, fun dx n ne => ?_⟩⟩
    refine ⟨_, rfl, _, rfl, a, C, rfl, T, hrt, .inr ⟨dx, _, upd_same, ?_, by show 1 ≤ 900; decide, k dx n ne⟩⟩
    rw [upd_ne ne, upd_same]
end
/-! ### DeedRefused, made while another error is being handled -/
section
variable {P : Program} {w : World} {K : PySem.W.Frag} {mg : Str → Option Value} {base : Heap}
abbrev sED : Stmt := inClass (top 9) 0
theorem scED : FnScope ["self", "index"] ["self", "index"] (defScope sED) := ⟨rfl, rfl, rfl, by decide +kernel, rfl, by decide +kernel, by decide +kernel⟩
theorem ok_eDH {f C : Addr} {fd : FuncData} (F : Fun K "__init__" "DeedRefused.__init__" sED f fd) (T : OexC K C) (hno : PySem.W.findIn K (.ref C) "index" = some none) : L2H.FnH P w K mg base CX0 1 f fd ["self", "index"] (spEx1 C "index") := by
  refine HQ.okH F scED (fun vs H Q E h => by obtain ⟨v, i, rfl, _⟩ := h; rfl) (fun cdv A outer s H vs Q E pn hot hr h => ?_)
  obtain ⟨a, y, rfl, ha, k⟩ := h
  exact ⟨_, pss_one (ps_ost (pv 0) (pv 1)), ⟨_, rfl, _, rfl, a, C, rfl, T, hno, .inl ⟨ha, fun dx n ne => k dx n ne⟩⟩⟩
end
/-! ### the law's own helpers -/
section
open PySem.W PyProof.Rows
variable {prog : Program} {w : World} {K : PySem.W.Frag} {mg : Str → Option Value} {base : Heap}
abbrev sRank : Stmt := top 28
theorem key_rank {f : Addr} {fd : FuncData} (F : Fun K "_law_rank" "_law_rank" sRank f fd) (b : Binds K fd ["_law_glyph"] []) (mL : mg "len" = none) : KeyStr prog w K mg base f kRank := by
  intro A s g t hroom mod hbs hg
  refine key_enter F mod hbs hroom b rfl rfl rfl rfl fun cdv m s1 hm I => ?_
  have v0 : ∀ {pos : Pos}, Ev prog w (A.deeper (envOfC "_law_rank" (defScope sRank) s.heap.objs.size f cdv)) (envOfC "_law_rank" (defScope sRank) s.heap.objs.size f cdv) (Kx K mg base s s.heap.objs.size m) (.Name "_law_glyph" pos) (fun u => ∃ t, u = .str g t) := fun {pos} => ev_var rfl rfl hm ⟨t, rfl⟩
  refine wpAny_execs_cons ?_
  exact ret_tup (.cons (ev_len rfl rfl mL hg v0) (.cons v0 .nil rfl) rfl) I (fun us h => pair_flat h) fun u s' q => ⟨u, rfl, q⟩
end
section
variable {P : Program} {w : World} {K : PySem.W.Frag} {mg : Str → Option Value} {base : Heap}
abbrev sInt : Stmt := top 27
theorem scInt : FnScope ["_law_actual"] ["_law_actual"] (defScope sInt) := ⟨rfl, rfl, rfl, by decide +kernel, rfl, by decide +kernel, by decide +kernel⟩
theorem ok_int {f : Addr} {fd : FuncData} (F : Fun K "_law_int" "_law_int" sInt f fd) (mIs : mg "isinstance" = none) (mI : mg "int" = none) (mB : mg "bool" = none) : FnOk P w K mg base CX0 1 f fd ["_law_actual"] (spWhole K) := by
  refine F.ok scInt (fun vs H Q E h => ?_) (fun cdv A outer s H vs Q E hr h => ?_)
  · obtain ⟨v, i, b, rfl, _⟩ := h
    rfl
  · obtain ⟨v, i, b, rfl, ⟨T, ty, k1, k2⟩, k⟩ := h
    refine ⟨_, pss_one (ps_ret (pe_and (pe_callB call_isi (by rfl) mIs (by decide +kernel) (pa_cons (pv 0) (pa_cons (pe_bltn (v := .ty "int") (by rfl) mI (by decide +kernel) rfl) pa_nil)))
      (pe_one (pe_not (pe_callB call_isi (by rfl) mIs (by decide +kernel) (pa_cons (pv 0) (pa_cons (pe_bltn (v := .ty "bool") (by rfl) mB (by decide +kernel) rfl) pa_nil))))))), ?_⟩
    refine ⟨_, rfl, _, _, _, _, i, rfl, .ty "int", ty, kit_ty k1, i, rfl, ?_⟩
    cases i with
    | false => exact iteF k
    | true =>
      refine iteT ?_
      exact ⟨_, rfl, _, _, _, _, b, rfl, .ty "bool", ty, kit_ty k2, b, rfl, k⟩
end
def rItem : V → V → Hp → VK → Prop := fun x y H Q => ∃ z i c, x = .str z ∧ y = .int i ∧ 0 ≤ i ∧ i < 2 ^ 63 ∧ i < z.length ∧ z.cps[i.toNat]? = some c ∧ Q (.str ⟨#[c]⟩) H
def lettersC (a b m : Nat) : List Nat := (List.range m).map fun k => 97 + (a + k * (2 * b + 1)) % 26
def chV (c : Nat) : V := .str (SX.S [c])
theorem lettersC_len (a b m : Nat) : (lettersC a b m).length = m := by unfold lettersC; rw [List.length_map, List.length_range]
theorem lettersC_in {a b m c : Nat} (h : c ∈ lettersC a b m) : 97 ≤ c ∧ c ≤ 122 := by
  obtain ⟨k, _, rfl⟩ := List.mem_map.mp h
  omega
theorem lettersC_succ (a b m : Nat) : lettersC a b (m + 1) = lettersC a b m ++ [97 + (a + m * (2 * b + 1)) % 26] := by
  unfold lettersC
  rw [List.range_succ, List.map_append]
  rfl
theorem alpha_at : ∀ m : Nat, m < 26 → ("abcdefghijklmnopqrstuvwxyz" : Str).cps[m]? = some (97 + m) := by decide +kernel
def spLet : Sp := fun vs H Q _ => ∃ (b g : Addr) (m : Nat), vs = [.ref b, .int m] ∧ m ≤ 100 ∧ BagAt H b g ∧ ∀ (x y : Nat) (l : Addr) H', x < 26 → y < 6 → BagAt H' b g → Keep b H H' → H l = none → H' l = some (.lst ((lettersC x y m).map chV)) → Q (.ref l) H'
def spRow : Sp := fun vs H Q _ => ∃ (b g l : Addr) (n : Nat) (cs : List Nat), vs = [.ref b, .ref l, .int n] ∧ 2 ≤ n ∧ n ≤ 100 ∧ BagAt H b g ∧ l ≠ b ∧ H l = some (.lst (cs.map chV)) ∧ cs ≠ [] ∧ cs.length ≤ 100 ∧
  ∀ (r : List Nat) H', 2 ≤ r.length → r.length ≤ n → (∀ c ∈ r, c ∈ cs) → BagAt H' b g → Keep b H H' → Q (.str (SX.S r)) H'
def tLetE : TE := tOp rItem (tC (.str "abcdefghijklmnopqrstuvwxyz")) (tOp (rI (fun _ j => 0 < j) fun i j => .int (i % j)) (tOp (rI0 fun i j => .int (i + j)) (tVar 2) (tOp (rI CMul fun i j => .int (i * j)) (tVar 4) (tVar 3))) (tC (.int 26)))
section
variable {P : Program} {w : World} {K : PySem.W.Frag} {mg : Str → Option Value} {base : Heap}
abbrev sLet : Stmt := top 26
theorem scLet : FnScope ["_law_bag_here", "_law_many", "_law_start", "_law_step", "_law_k"] ["_law_bag_here", "_law_many"] (defScope sLet) := ⟨rfl, rfl, rfl, by decide +kernel, rfl, by decide +kernel, by decide +kernel⟩
theorem ok_let {f fT : Addr} {fd fdT : FuncData} (F : Fun K "_law_letters" "_law_letters" sLet f fd) (aT : At K mg "_law_take" fT) (mR : mg "range" = none)
    (GT : FnOk P w K mg base CX0 1 fT fdT ["_law_bag_here", "_law_size"] spTake) (bT : Binds K fdT ["_law_bag_here", "_law_size"] []) : FnOk P w K mg base CX0 2 f fd ["_law_bag_here", "_law_many"] spLet := by
  refine F.ok scLet (fun vs H Q E h => ?_) (fun cdv A outer s H vs Q E hr h => ?_)
  · obtain ⟨b, g, m, rfl, _⟩ := h
    rfl
  · obtain ⟨b, g, m, rfl, hm, B, k⟩ := h
    have nd := scLet.nd
    refine ⟨_, pss_cons (ps_set (i := 2) nd rfl (Or.inr rfl) (pe_call GT hr (by rfl) aT.g aT.k bT .nil pass0 (pa_cons (pv 0) (pa_cons pe_int pa_nil))))
      (pss_cons (ps_set (i := 3) nd rfl (Or.inr rfl) (pe_op op_add (pe_op op_mul pe_int (pe_call GT hr (by rfl) aT.g aT.k bT .nil pass0 (pa_cons (pv 0) (pa_cons pe_int pa_nil)))) pe_int))
      (pss_one (ps_ret (pe_lc (own := [("_law_k", 4)]) (g := gName 4) (tt := tYes) (te := tLetE) rfl nd (pi_range1 (by rfl) mR (pa_cons (pv 1) pa_nil))
        (blkOk_by (N := ["_law_bag_here", "_law_many", "_law_start", "_law_step", "_law_k"]) (sc := defScope sLet) (by decide +kernel))
        (fun _ _ _ _ _ => pg_name (i := 4) nd rfl (Or.inl rfl)) (fun _ _ _ _ _ => pts_nil)
        (fun _ _ _ _ _ => by exact pe_item_str pe_str (pe_op op_mod (pe_op op_add (pv 2) (pe_op op_mul (pv 4) (pv 3))) pe_int) (fun _ _ => rfl)))))), ?_⟩
    refine ⟨_, rfl, b, g, 26, rfl, by decide, by decide, B, fun d1 H1 d1a d1b B1 k1 => ?_⟩
    refine ⟨_, rfl, b, g, 6, rfl, by decide, by decide, B1, fun d2 H2 d2a d2b B2 k2 => ⟨2, d2, rfl, rfl, .inl ⟨by decide, by decide⟩, _, _, rfl, rfl, ?_⟩⟩
    obtain ⟨x, rfl⟩ : ∃ x : Nat, d1 = (x : Int) := ⟨d1.toNat, by omega⟩
    obtain ⟨y, rfl⟩ : ∃ y : Nat, d2 = (y : Int) := ⟨d2.toNat, by omega⟩
    refine ⟨_, rfl, m, rfl, by omega, by omega, fun D hD => ?_⟩
    refine lc_range (lo := 0) (n := (m : Int).toNat) (fun i H' => (∀ a o, H2 a = some o → H' a = some o) ∧ H' D = some (.lst ((lettersC x y i).map chV))) ⟨fun a o e => (upd_ne (ne_of_none e hD)).trans e, upd_same⟩ ?_ ?_
    · rintro i H' hi ⟨s1, hD'⟩
      have hz : (sizeLine : Nat) = 16777216 := sizeLine_eq
      have hi' : i < m := by omega
      refine ⟨rfl, ?_⟩
      have l26 : ("abcdefghijklmnopqrstuvwxyz" : Str).length = 26 := by decide +kernel
      refine ⟨_, rfl, _, rfl, _, rfl, 0 + (i : Int), 2 * (y : Int) + 1, rfl, rfl, .inl ⟨by omega, by omega⟩, _, _, rfl, rfl, _, _, rfl, rfl, (by show (0 : Int) < 26; decide), ?_⟩
      have em : ((x : Int) + (0 + (i : Int)) * (2 * (y : Int) + 1)) % 26 = (((x + i * (2 * y + 1)) % 26 : Nat) : Int) := by
        rw [Int.zero_add]
        push_cast
        rfl
      refine ⟨_, _, 97 + (x + i * (2 * y + 1)) % 26, rfl, congrArg V.int em, by omega, by omega, by rw [l26]; omega, alpha_at _ (by omega), ?_⟩
      refine ⟨_, hD', by rw [List.length_map, lettersC_len]; omega, fun a o e => (upd_ne (ne_of_none e hD)).trans (s1 a o e), ?_⟩
      rw [upd_same, lettersC_succ, List.map_append]
      rfl
    · rintro H' ⟨s1, hD'⟩
      have em : (m : Int).toNat = m := by omega
      rw [em] at hD'
      have hDH : H D = none := by
        cases e : H D with
        | none => rfl
        | some u =>
          by_cases hb : D = b
          · obtain ⟨ns, p, q, r, c, h1, _⟩ := B2
            rw [hb, h1] at hD
            cases hD
          · rw [k2 _ _ (k1 _ _ e hb) hb] at hD
            cases hD
      exact k x y D H' (by omega) (by omega) (B2.sm s1) (fun a o e hn => s1 _ _ (k2 _ _ (k1 _ _ e hn) hn)) hDH hD'
end
/-! ### lists of texts as data -/
def AsciiS (x : Str) : Prop := ∀ c ∈ x.cps.toList, c < 128
theorem strs_all {ls : List Str} (h : ∀ x ∈ ls, AsciiS x) : PyData.canLay0 (.list (ls.map .str)) = true := by
  show PyData.canLayAll0 (ls.map .str) = true
  rw [PyProof.Rows.canLayAll_strs']
  refine List.all_eq_true.mpr fun x hx => ?_
  unfold PyData.strOk
  rw [← Array.all_toList]
  exact List.all_eq_true.mpr fun c hc => decide_eq_true (by have := h x hx c hc; omega)
theorem strs_depth (ls : List Str) : PyData.depth (.list (ls.map .str)) ≤ 64 := by
  have : ∀ ls : List Str, PyData.depthAll (ls.map .str) ≤ 1 := by
    intro ls
    induction ls with
    | nil => simp [PyData.depthAll]
    | cons a t ih =>
      simp [PyData.depthAll, PyData.depth] at ih ⊢
      omega
  have := this ls
  simp [PyData.depth]
  omega
theorem strs_shaped {ls : List Str} (h : ∀ x ∈ ls, AsciiS x) : SeqAt.shaped (.list (ls.map .str)) = true := by
  unfold SeqAt.shaped
  rw [strs_all h, decide_eq_true (strs_depth ls)]
  rfl
theorem strs_eqv {ls : List Str} (h : ∀ x ∈ ls, AsciiS x) : PyData.eqv (.list (ls.map .str)) (.list (ls.map .str)) = true := PySem.SeqAt.eqv_refl _ (strs_all h)
theorem strs_dp {K : PySem.W.Frag} {H : Hp} {a : Addr} {ls : List Str} (h : SqL K H a (ls.map V.str)) : Dp K H (.ref a) (.list (ls.map .str)) := by
  refine .lst h ?_
  clear h
  induction ls with
  | nil => exact .nil
  | cons x t ih => exact .cons (.str x) ih
/-- a comprehension over an empty list -/
theorem lc_none {K : PySem.W.Frag} {q : Addr} {g : TG} {tt : TT} {te : TE} {vs : List Nat} {σ : L2.St} {H1 : Hp} {D : Addr} {Qd : Hp → Prop} (hq : H1 q = some (.lst [])) (hD : H1 D = none) (k : Qd (upd H1 D (.lst []))) :
    ∃ W : Nat → Nat → Hp → Prop, (∃ m, W 0 m (upd H1 D (.lst []))) ∧ ∀ i m H, W i m H →
      ((Itl K q).stop i H ∧ Qd H) ∨ ((Itl K q).go i H ∧ ∃ Nx : Hp → Prop, (∀ H', Nx H' → ∃ m', m' < m ∧ W (i + 1) m' H') ∧ ∀ x H', (Itl K q).yld i H x H' → g x (wipe σ vs) H' fun σ2 H2 => wipe σ2 vs = wipe σ vs ∧ tt σ2 H2 fun b H3 =>
        if b = true then te σ2 H3 fun y H4 => ∃ acc, H4 D = some (.lst acc) ∧ acc.length < sizeLine ∧ Nx (upd H4 D (.lst (acc ++ [y]))) else Nx H3) := by
  have hDn : D ≠ q := fun z => by rw [z, hq] at hD; cases hD
  refine lc_list (K := K) (a := q) (xs := []) (fun _ H' => H' = upd H1 D (.lst [])) rfl (fun i H' _ e => by rw [e]; exact SqL.of ((upd_ne (Ne.symm hDn)).trans hq)) (fun i x H' hx => by simp at hx) (fun H' e => by rw [e]; exact k)
/-! ### _law_agrees -/
theorem pe_no {X : Cx} {e : Expr} : PE X e (fun _ _ _ => False) := ⟨fun _ _ _ _ _ _ h => h.elim⟩
/-- the font is as the face says, no kerns -/
structure Agree (st : FSt) (fa : AdvL) (sp : Int) : Prop where
  krn : st.krn = []
  keys : (fa.map (·.1)).mergeSort (PySem.W.dataLe false kRank) = (st.adv.map (·.1)).mergeSort (PySem.W.dataLe false kRank)
  get : ∀ g ∈ st.adv.map (·.1), ∃ n, lget st.adv g = some n ∧ lget fa g = some n
  blank : st.blank = sp
  len : ∀ e ∈ fa, e.1.length ≤ 1000
  asc : ∀ e ∈ st.adv, AsciiS e.1
  cnt : fa.length = st.adv.length
  lenF : ∀ e ∈ st.adv, e.1.length ≤ 1000
def FaceAt (H : Hp) (q dA dN : Addr) (fa : AdvL) (sp : Int) : Prop := H q = some (.lst [.ref dA, .ref dN, .int sp]) ∧ H dA = some (.dK (enc cA fa)) ∧ H dN = some (.dK [])
def spAgree (C : Addr) : Sp := fun vs H Q _ => ∃ (p q dA dN : Addr) (o : Own) (st : FSt) (past : List (List Rec)) (fa : AdvL) (sp : Int), vs = [.ref p, .ref q] ∧ FontAt C H p o st past ∧ FaceAt H q dA dN fa sp ∧ Agree st fa sp ∧ ∀ H', Same H H' → Q (.bl true) H'
section
variable {P : Program} {w : World} {K : PySem.W.Frag} {mg : Str → Option Value} {base : Heap} {C CI CU fE fW fBt fWr fHas fLen fEU fPl fRk fN pB fBl : Addr}
abbrev sAgr : Stmt := top 29
theorem scAgr : FnScope ["_law_font", "_law_face", "_law_glyphs", "_law_kerns", "_law_glyph", "_law_actual", "_law_pair"] ["_law_font", "_law_face"] (defScope sAgr) := ⟨rfl, rfl, rfl, by decide +kernel, rfl, by decide +kernel, by decide +kernel⟩
theorem ok_agr {f fG fK fA : Addr} {fd fdG fdK fdA fdL fdN fdB : FuncData} (F : Fun K "_law_agrees" "_law_agrees" sAgr f fd) (T : TxF K mg C CI fE fW fBt fWr) (U : TxH K mg C fHas fLen CU fEU fPl) (gR : mg "_law_rank" = some (.ref fRk)) (KR : KeyStr P w K mg base fRk kRank)
    (GG : FnOk P w K mg base CX0 2 fG fdG ["self"] (spGlyphs C)) (bG : Binds K fdG ["self"] []) (mG : Meth K C "glyphs" fG) (GK : FnOk P w K mg base CX0 2 fK fdK ["self"] (spKerns C)) (bK : Binds K fdK ["self"] []) (mK : Meth K C "kerns" fK)
    (GA : FnOk P w K mg base (L2N.CX P w) 4 fA fdA ["self", "glyph"] (spAdvOf K C CU)) (bA : Binds K fdA ["self", "glyph"] []) (mA : Meth K C "advance_of" fA) (GL : FnOk P w K mg base CX0 1 fLen fdL ["self"] (spLen C)) (bL : Binds K fdL ["self"] [])
    (aN : At K mg "_law_int" fN) (GN : FnOk P w K mg base CX0 1 fN fdN ["_law_actual"] (spWhole K)) (bN : Binds K fdN ["_law_actual"] []) (hp : PropOf K C "blank" pB fBl) (GB : FnOk P w K mg base CX0 1 fBl fdB ["self"] (spBlank C)) (bB : Binds K fdB ["self"] []) :
    FnOk P w K mg base (L2N.CX P w) 5 f fd ["_law_font", "_law_face"] (spAgree C) := by
  refine okN F scAgr (fun vs H Q E h => ?_) (fun cdv A outer s H vs Q E hr h => ?_)
  · obtain ⟨p, q, dA, dN, o, st, past, fa, sp, rfl, _⟩ := h
    rfl
  · obtain ⟨p, q, dA, dN, o, st, past, fa, sp, rfl, FA, ⟨hq, hA, hN⟩, AG, k⟩ := h
    have nd := scAgr.nd
    have hu := hu_of hr
    refine ⟨_, pss_cons (ps_set (i := 2) nd rfl (Or.inl rfl) (pe_callBK (cr_sortedK (f := fRk) (val := V.str) (ok := fun _ _ x => x.length ≤ 1000) (k := kRank) rfl (hr.mono (by decide))) (by rfl) U.mSorted (by decide +kernel) (pa_cons (pe_callTy (call_list_dK rfl) (by rfl) U.mList (by decide +kernel) (pa_cons (pe_ix ix_list (pv 1) pe_int (fun _ _ => rfl)) pa_nil)) pa_nil) (pk_cons (pe_glob (v := .ref fRk) (by rfl) gR rfl) pk_nil)))
      (pss_cons (ps_setLc (i := 3) (own := [("_law_pair", 6)]) (g := gName 6) (tt := tYes) (te := fun _ _ _ => False) rfl nd rfl rfl (sw_true rfl rfl rfl (by decide +kernel)) (pi_list (pe_callB cr_sortedS (by rfl) U.mSorted (by decide +kernel) (pa_cons (pe_callTy (call_list_dK rfl) (by rfl) U.mList (by decide +kernel) (pa_cons (pe_ix ix_list (pv 1) pe_int (fun _ _ => rfl)) pa_nil)) pa_nil)))
        (blkOk_by (N := ["_law_font", "_law_face", "_law_glyphs", "_law_kerns", "_law_glyph", "_law_actual", "_law_pair"]) (sc := defScope sAgr) (by decide +kernel)) (fun _ _ _ _ _ => pg_name (i := 6) nd rfl (Or.inl rfl)) (fun _ _ _ _ _ => pts_nil) (fun _ _ _ _ _ => pe_no))
      (pss_cons (ps_if (PW.pt (pw_or (pt_cmpR (op_neD hr.units) (pe_meth0 (pv 0) T.cl mG GG (hr.mono (by decide)) bG .nil pass0) (pv 2) (nomark _)) (pw_or (pt_cmpR (op_neD hr.units) (pe_meth0 (pv 0) T.cl mK GK (hr.mono (by decide)) bK .nil pass0) (pv 3) (nomark _))
        (pw_or1 (pt_cmpR op_ne (pe_callB (call_lenO U.hLen U.iLen GL bL (hr.mono (by decide))) (by rfl) T.len PySem.boot_len (pa_cons (pv 0) pa_nil)) (pe_callB call_len_seq (by rfl) T.len PySem.boot_len (pa_cons (pv 2) pa_nil)) (nomark _)))))) pss_no pss_nil)
      (pss_cons (ps_for (passes_of rfl) rfl (pi_list (pv 2)) (pg_name (i := 4) nd rfl (Or.inl rfl))
        (pss_cons (ps_set (i := 5) nd rfl (Or.inl rfl) (pe_meth (pv 0) T.cl mA GA (hr.mono (by decide)) bA .nil (L2N.passes_call (L2N.takes_of rfl rfl rfl rfl) (fun _ _ _ _ h => h)) (pa_cons (pv 4) pa_nil)))
        (pss_one (ps_if (PW.pt (pw_or (pt_not (pt_val (pe_call GN (hr.mono (by decide)) (by rfl) aN.g aN.k bN .nil pass0 (pa_cons (pv 5) pa_nil)))) (pw_or1 (pt_cmpR op_ne (pv 5) (pe_dget hu (pe_ix ix_list (pv 1) pe_int (fun _ _ => rfl)) (pv 4) (fun _ _ => rfl)) (nomark _))))) pss_no pss_nil))))
      (pss_one (ps_ret (pe_and (pe_call GN (hr.mono (by decide)) (by rfl) aN.g aN.k bN .nil pass0 (pa_cons (pe_prop (pv 0) T.cl hp GB (hr.mono (by decide)) bB .nil pass0 rfl) pa_nil)) (pe_one (pe_cmpR op_eq (pe_prop (pv 0) T.cl hp GB (hr.mono (by decide)) bB .nil pass0 rfl) (pe_ix ix_list (pv 1) pe_int (fun _ _ => rfl)) (nomark _))))))))), ?_⟩
    have rd0 : ∀ {H'} {Qv : VK}, Same H H' → Qv (.ref dA) H' → rIxL K (.ref q) (.int 0) H' Qv := fun s k => ⟨q, _, 0, _, rfl, rfl, SqL.of (s _ _ hq), rfl, k⟩
    have rd1 : ∀ {H'} {Qv : VK}, Same H H' → Qv (.ref dN) H' → rIxL K (.ref q) (.int 1) H' Qv := fun s k => ⟨q, _, 1, _, rfl, rfl, SqL.of (s _ _ hq), rfl, k⟩
    refine ⟨_, rfl, rd0 (Same.refl _) ⟨dA, _, rfl, hA, fun l1 hl1 => ?_⟩⟩
    have kmap : (enc cA fa).map (fun kv => kV kv.1) = (fa.map (·.1)).map V.str := by
      unfold enc
      rw [List.map_map, List.map_map]
      rfl
    rw [kmap]
    refine ⟨l1, fa.map (·.1), rfl, rfl, SqL.of upd_same, keyFn_str KR (fun x hx => ?_), fun L hL => ?_⟩
    · obtain ⟨e, he, rfl⟩ := List.mem_map.mp hx
      exact AG.len e he
    rw [AG.keys]
    obtain ⟨gs, egs⟩ : ∃ gs, gs = (st.adv.map (·.1)).mergeSort (PySem.W.dataLe false kRank) := ⟨_, rfl⟩
    rw [← egs]
    obtain ⟨H1, e1⟩ : ∃ H1, H1 = upd (upd H l1 (.lst ((fa.map (·.1)).map V.str))) L (.lst (gs.map V.str)) := ⟨_, rfl⟩
    rw [← e1]
    have s01 : Same H H1 := by
      rw [e1]
      exact (same_upd hl1).trans (same_upd hL)
    have L1 : H1 L = some (.lst (gs.map V.str)) := by rw [e1]; exact upd_same
    refine ⟨_, rfl, rd1 s01 ⟨dN, _, rfl, s01 _ _ hN, fun l2 hl2 => ⟨l2, [], rfl, SqL.of upd_same, by decide, fun ys pS perm so hpS => ?_⟩⟩⟩
    obtain rfl : ys = [] := List.Perm.eq_nil perm
    obtain ⟨H2, e2⟩ : ∃ H2, H2 = upd (upd H1 l2 (.lst [])) pS (.lst []) := ⟨_, rfl⟩
    have s12 : Same H1 H2 := by
      rw [e2]
      exact (same_upd hl2).trans (same_upd hpS)
    have P2 : H2 pS = some (.lst []) := by rw [e2]; exact upd_same
    show ∃ a, _
    refine ⟨pS, rfl, ⟨[], SqL.of upd_same⟩, fun D hD => ?_⟩
    refine lc_none (K := K) (g := gName 6) (tt := tYes) (te := fun _ _ _ => False) (vs := [6]) (σ := [some (.ref p), some (.ref q), some (.ref L), none, none, none, none]) upd_same hD ?_
    obtain ⟨H3, e3⟩ : ∃ H3, H3 = upd H2 D (.lst []) := ⟨_, rfl⟩
    change (upd (upd H1 l2 (.lst [])) pS (.lst [])) D = none at hD
    rw [← e2] at hD
    have s23 : Same H2 H3 := by
      rw [e3]
      exact same_upd hD
    have D3 : H3 D = some (.lst []) := by rw [e3]; exact upd_same
    change gName 3 (.ref D) _ (upd (upd (upd H1 l2 (.lst [])) pS (.lst [])) D (.lst [])) _
    rw [← e2, ← e3]
    have s03 : Same H H3 := (s01.trans s12).trans s23
    have L3 : H3 L = some (.lst (gs.map V.str)) := s23 _ _ (s12 _ _ L1)
    have asc : ∀ x ∈ gs, AsciiS x := fun x hx => by
      rw [egs] at hx
      obtain ⟨e, he, rfl⟩ := List.mem_map.mp (List.mem_mergeSort.mp hx)
      exact AG.asc e he
    have F3 := FA.sm s03
    refine ⟨_, rfl, p, _, _, rfl, F3.ob, fflds_no _ _ (by decide +kernel) (by decide +kernel) (by decide +kernel) (by decide +kernel), p, o, st, past, rfl, F3, AG.lenF, fun H4 l4 s34 hl4 h4 => ?_⟩
    rw [← egs] at h4
    have L4 := s34 _ _ L3
    refine ⟨_, rfl, .list (gs.map .str), .list (gs.map .str), strs_dp (SqL.of h4), strs_dp (SqL.of L4), strs_shaped asc, strs_shaped asc, _, rfl, ?_⟩
    rw [strs_eqv asc]
    refine iteF ?_
    have F4 := F3.sm s34
    refine ⟨_, rfl, p, _, _, rfl, F4.ob, fflds_no _ _ (by decide +kernel) (by decide +kernel) (by decide +kernel) (by decide +kernel), p, o, st, past, rfl, F4, fun H5 l5 ts s45 hl5 h5 hp => ?_⟩
    obtain rfl : ts = [] := by
      rw [AG.krn] at hp
      rw [show sortP (([] : KrnL).map (·.1)) = [] by simp [sortP]] at hp
      cases hp
      rfl
    have D5 := s45 _ _ (s34 _ _ D3)
    have L5 := s45 _ _ L4
    have F5 := F4.sm s45
    refine ⟨_, rfl, .list (([] : List Str).map .str), .list (([] : List Str).map .str), strs_dp (ls := []) (SqL.of h5), strs_dp (ls := []) (SqL.of D5), rfl, rfl, _, rfl, ?_⟩
    rw [strs_eqv (ls := []) (fun x hx => by cases hx)]
    refine iteF ?_
    have hlen : gs.length = st.adv.length := by rw [egs, List.length_mergeSort, List.length_map]
    refine ⟨_, rfl, p, _, _, rfl, F5.ob, p, o, st, past, rfl, F5, _, rfl, by omega, ?_, _, rfl, L, _, rfl, Or.inl (SqL.of L5), rfl, _, rfl, ?_⟩
    · have := F5.small
      omega
    have tl : decide (V.int (st.adv.length : Int) = V.int ((gs.map V.str).length : Int)) = true := by
      rw [List.length_map, hlen]
      exact decide_eq_true rfl
    rw [tl]
    refine iteF ?_
    have s05 : Same H H5 := (s03.trans s34).trans s45
    refine ⟨_, rfl, L, rfl, ⟨_, SqL.of L5⟩, ?_⟩
    refine for_list (K := K) (a := L) (xs := gs.map V.str) (fun i σ H' => (∃ u x : Option V, σ = [some (.ref p), some (.ref q), some (.ref L), some (.ref D), u, x, none]) ∧ Same H5 H') ⟨⟨none, none, rfl⟩, Same.refl _⟩ (fun i σ H' _ ⟨_, sm⟩ => SqL.of (sm _ _ L5)) ?_ ?_
    · rintro i x σ H' hx ⟨⟨u, x', rfl⟩, sm⟩
      rw [List.getElem?_map, Option.map_eq_some_iff] at hx
      obtain ⟨g, hg, rfl⟩ := hx
      have F6 := F5.sm sm
      have hgm : g ∈ st.adv.map (·.1) := by
        have := List.mem_of_getElem? hg
        rw [egs] at this
        exact List.mem_mergeSort.mp this
      obtain ⟨n, hn, hn'⟩ := AG.get g hgm
      have kn : knownV st (.str g) = true := by
        show (lget st.adv g).isSome = true
        rw [hn]
        rfl
      refine ⟨_, rfl, p, _, _, rfl, F6.ob, fflds_no _ _ (by decide +kernel) (by decide +kernel) (by decide +kernel) (by decide +kernel), _, rfl, p, .str g, true, o, st, past, rfl, F6, Ks.str, IsS.str, fun h => by (rw [kn] at h; cases h), fun g' n' eg hl => ?_⟩
      obtain rfl : g = g' := V.str.inj eg
      obtain rfl : n = n' := Option.some.inj (hn.symm.trans hl)
      refine ⟨_, rfl, _, true, false, rfl, Kd.int, _, rfl, ?_⟩
      refine iteF ?_
      refine ⟨_, rfl, _, rfl, q, _, 0, _, rfl, rfl, SqL.of ((s05.trans sm) _ _ hq), rfl, _, rfl, dA, .int n, rfl, ?_, rfl, _, rfl, ?_⟩
      · have := DGet.k (k := Sum.inr g) ((s05.trans sm) _ _ hA)
        rw [show valV (enc cA fa) (Sum.inr g : Key) = (lget fa g).map V.int from enc_get cA_inj fa g, hn'] at this
        exact this
      · rw [show decide (V.int n = V.int n) = true from decide_eq_true rfl]
        refine iteF ?_
        exact ⟨⟨_, _, rfl⟩, sm⟩
    · rintro σ H' ⟨⟨u, x', rfl⟩, sm⟩
      have F6 := F5.sm sm
      refine ⟨_, rfl, p, _, _, rfl, F6.ob, p, o, st, past, rfl, F6, _, true, false, rfl, Kd.int, true, rfl, iteT ⟨_, rfl, p, _, _, rfl, F6.ob, p, o, st, past, rfl, F6, _, rfl, q, _, 2, _, rfl, rfl, SqL.of ((s05.trans sm) _ _ hq), rfl, rfl, ?_⟩⟩
      rw [AG.blank, show decide (V.int sp = V.int sp) = true from decide_eq_true rfl]
      exact k _ (s05.trans sm)
end
/-! ### _law_at_once -/
def onceA : Nat → List (Str × V)
  | 0 => [("a", .int 9), ("gg", .int 5)]
  | 1 => [("A", .int 1), ("a", .int 9)]
  | 2 => [("ab", .str "x"), ("b", .int (-1)), ("a", .int 9)]
  | _ => [("a", .int 9), ("zz", .int 5)]
def onceO : Nat → List (Str × Int)
  | 1 => []
  | _ => [("a", 9)]
def onceG : Nat → Str
  | 0 => "gg"
  | 1 => "A"
  | 2 => "b"
  | _ => "zz"
def onceN : Nat → Int
  | 1 => 1
  | 2 => -1
  | _ => 5
def onceR : Nat → List Str
  | 1 => ["a"]
  | 2 => ["ab"]
  | _ => []
def onceC (CG CI CU CT : Addr) : Nat → Addr
  | 0 => CT
  | 1 => CG
  | 2 => CI
  | _ => CU
def onceF : Nat → List (Str × V)
  | 0 => [("limit", .int 40)]
  | 1 => [("glyph", .str "A")]
  | 2 => [("value", .int (-1))]
  | _ => [("glyph", .str "z")]
def onceL : Nat → List V
  | 0 => [.str "TooMany", .int 40]
  | 1 => [.str "InvalidGlyph", .str "A"]
  | 2 => [.str "InvalidNumber", .int (-1)]
  | _ => [.str "UnknownGlyph", .str "z"]
def spOnce (C CG CI CU CT : Addr) : Sp := fun vs H Q _ => ∃ (p : Addr) (way : Nat) (o : Own) (st : FSt), vs = [.ref p, .int way] ∧ way < 4 ∧ FontAt C H p o st [] ∧ RefA (onceA way) st (onceO way) (onceG way) (.int (onceN way)) (onceR way) ∧
  BadA (putsA st (onceO way)) CG CI CU CT (onceG way) (.int (onceN way)) (onceC CG CI CU CT way) (onceF way) ∧
  ∀ H' l, KeepF p o H H' → H l = none → H' l = some (.lst (onceL way)) → FontAt C H' p o (backs (putsA st (onceO way)) (recsA st (onceO way))) [] → Q (.ref l) H'
section
open PySem.Spec PyProof.Rows PySem.W StX
variable {P : Program} {w : World} {K : PySem.W.Frag} {mg : Str → Option Value} {base : Heap} {C CI CU CT CG fE fW fBt fWr : Addr}
abbrev sOnce : Stmt := top 31
theorem scOnce : FnScope ["_law_font", "_law_way", "e"] ["_law_font", "_law_way"] (defScope sOnce) := ⟨rfl, rfl, rfl, by decide +kernel, rfl, by decide +kernel, by decide +kernel⟩
theorem ok_once {f fS fU fG fT : Addr} {fd : FuncData} (F : Fun K "_law_at_once" "_law_at_once" sOnce f fd) (T : TxF K mg C CI fE fW fBt fWr) (mS : Meth K C "set_advances" fS)
    (G0 : FnKw P w K mg base (L2.CX P w) 8 fS ["this_font"] ["a", "gg"] (spSetAll K C CG CI CU CT)) (G1 : FnKw P w K mg base (L2.CX P w) 8 fS ["this_font"] ["A", "a"] (spSetAll K C CG CI CU CT))
    (G2 : FnKw P w K mg base (L2.CX P w) 8 fS ["this_font"] ["ab", "b", "a"] (spSetAll K C CG CI CU CT)) (G3 : FnKw P w K mg base (L2.CX P w) 8 fS ["this_font"] ["a", "zz"] (spSetAll K C CG CI CU CT))
    (eT : ErrC K mg "TooMany" CT fT) (eG : ErrC K mg "InvalidGlyph" CG fG) (eU : ErrC K mg "UnknownGlyph" CU fU)
    (xT : XfC K CT) (xG : XfC K CG) (xI : XfC K CI) (xU : XfC K CU)
    (nT : PySem.W.findIn K (.ref CT) "limit" = some none) (nG : PySem.W.findIn K (.ref CG) "glyph" = some none) (nI : PySem.W.findIn K (.ref CI) "value" = some none) (nU : PySem.W.findIn K (.ref CU) "glyph" = some none)
    (sTT : PySem.W.exmOne K (.ref CT) (.ref CT) = some true) (sGT : PySem.W.exmOne K (.ref CG) (.ref CT) = some false) (sGG : PySem.W.exmOne K (.ref CG) (.ref CG) = some true)
    (sIT : PySem.W.exmOne K (.ref CI) (.ref CT) = some false) (sIG : PySem.W.exmOne K (.ref CI) (.ref CG) = some false) (sII : PySem.W.exmOne K (.ref CI) (.ref CI) = some true)
    (sUT : PySem.W.exmOne K (.ref CU) (.ref CT) = some false) (sUG : PySem.W.exmOne K (.ref CU) (.ref CG) = some false) (sUI : PySem.W.exmOne K (.ref CU) (.ref CI) = some false) (sUU : PySem.W.exmOne K (.ref CU) (.ref CU) = some true) :
    FnOk P w K mg base CX0 9 f fd ["_law_font", "_law_way"] (spOnce C CG CI CU CT) := by
  refine F.ok scOnce (fun vs H Q E h => by obtain ⟨p, way, o, st, rfl, _⟩ := h; rfl) (fun cdv A outer s H vs Q E hr h => ?_)
  obtain ⟨p, way, o, st, rfl, hw, FA, R, B, k⟩ := h
  have nd := scOnce.nd
  refine ⟨_, pss_cons (ps_try_manyA rfl rfl nd (fun W pn xe tk _ =>
      pss_cons (ps_if (pt_cmpR op_eq (pv 1) pe_int (nomark _)) (pss_one (ps_expr (pe_methKW (pv 0) T.cl mS G0 hr (fun σ => L2.passAt tk σ) (pk_cons pe_int (pk_cons pe_int pk_nil))))) pss_nil)
      (pss_cons (ps_if (pt_cmpR op_eq (pv 1) pe_int (nomark _)) (pss_one (ps_expr (pe_methKW (pv 0) T.cl mS G1 hr (fun σ => L2.passAt tk σ) (pk_cons pe_int (pk_cons pe_int pk_nil))))) pss_nil)
      (pss_cons (ps_if (pt_cmpR op_eq (pv 1) pe_int (nomark _)) (pss_one (ps_expr (pe_methKW (pv 0) T.cl mS G2 hr (fun σ => L2.passAt tk σ) (pk_cons pe_str (pk_cons (pe_op op_sub pe_int pe_int) (pk_cons pe_int pk_nil)))))) pss_nil)
      (pss_one (ps_if (pt_cmpR op_eq (pv 1) pe_int (nomark _)) (pss_one (ps_expr (pe_methKW (pv 0) T.cl mS G3 hr (fun σ => L2.passAt tk σ) (pk_cons pe_int (pk_cons pe_int pk_nil))))) pss_nil)))))
      (.cons (i := 2) ⟨rfl, by decide, Or.inl eT.g⟩ rfl rfl (fun a oe cls d pn hz hf => pss_one (by exact (ps_ret (pe_lst (pa_cons pe_str (pa_cons (pe_xf xT nT hz hf (pv 2)) pa_nil))))))
      (.cons (i := 2) ⟨rfl, by decide, Or.inl eG.g⟩ rfl rfl (fun a oe cls d pn hz hf => pss_one (by exact (ps_ret (pe_lst (pa_cons pe_str (pa_cons (pe_xf xG nG hz hf (pv 2)) pa_nil))))))
      (.cons (i := 2) ⟨rfl, by decide, Or.inl T.err.g⟩ rfl rfl (fun a oe cls d pn hz hf => pss_one (by exact (ps_ret (pe_lst (pa_cons pe_str (pa_cons (pe_xf xI nI hz hf (pv 2)) pa_nil))))))
      (.cons (i := 2) ⟨rfl, by decide, Or.inl eU.g⟩ rfl rfl (fun a oe cls d pn hz hf => pss_one (by exact (ps_ret (pe_lst (pa_cons pe_str (pa_cons (pe_xf xU nU hz hf (pv 2)) pa_nil)))))) .nil)))))
    (pss_one (ps_ret (pe_lst pa_nil))), ?_⟩
  rcases (show way = 0 ∨ way = 1 ∨ way = 2 ∨ way = 3 by omega) with rfl | rfl | rfl | rfl
  · refine ⟨_, rfl, rfl, _, rfl, ?_⟩
    rw [dec_int]
    refine iteT ?_
    refine ⟨_, rfl, p, _, _, rfl, FA.ob, fflds_no _ _ (by decide +kernel) (by decide +kernel) (by decide +kernel) (by decide +kernel), rfl, fun a ha => ?_⟩
    refine ⟨p, a, onceA 0, o, st, [], onceO 0, onceG 0, .int (onceN 0), true, false, onceR 0, _, _, rfl, FA.sm (same_upd ha), rfl, Ne.symm (fresh_of ha FA.da), upd_same, R, fun _ => Kd.int, fun _ => ⟨_, rfl⟩, fun z => Bool.noConfusion z, B, fun H' d kf hd e F' => ?_⟩
    refine ⟨true, sTT, fun _ ea hea => ?_, fun q => Bool.noConfusion q⟩
    refine ⟨_, rfl, rfl, rfl, d, _, _, rfl, e, by rfl, by show 2 ≤ sizeLine; decide, fun l hl => ?_⟩
    exact k _ l ((KeepF.same (same_upd ha)).trans (kf.trans (KeepF.same (same_upd hl)))) (keep_none ((KeepF.same (same_upd ha)).trans kf) F' hl) upd_same (F'.sm (same_upd hl))
  · refine ⟨_, rfl, rfl, _, rfl, ?_⟩
    rw [dec_int]
    refine iteF ?_
    refine ⟨_, rfl, rfl, _, rfl, ?_⟩
    rw [dec_int]
    refine iteT ?_
    refine ⟨_, rfl, p, _, _, rfl, FA.ob, fflds_no _ _ (by decide +kernel) (by decide +kernel) (by decide +kernel) (by decide +kernel), rfl, fun a ha => ?_⟩
    refine ⟨p, a, onceA 1, o, st, [], onceO 1, onceG 1, .int (onceN 1), true, false, onceR 1, _, _, rfl, FA.sm (same_upd ha), rfl, Ne.symm (fresh_of ha FA.da), upd_same, R, fun _ => Kd.int, fun _ => ⟨_, rfl⟩, fun z => Bool.noConfusion z, B, fun H' d kf hd e F' => ?_⟩
    refine ⟨false, sGT, fun q => Bool.noConfusion q, fun _ => ?_⟩
    refine ⟨true, sGG, fun _ ea hea => ?_, fun q => Bool.noConfusion q⟩
    refine ⟨_, rfl, rfl, rfl, d, _, _, rfl, e, by rfl, by show 2 ≤ sizeLine; decide, fun l hl => ?_⟩
    exact k _ l ((KeepF.same (same_upd ha)).trans (kf.trans (KeepF.same (same_upd hl)))) (keep_none ((KeepF.same (same_upd ha)).trans kf) F' hl) upd_same (F'.sm (same_upd hl))
  · refine ⟨_, rfl, rfl, _, rfl, ?_⟩
    rw [dec_int]
    refine iteF ?_
    refine ⟨_, rfl, rfl, _, rfl, ?_⟩
    rw [dec_int]
    refine iteF ?_
    refine ⟨_, rfl, rfl, _, rfl, ?_⟩
    rw [dec_int]
    refine iteT ?_
    refine ⟨_, rfl, p, _, _, rfl, FA.ob, fflds_no _ _ (by decide +kernel) (by decide +kernel) (by decide +kernel) (by decide +kernel), _, _, rfl, rfl, rfl, fun a ha => ?_⟩
    refine ⟨p, a, onceA 2, o, st, [], onceO 2, onceG 2, .int (onceN 2), true, false, onceR 2, _, _, rfl, FA.sm (same_upd ha), rfl, Ne.symm (fresh_of ha FA.da), upd_same, R, fun _ => Kd.int, fun _ => ⟨_, rfl⟩, fun z => Bool.noConfusion z, B, fun H' d kf hd e F' => ?_⟩
    refine ⟨false, sIT, fun q => Bool.noConfusion q, fun _ => ?_⟩
    refine ⟨false, sIG, fun q => Bool.noConfusion q, fun _ => ?_⟩
    refine ⟨true, sII, fun _ ea hea => ?_, fun q => Bool.noConfusion q⟩
    refine ⟨_, rfl, rfl, rfl, d, _, _, rfl, e, by rfl, by show 2 ≤ sizeLine; decide, fun l hl => ?_⟩
    exact k _ l ((KeepF.same (same_upd ha)).trans (kf.trans (KeepF.same (same_upd hl)))) (keep_none ((KeepF.same (same_upd ha)).trans kf) F' hl) upd_same (F'.sm (same_upd hl))
  · refine ⟨_, rfl, rfl, _, rfl, ?_⟩
    rw [dec_int]
    refine iteF ?_
    refine ⟨_, rfl, rfl, _, rfl, ?_⟩
    rw [dec_int]
    refine iteF ?_
    refine ⟨_, rfl, rfl, _, rfl, ?_⟩
    rw [dec_int]
    refine iteF ?_
    refine ⟨_, rfl, rfl, _, rfl, ?_⟩
    rw [dec_int]
    refine iteT ?_
    refine ⟨_, rfl, p, _, _, rfl, FA.ob, fflds_no _ _ (by decide +kernel) (by decide +kernel) (by decide +kernel) (by decide +kernel), rfl, fun a ha => ?_⟩
    refine ⟨p, a, onceA 3, o, st, [], onceO 3, onceG 3, .int (onceN 3), true, false, onceR 3, _, _, rfl, FA.sm (same_upd ha), rfl, Ne.symm (fresh_of ha FA.da), upd_same, R, fun _ => Kd.int, fun _ => ⟨_, rfl⟩, fun z => Bool.noConfusion z, B, fun H' d kf hd e F' => ?_⟩
    refine ⟨false, sUT, fun q => Bool.noConfusion q, fun _ => ?_⟩
    refine ⟨false, sUG, fun q => Bool.noConfusion q, fun _ => ?_⟩
    refine ⟨false, sUI, fun q => Bool.noConfusion q, fun _ => ?_⟩
    refine ⟨true, sUU, fun _ ea hea => ?_, fun q => Bool.noConfusion q⟩
    refine ⟨_, rfl, rfl, rfl, d, _, _, rfl, e, by rfl, by show 2 ≤ sizeLine; decide, fun l hl => ?_⟩
    exact k _ l ((KeepF.same (same_upd ha)).trans (kf.trans (KeepF.same (same_upd hl)))) (keep_none ((KeepF.same (same_upd ha)).trans kf) F' hl) upd_same (F'.sm (same_upd hl))
end
/-! ### font[g] = n -/
section
open PyProof.Rows
variable {X : Cx} {CX : CXT} {k : Nat} {f C : Addr} {fd : FuncData} {ps : List Str} {sp : Sp} {E : L2.St → XK} {pos : Pos} {o i : Expr} {to ti : TE}
/-- o[i] = v of a class with its own __setitem__, its errors wished for at the caller's slots -/
def gSubO (C : Addr) (sp : Sp) (E : L2.St → XK) (to ti : TE) : TG := fun v σ H Q => to σ H fun x H1 => ti σ H1 fun y H2 => ∃ a dx fs, x = .ref a ∧ H2 a = some (.ins C dx fs) ∧ sp [x, y, v] H2 (fun _ H3 => Q σ H3) (E σ)
theorem pg_subO (ho : PE X o to) (hi : PE X i ti) (hs : PySem.W.findIn X.K (.ref C) "__setitem__" = some (some (.ref f))) (hf : PySem.W.isFn X.K (.ref f) = true) (hq : PySem.W.noSeq X.K C = true) (F : FnOk X.prog X.w X.K X.mg X.base CX k f fd ps sp) (hr : Room k X.A) (hb : Binds X.K fd ps [])
    (hx : ∀ σ, PassesAt CX X σ (E σ))
    (ha : ∀ v, assign (.Subscript o i pos) X.env v = (do
      let ov ← holding [v] (eval o X.env)
      let iv ← holding [v, ov] (eval i X.env)
      standAt pos
      holding [v, ov, iv] (setItem ov iv v)
      release [v, ov, iv] []) := by intro _; rfl) : PG X (.Subscript o i pos) (gSubO C sp E to ti) := by
  refine ⟨fun pins s σ H v u Q I r h => ?_⟩
  rw [ha]
  refine wpAny_bind (wpAny_holding (thn (ho.run pins s σ H _ I h) fun ov s1 ⟨x, H1, I1, r1, q1⟩ => ?_))
  refine wpAny_bind (wpAny_holding (thn (hi.run pins s1 σ H1 _ I1 q1) fun iv s2 ⟨y, H2, I2, r2, q2⟩ => ?_))
  obtain ⟨a, dx, fs, rfl, ea, q⟩ := q2
  cases r1
  refine wpAny_bind (wpAny_standAt (wpAny_bind (wpAny_holding ?_)))
  obtain ⟨mA, OA, _⟩ := ins_get I2.hok ea
  obtain ⟨od, J, _⟩ := OA.look
  obtain ⟨m, hF⟩ := I2.fr
  refine PySem.W.ksp_setItem hF I2.ok.mod.kin J hq hs hf (thn (run_fnS F hr hb (hx σ) I2 (.cons (show RelV (V.ref a) (Value.ref a) from rfl) (.cons r2 (.cons r .nil))) q) fun _ s3 ⟨_, H3, I3, _, q3⟩ => ?_)
  exact wpAny_release ⟨σ, H3, I3, q3⟩
end
/-! ### _law_too_many -/
def spMany (C : Addr) : Sp := fun vs H Q _ => ∃ (p a : Addr) (way : Nat) (g : Str) (o : Own) (st : FSt) (past : List (List Rec)) (fa : AdvL) (m : Nat) (gb : Str), vs = [.ref p, .int way, .str g, .ref a] ∧ way < 4 ∧ FontAt C H p o st past ∧ (∀ rs ∈ past, rs ≠ []) ∧
  nameB g = true ∧ g.length ≤ 1000 ∧ (∀ e ∈ st.adv, e.1.length ≤ 1000) ∧ (g.length ≤ 1 ∨ missing st g = none) ∧ roomless st g = true ∧ st.adv.length + 1 ≤ 1000 ∧ st.krn.length + 1 ≤ 1000 ∧
  H a = some (.dK (enc cA fa)) ∧ BadFace fa 250 m gb ∧ ∀ H', KeepF p o H H' → FontAt C H' p o st past → Q (.bl true) H'
section
open PySem.Spec PyProof.Rows PySem.W StX
variable {P : Program} {w : World} {K : PySem.W.Frag} {mg : Str → Option Value} {base : Heap} {C CI CU CT CG CD fE fW fBt fWr : Addr}
abbrev sMany : Stmt := top 30
theorem scMany : FnScope ["_law_font", "_law_way", "_law_row", "_law_advances", "e"] ["_law_font", "_law_way", "_law_row", "_law_advances"] (defScope sMany) := ⟨rfl, rfl, rfl, by decide +kernel, rfl, by decide +kernel, by decide +kernel⟩
theorem ok_many {f fA fI fP fN fT fD : Addr} {fd fdA fdI fdP fdN : FuncData} {t0 : Tok} (F : Fun K "_law_too_many" "_law_too_many" sMany f fd) (T : TxF K mg C CI fE fW fBt fWr)
    (GA : FnOk P w K mg base (L2N.CX P w) 7 fA fdA ["self", "glyph", "advance"] (spSetA C CT)) (bA : Binds K fdA ["self", "glyph", "advance"] []) (mA : Meth K C "set_advance" fA)
    (GI : FnOk P w K mg base (L2N.CX P w) 8 fI fdI ["self", "at", "worth"] (spSetA C CT)) (bI : Binds K fdI ["self", "at", "worth"] []) (sI : PySem.W.findIn K (.ref C) "__setitem__" = some (some (.ref fI))) (iI : PySem.W.isFn K (.ref fI) = true) (nq : PySem.W.noSeq K C = true)
    (GP : FnOk P w K mg base (L2.CX P w) 8 fP fdP ["self", "deeds"] (spApply K C CD)) (bP : Binds K fdP ["self", "deeds"] []) (mP : Meth K C "apply" fP)
    (M : Mk K C fN) (GN : FnOk P w K mg base (L2N.CX P w) 7 fN fdN ["self", "advances", "kerns", "blank"] (spFontX C CT)) (gC : mg "Font" = some (.ref C)) (bN : Binds K fdN ["self", "advances", "kerns", "blank"] [.none, .int 250 t0])
    (eT : ErrC K mg "TooMany" CT fT) (eD : ErrC K mg "DeedRefused" CD fD) (xT : XfC K CT) (xD : XfC K CD)
    (nT : PySem.W.findIn K (.ref CT) "limit" = some none) (nD : PySem.W.findIn K (.ref CD) "index" = some none)
    (sTT : PySem.W.exmOne K (.ref CT) (.ref CT) = some true) (sDT : PySem.W.exmOne K (.ref CD) (.ref CT) = some false) (sDD : PySem.W.exmOne K (.ref CD) (.ref CD) = some true) :
    FnOk P w K mg base CX0 9 f fd ["_law_font", "_law_way", "_law_row", "_law_advances"] (spMany C) := by
  refine F.ok scMany (fun vs H Q E h => by obtain ⟨p, a, way, g, o, st, past, fa, m, gb, rfl, _⟩ := h; rfl) (fun cdv A outer s H vs Q E hr h => ?_)
  obtain ⟨p, a, way, g, o, st, past, fa, m, gb, rfl, hw, FA, ne, hn, hl, hls, hm, hro, z1, z2, ha, BF, k⟩ := h
  have nd := scMany.nd
  refine ⟨_, pss_cons (ps_try_manyA rfl rfl nd (fun W pn xe tk _ =>
      pss_cons (ps_if (pt_cmpR op_eq (pv 1) pe_int (nomark _)) (pss_one (ps_expr (pe_methA (pv 0) T.cl mA GA (hr.mono (by decide)) bA (fun σ _ _ _ _ _ I c => L2.passAt tk σ _ _ _ _ _ I (cx_n c)) (pa_cons (pv 2) (pa_cons pe_int pa_nil))))) pss_nil)
      (pss_cons (ps_if (pt_cmpR op_eq (pv 1) pe_int (nomark _)) (pss_one (ps_asg pe_int (pg_subO (pv 0) (pv 2) sI iI nq GI hr bI (fun σ _ _ _ _ _ I c => L2.passAt tk σ _ _ _ _ _ I (cx_n c))))) pss_nil)
      (pss_cons (ps_if (pt_cmpR op_eq (pv 1) pe_int (nomark _)) (pss_one (ps_expr (pe_methA (pv 0) T.cl mP GP hr bP (fun σ => L2.passAt tk σ) (pa_cons (pe_lst (pa_cons (pe_tup (pa_cons pe_str (pa_cons pe_int pa_nil))) (pa_cons (pe_tup (pa_cons pe_str (pa_cons (pv 2) (pa_cons pe_int pa_nil)))) pa_nil))) pa_nil)))) pss_nil)
      (pss_one (ps_if (pt_cmpR op_eq (pv 1) pe_int (nomark _)) (pss_one (ps_expr (pe_makeS M GN hr (by rfl) gC (dvs := [.non, .int 250]) bN (.cons rfl (.cons ⟨t0, rfl⟩ .nil)) (fun σ _ _ _ _ _ I c => L2.passAt tk σ _ _ _ _ _ I (cx_n c)) (pa_cons (pv 3) pa_nil)))) pss_nil)))))
      (.cons (i := 4) ⟨rfl, by decide, Or.inl eT.g⟩ rfl rfl (fun a oe cls d pn hz hf => pss_one (by exact (ps_ret (pe_and (pe_cmpR op_ne (pv 1) pe_int (nomark _)) (pe_one (pe_cmpR op_eq (pe_xf xT nT hz hf (pv 4)) pe_int (nomark _)))))))
      (.cons (i := 4) ⟨rfl, by decide, Or.inl eD.g⟩ rfl rfl (fun a oe cls d pn hz hf => pss_one (by exact (ps_ret (pe_and (pe_cmpR op_eq (pv 1) pe_int (nomark _)) (pe_one (pe_cmpR op_eq (pe_xf xD nD hz hf (pv 4)) pe_int (nomark _))))))) .nil)))
    (pss_one (ps_ret pe_bl)), ?_⟩
  rcases (show way = 0 ∨ way = 1 ∨ way = 2 ∨ way = 3 by omega) with rfl | rfl | rfl | rfl
  · refine ⟨_, rfl, rfl, _, rfl, ?_⟩
    rw [dec_int]
    refine iteT ?_
    refine ⟨_, rfl, p, _, _, rfl, FA.ob, fflds_no _ _ (by decide +kernel) (by decide +kernel) (by decide +kernel) (by decide +kernel), _, rfl, p, g, 5, o, st, past, rfl, FA, hn, hl, by decide, by decide, hls, hm, fun _ H' d s hd => ?_, fun z => (by rw [hro] at z; cases z)⟩
    refine ⟨true, sTT, fun _ ea hea => ?_, fun q => Bool.noConfusion q⟩
    refine ⟨_, rfl, rfl, _, rfl, ?_⟩
    rw [dec_int]
    refine iteT ⟨_, rfl, rfl, rfl, d, _, _, rfl, upd_same, by rfl, rfl, ?_⟩
    rw [decide_eq_true rfl]
    exact k _ (KeepF.same (s.trans (same_upd hd))) (FA.sm (s.trans (same_upd hd)))
  · refine ⟨_, rfl, rfl, _, rfl, ?_⟩
    rw [dec_int]
    refine iteF ?_
    refine ⟨_, rfl, rfl, _, rfl, ?_⟩
    rw [dec_int]
    refine iteT ?_
    refine ⟨_, rfl, _, rfl, p, _, _, rfl, FA.ob, p, g, 5, o, st, past, rfl, FA, hn, hl, by decide, by decide, hls, hm, fun _ H' d s hd => ?_, fun z => (by rw [hro] at z; cases z)⟩
    refine ⟨true, sTT, fun _ ea hea => ?_, fun q => Bool.noConfusion q⟩
    refine ⟨_, rfl, rfl, _, rfl, ?_⟩
    rw [dec_int]
    refine iteT ⟨_, rfl, rfl, rfl, d, _, _, rfl, upd_same, by rfl, rfl, ?_⟩
    rw [decide_eq_true rfl]
    exact k _ (KeepF.same (s.trans (same_upd hd))) (FA.sm (s.trans (same_upd hd)))
  · refine ⟨_, rfl, rfl, _, rfl, ?_⟩
    rw [dec_int]
    refine iteF ?_
    refine ⟨_, rfl, rfl, _, rfl, ?_⟩
    rw [dec_int]
    refine iteF ?_
    refine ⟨_, rfl, rfl, _, rfl, ?_⟩
    rw [dec_int]
    refine iteT ?_
    refine ⟨_, rfl, p, _, _, rfl, FA.ob, fflds_no _ _ (by decide +kernel) (by decide +kernel) (by decide +kernel) (by decide +kernel), ?_⟩
    refine ⟨by show 2 ≤ sizeLine; decide, fun t1 h1 => ⟨_, rfl, by show 3 ≤ sizeLine; decide, fun t2 h2 => ⟨by show 2 ≤ sizeLine; decide, fun L hL => ?_⟩⟩⟩
    have s12 := (same_upd (o := .tup [.str "blank", .int 1]) h1).trans (same_upd (o := .tup [.str "advance", .str g, .int 5]) h2)
    have s3 := s12.trans (same_upd (o := .lst [.ref t1, .ref t2]) hL)
    refine ⟨p, L, t1, t2, o, st, past, 1, 5, g, rfl, FA.sm s3, ne, upd_same, fun z => ?_, (same_upd hL) _ _ ((same_upd h2) _ _ upd_same), (same_upd hL) _ _ upd_same, by decide, by decide, hn, hl, by decide, by decide, hls, hm, hro, z1, z2, fun H' d kf hd e F' => ?_⟩
    · obtain ⟨ls, hp, _⟩ := FA.dp
      have := s12 _ _ hp
      rw [z] at hL
      exact absurd (hL.symm.trans this) (by simp)
    · refine ⟨false, sDT, fun q => Bool.noConfusion q, fun _ => ?_⟩
      refine ⟨true, sDD, fun _ ea hea => ?_, fun q => Bool.noConfusion q⟩
      refine ⟨_, rfl, rfl, _, rfl, ?_⟩
      rw [dec_int]
      refine iteT ⟨_, rfl, rfl, rfl, d, _, _, rfl, e, by rfl, rfl, ?_⟩
      rw [decide_eq_true rfl]
      exact k _ ((KeepF.same s3).trans kf) F'
  · refine ⟨_, rfl, rfl, _, rfl, ?_⟩
    rw [dec_int]
    refine iteF ?_
    refine ⟨_, rfl, rfl, _, rfl, ?_⟩
    rw [dec_int]
    refine iteF ?_
    refine ⟨_, rfl, rfl, _, rfl, ?_⟩
    rw [dec_int]
    refine iteF ?_
    refine ⟨_, rfl, rfl, _, rfl, ?_⟩
    rw [dec_int]
    refine iteT ?_
    refine ⟨_, rfl, fun x dx hx hdx hne => ?_⟩
    have s1 : Same H (upd (upd H dx (.own x)) x (.ins C dx [])) := (same_upd hdx).trans (same_upd (by rw [upd_ne (Ne.symm hne)]; exact hx))
    refine ⟨x, dx, a, fa, 250, m, gb, rfl, upd_same, s1 _ _ ha, BF, fun H' d fr hd e => ?_⟩
    have s : Same H H' := fun c u q => fr _ _ (s1 _ _ q) (fun z => by rw [z, hx] at q; cases q)
    refine ⟨true, sTT, fun _ ea hea => ?_, fun q => Bool.noConfusion q⟩
    refine ⟨_, rfl, rfl, _, rfl, ?_⟩
    rw [dec_int]
    refine iteT ⟨_, rfl, rfl, rfl, d, _, _, rfl, e, by rfl, rfl, ?_⟩
    rw [decide_eq_true rfl]
    exact k _ (KeepF.same s) (FA.sm s)
end
/-! ### list of a text -/
section
open PySem.Spec PyProof.Rows
def chsV (z : Str) : List V := z.cps.toList.map fun c => V.str ⟨#[c]⟩
variable {X : Cx}
theorem call_listS (hc : X.calm = true) : CallR X (.type "list") (fun vs H Q => ∃ z : Str, vs = [.str z] ∧ z.cps.size ≤ sizeLine ∧ ∀ l, H l = none → Q (.ref l) (upd H l (.lst (chsV z)))) := by
  intro pins s σ H xs us Q I r h
  obtain ⟨z, rfl, hz, q⟩ := h
  obtain ⟨u, rfl, rx⟩ := vals1 r
  obtain ⟨t, rfl⟩ := rx
  refine PySem.call_list_str (I.ok.hd hc) z t (fun h' tk acc c' hk e hi => ?_) hz
  refine ⟨.ref s.heap.objs.size, upd H s.heap.objs.size (.lst (chsV z)), I.laid hk (Nat.le_refl _) ⟨by rw [chsV, List.length_map, Array.length_toList]; exact hz, acc.toList, c', ?_, by rw [Array.toArray_toList]; exact e⟩, rfl, q _ (I.hok.fresh (Nat.le_refl _))⟩
  refine vals_of_idx _ _ (by rw [chsV, List.length_map, Array.length_toList, Array.length_toList]; exact hi.1) fun j u hj => ?_
  obtain ⟨c, t', hc, rfl⟩ := hi.2 j u (by rw [← Array.getElem?_toList]; exact hj)
  exact ⟨.str ⟨#[c]⟩, by simp [chsV, hc], ⟨_, rfl⟩⟩
end
/-! ### _law_full -/
/-- a loop over a text -/
theorem for_str {z : Str} {g : TG} {tb : TS} {D : Ends} {σ : L2.St} {H : Hp} (Pv : Nat → L2.St → Hp → Prop) (h0 : Pv 0 σ H)
    (hs : ∀ i c σ H, z.cps[i]? = some c → Pv i σ H → g (.str ⟨#[c]⟩) σ H fun σ2 H2 => tb { D with nx := Pv (i + 1), ct := Pv (i + 1), bk := D.nx } σ2 H2) (hd : ∀ σ H, Pv z.cps.size σ H → D.nx σ H) :
    ∃ W : Nat → Nat → L2.St → Hp → Prop, (∃ m, W 0 m σ H) ∧ ∀ i m σ H, W i m σ H →
      ((Its z).stop i H ∧ D.nx σ H) ∨ ((Its z).go i H ∧ ∃ N : L2.St → Hp → Prop, (∀ σ' H', N σ' H' → ∃ m', m' < m ∧ W (i + 1) m' σ' H') ∧ ∀ x H', (Its z).yld i H x H' → g x σ H' fun σ2 H2 => tb { D with nx := N, ct := N, bk := D.nx } σ2 H2) := by
  refine ⟨fun i m σ H => m = z.cps.size - i ∧ i ≤ z.cps.size ∧ Pv i σ H, ⟨z.cps.size, by simp, Nat.zero_le _, h0⟩, ?_⟩
  rintro i m σ H ⟨rfl, hi, p⟩
  by_cases hlt : i < z.cps.size
  · refine .inr ⟨hlt, Pv (i + 1), fun σ' H' p' => ⟨z.cps.size - (i + 1), by omega, rfl, hlt, p'⟩, fun x H' y => ?_⟩
    obtain ⟨rfl, c, hc, rfl⟩ := y
    exact hs i c σ _ hc p
  · have e : i = z.cps.size := by omega
    subst e
    exact .inl ⟨Nat.le_refl _, hd σ H p⟩
def rowsF : List Str := (List.range 42).map fun k => ⟨#[97 + k / 7, 97 + k % 7]⟩
def namesF : List Str := (List.range 7).map (fun k => ⟨#[97 + k]⟩) ++ rowsF.take 40
def faceF (n : Int) : AdvL := namesF.map fun g => (g, n)
theorem six_at {i c : Nat} (h : ("abcdef" : Str).cps[i]? = some c) : i < 6 ∧ c = 97 + i := by
  have hi : i < 6 := (Array.getElem?_eq_some_iff.mp h).1
  have : ∀ i : Nat, i < 6 → ("abcdef" : Str).cps[i]? = some (97 + i) := by decide +kernel
  rw [this i hi] at h
  exact ⟨hi, (Option.some.inj h).symm⟩
theorem seven_at {i c : Nat} (h : ("abcdefg" : Str).cps[i]? = some c) : i < 7 ∧ c = 97 + i := by
  have hi : i < 7 := (Array.getElem?_eq_some_iff.mp h).1
  have : ∀ i : Nat, i < 7 → ("abcdefg" : Str).cps[i]? = some (97 + i) := by decide +kernel
  rw [this i hi] at h
  exact ⟨hi, (Option.some.inj h).symm⟩
theorem rowsF_next {i j : Nat} (hi : i < 6) (hj : j < 7) : rowsF.take (7 * i + (j + 1)) = rowsF.take (7 * i + j) ++ [⟨#[97 + i, 97 + j]⟩] := by
  have e : rowsF[7 * i + j]? = some ⟨#[97 + i, 97 + j]⟩ := by
    unfold rowsF
    rw [List.getElem?_map, List.getElem?_range (by omega)]
    have h1 : (7 * i + j) / 7 = i := by omega
    have h2 : (7 * i + j) % 7 = j := by omega
    simp only [Option.map_some, h1, h2]
  rw [show 7 * i + (j + 1) = (7 * i + j) + 1 from rfl, List.take_add_one, e]
  rfl
theorem namesF_nodup : namesF.Nodup := by decide +kernel
theorem lput_new {l : AdvL} {g : Str} {n : Int} (h : g ∉ l.map (·.1)) : lput l g n = l ++ [(g, n)] := by
  unfold lput
  rw [if_neg]
  intro z
  obtain ⟨e, he, q⟩ := List.any_eq_true.mp z
  exact h (List.mem_map.mpr ⟨e, he, of_decide_eq_true q⟩)
theorem face_next {i : Nat} {g : Str} {n : Int} (hg : namesF[i]? = some g) : lput ((namesF.take i).map fun g => (g, n)) g n = (namesF.take (i + 1)).map fun g => (g, n) := by
  have e : namesF.take (i + 1) = namesF.take i ++ [g] := by
    rw [List.take_add_one, hg]
    rfl
  have nd := namesF_nodup.sublist (List.take_sublist (i + 1) namesF)
  rw [e, List.nodup_append] at nd
  rw [lput_new, e, List.map_append]
  · rfl
  · rw [List.map_map]
    intro z
    obtain ⟨y, hy, rfl⟩ := List.mem_map.mp z
    exact nd.2.2 _ hy _ (List.mem_singleton.mpr rfl) rfl
def onceD : Nat → PyData
  | 0 => .list [.str "TooMany", .int 40]
  | 1 => .list [.str "InvalidGlyph", .str "A"]
  | 2 => .list [.str "InvalidNumber", .int (-1)]
  | _ => .list [.str "UnknownGlyph", .str "z"]
theorem onceD_shaped : ∀ i, i < 4 → SeqAt.shaped (onceD i) = true := by decide +kernel
theorem onceD_eqv : ∀ i, i < 4 → PyData.eqv (onceD i) (onceD i) = true := by decide +kernel
theorem onceD_dp {K : PySem.W.Frag} {H : Hp} {a : Addr} {i : Nat} (h : SqL K H a (onceL i)) : Dp K H (.ref a) (onceD i) := by
  match i, h with
  | 0, h => exact .lst h (.cons (.str _) (.cons (.int _) .nil))
  | 1, h => exact .lst h (.cons (.str _) (.cons (.str _) .nil))
  | 2, h => exact .lst h (.cons (.str _) (.cons (.int _) .nil))
  | _ + 3, h => exact .lst h (.cons (.str _) (.cons (.str _) .nil))
/-- the face of _law_full is a font, and the calls of _law_at_once are refused there -/
structure FullD (n : Int) : Prop where
  face : Face (faceF n) [] n
  agr : Agree (endSt (faceF n) [] n) (faceF n) n
  ref : ∀ way < 4, RefA (onceA way) (endSt (faceF n) [] n) (onceO way) (onceG way) (.int (onceN way)) (onceR way)
  bad : ∀ (CG CI CU CT : Addr), ∀ way < 4, BadA (putsA (endSt (faceF n) [] n) (onceO way)) CG CI CU CT (onceG way) (.int (onceN way)) (onceC CG CI CU CT way) (onceF way)
  back : ∀ way < 4, backs (putsA (endSt (faceF n) [] n) (onceO way)) (recsA (endSt (faceF n) [] n) (onceO way)) = endSt (faceF n) [] n
  len : (endSt (faceF n) [] n).adv.length = 47
section
open PySem.Spec PyProof.Rows PySem.W StX
variable {P : Program} {w : World} {K : PySem.W.Frag} {mg : Str → Option Value} {base : Heap} {C CI CU CT CG CD fE fW fBt fWr fHas fLen fEU fPl : Addr}
def spFull : Sp := fun vs H Q _ => ∃ n : Int, vs = [.int n] ∧ 0 ≤ n ∧ n ≤ 1000000 ∧ ∀ H', Same H H' → Q (.bl true) H'
abbrev sFull : Stmt := top 32
theorem scFull : FnScope ["_law_number", "_law_rows", "_law_left", "_law_right", "_law_face", "_law_glyph", "_law_font", "_law_due", "_law_way"] ["_law_number"] (defScope sFull) := ⟨rfl, rfl, rfl, by decide +kernel, rfl, by decide +kernel, by decide +kernel⟩
theorem ok_full (DF : ∀ n : Int, 0 ≤ n → n ≤ 1000000 → FullD n) {f fN fO fG fH fCh : Addr} {fd fdN fdO fdG fdC fdL : FuncData} {gg : List Value → List Value → List Value} (F : Fun K "_law_full" "_law_full" sFull f fd) (T : TxF K mg C CI fE fW fBt fWr) (U : TxH K mg C fHas fLen CU fEU fPl) (mR : mg "range" = none) (mD : mg "dict" = none)
    (M : Mk K C fN) (GN : FnOk P w K mg base (L2N.CX P w) 7 fN fdN ["self", "advances", "kerns", "blank"] (spFont C)) (gC : mg "Font" = some (.ref C)) (hb : KBn K fdN ["self", "advances", "kerns", "blank"] 3 ["blank"] gg (fun vs zs => vs ++ zs))
    (aO : At K mg "_law_at_once" fO) (GO : FnOk P w K mg base CX0 9 fO fdO ["_law_font", "_law_way"] (spOnce C CG CI CU CT)) (bO : Binds K fdO ["_law_font", "_law_way"] [])
    (aG : At K mg "_law_agrees" fG) (GG : FnOk P w K mg base (L2N.CX P w) 5 fG fdG ["_law_font", "_law_face"] (spAgree C)) (bG : Binds K fdG ["_law_font", "_law_face"] [])
    (hp : PropOf K C "changes" fH fCh) (GC : FnOk P w K mg base CX0 1 fCh fdC ["self"] (spChanges C)) (bC : Binds K fdC ["self"] []) (GL : FnOk P w K mg base CX0 1 fLen fdL ["self"] (spLen C)) (bL : Binds K fdL ["self"] []) :
    FnOk P w K mg base (L2N.CX P w) 10 f fd ["_law_number"] spFull := by
  refine okN F scFull (fun vs H Q E h => ?_) (fun cdv A outer s H vs Q E hr h => ?_)
  · obtain ⟨n, rfl, _⟩ := h
    rfl
  · obtain ⟨n, rfl, n0, n1, k⟩ := h
    have nd := scFull.nd
    have hu := hu_of hr
    refine ⟨_, pss_cons (ps_set (i := 1) nd rfl (Or.inl rfl) (pe_lst pa_nil))
      (pss_cons (ps_for (passes_of rfl) rfl (pi_str pe_str) (pg_name (i := 2) nd rfl (Or.inl rfl)) (pss_one (ps_for (passes_of rfl) rfl (pi_str pe_str) (pg_name (i := 3) nd rfl (Or.inl rfl))
        (pss_one (ps_expr (pe_bm PySem.F.plainAttrs_list PySem.F.slot_list_append PySem.F.type_list_append mt_append (pv 1) (pa_cons (pe_op op_add_str (pv 2) (pv 3)) pa_nil)))))))
      (pss_cons (ps_set (i := 4) nd rfl (Or.inl rfl) (pe_lst (pa_cons pe_dnewK (pa_cons pe_dnewK (pa_cons (pv 0) pa_nil)))))
      (pss_cons (ps_for (passes_of rfl) rfl (pi_list (pe_op op_cat (pe_callTy (call_listS rfl) (by rfl) U.mList (by decide +kernel) (pa_cons pe_str pa_nil)) (pe_slice sl_list (pv 1) po_none (po_some pe_int)))) (pg_name (i := 5) nd rfl (Or.inl rfl))
        (pss_one (ps_dput hu (pe_ix ix_list (pv 4) pe_int (fun _ _ => rfl)) (pv 5) (pv 0) (by rfl))))
      (pss_cons (ps_set (i := 6) nd rfl (Or.inl rfl) (pe_makeK M GN (hr.mono (by decide)) (by rfl) gC hb (L2N.passes_call (L2N.takes_of rfl rfl rfl rfl) (fun _ _ _ _ h => h)) (pa_cons (pe_callTy call_dictD (by rfl) mD (by decide +kernel) (pa_cons (pe_ix ix_list (pv 4) pe_int (fun _ _ => rfl)) pa_nil)) (pa_cons pe_non pa_nil)) (pk_cons (pv 0) pk_nil)))
      (pss_cons (ps_set (i := 7) nd rfl (Or.inl rfl) (pe_lst (pa_cons (pe_lst (pa_cons pe_str (pa_cons pe_int pa_nil))) (pa_cons (pe_lst (pa_cons pe_str (pa_cons pe_str pa_nil))) (pa_cons (pe_lst (pa_cons pe_str (pa_cons (pe_op op_sub pe_int pe_int) pa_nil))) (pa_cons (pe_lst (pa_cons pe_str (pa_cons pe_str pa_nil))) pa_nil))))))
      (pss_cons (ps_for (passes_of rfl) rfl (pi_range1 (by rfl) mR (pa_cons pe_int pa_nil)) (pg_name (i := 8) nd rfl (Or.inl rfl))
        (pss_one (ps_if (PW.pt (pw_or (pt_cmpR (op_neD hr.units) (pe_call GO (hr.mono (by decide)) (by rfl) aO.g aO.k bO .nil pass0 (pa_cons (pv 6) (pa_cons (pv 8) pa_nil))) (pe_ix ix_list (pv 7) (pv 8) (fun _ _ => rfl)) (nomark _))
          (pw_or (pt_not (pt_val (pe_call GG (hr.mono (by decide)) (by rfl) aG.g aG.k bG .nil (L2N.passes_call (L2N.takes_of rfl rfl rfl rfl) (fun _ _ _ _ h => h)) (pa_cons (pv 6) (pa_cons (pv 4) pa_nil)))))
          (pw_or1 (pt_cmpR op_ne (pe_prop (pv 6) T.cl hp GC (hr.mono (by decide)) bC .nil pass0 rfl) pe_int (nomark _)))))) (pss_one (ps_ret pe_bl)) pss_nil)))
      (pss_one (ps_ret (pe_cmpR op_eq (pe_callB (call_lenO U.hLen U.iLen GL bL (hr.mono (by decide))) (by rfl) T.len PySem.boot_len (pa_cons (pv 6) pa_nil)) pe_int (nomark _)))))))))), ?_⟩
    refine ⟨by show 0 ≤ sizeLine; decide, fun L hL => ?_⟩
    refine ⟨_, rfl, ?_⟩
    refine for_str (fun i σ H' => (∃ u v : Option V, σ = [some (.int n), some (.ref L), u, v, none, none, none, none, none]) ∧ (∀ c x, H c = some x → H' c = some x) ∧ H' L = some (.lst ((rowsF.take (7 * i)).map V.str))) ⟨⟨none, none, rfl⟩, same_upd hL, upd_same⟩ ?_ ?_
    · rintro i c σ H1 hc ⟨⟨u, v, rfl⟩, s1, L1⟩
      obtain ⟨hi, rfl⟩ := six_at hc
      refine ⟨_, rfl, ?_⟩
      refine for_str (fun j σ H' => (∃ v : Option V, σ = [some (.int n), some (.ref L), some (.str ⟨#[97 + i]⟩), v, none, none, none, none, none]) ∧ (∀ c x, H c = some x → H' c = some x) ∧ H' L = some (.lst ((rowsF.take (7 * i + j)).map V.str))) ⟨⟨v, rfl⟩, s1, L1⟩ ?_ ?_
      · rintro j c σ H2 hc ⟨⟨v, rfl⟩, s2, L2'⟩
        obtain ⟨hj, rfl⟩ := seven_at hc
        refine ⟨_, rfl, .inl ⟨rfl, _, SqL.of L2'⟩, _, rfl, _, rfl, _, _, rfl, rfl, ?_, L, _, _, rfl, rfl, L2', ?_, ?_⟩
        · show 1 + 1 ≤ sizeLine
          decide
        · rw [List.length_map, List.length_take]
          exact Nat.lt_of_le_of_lt (Nat.min_le_right _ _) (by show 42 < sizeLine; decide)
        · refine ⟨⟨_, rfl⟩, fun c x hc => (upd_ne (fresh_of hL hc)).trans (s2 _ _ hc), ?_⟩
          rw [upd_same, rowsF_next hi hj, List.map_append]
          rfl
      · rintro σ H2 ⟨⟨v, rfl⟩, s2, L2'⟩
        exact ⟨⟨_, _, rfl⟩, s2, L2'⟩
    · rintro σ H1 ⟨⟨u, v, rfl⟩, s1, L1⟩
      have L1 : H1 L = some (.lst (rowsF.map V.str)) := L1
      refine fun dA hA dN hN => ⟨_, rfl, by show 3 ≤ sizeLine; decide, fun q hq => ?_⟩
      obtain ⟨H2, e2⟩ : ∃ H2, H2 = upd (upd (upd H1 dA (.dK [])) dN (.dK [])) q (.lst [.ref dA, .ref dN, .int n]) := ⟨_, rfl⟩
      have s12 : Same H1 H2 := by
        rw [e2]
        exact ((same_upd hA).trans (same_upd hN)).trans (same_upd hq)
      have q2 : H2 q = some (.lst [.ref dA, .ref dN, .int n]) := by rw [e2]; exact upd_same
      have A2 : H2 dA = some (.dK []) := by
        rw [e2]
        exact (same_upd hq) _ _ ((same_upd hN) _ _ upd_same)
      have N2 : H2 dN = some (.dK []) := by
        rw [e2]
        exact (same_upd hq) _ _ upd_same
      have dAH : H1 dA = none := hA
      show ∃ a, _
      rw [← e2]
      refine ⟨"abcdefg", rfl, by show 7 ≤ sizeLine; decide, fun l1 h1 => ⟨_, rfl, 40, rfl, L, _, rfl, SqL.of ((same_upd h1) _ _ (s12 _ _ L1)), fun l2 h2 => ⟨l1, l2, _, _, rfl, rfl, (same_upd h2) _ _ upd_same, upd_same, ?_, fun l3 h3 => ⟨l3, rfl, ⟨_, SqL.of upd_same⟩, ?_⟩⟩⟩⟩
      · have z : (chsV "abcdefg" ++ cutV (rowsF.map V.str) none (some 40)).length = 47 := by rfl
        rw [List.length_append] at z
        rw [z]
        decide
      have en : chsV "abcdefg" ++ cutV (rowsF.map V.str) none (some 40) = namesF.map V.str := by rfl
      have L3A : l3 ≠ dA := fun z => by
        have h := noneU (noneU h3)
        rw [z, A2] at h
        cases h
      have qA : q ≠ dA := fun z => by rw [z, A2] at q2; cases q2
      refine for_list (K := K) (a := l3) (xs := namesF.map V.str) (fun i σ H' => (∃ u' : Option V, σ = [some (.int n), some (.ref L), u, v, some (.ref q), u', none, none, none]) ∧ (∀ c x, H2 c = some x → c ≠ dA → H' c = some x) ∧ H' l3 = some (.lst (namesF.map V.str)) ∧ H' dA = some (.dK (enc cA ((namesF.take i).map fun g => (g, n)))))
        ⟨⟨none, rfl⟩, fun c x hc _ => (same_upd h3) _ _ ((same_upd h2) _ _ ((same_upd h1) _ _ hc)), by rw [upd_same, en], (same_upd h3) _ _ ((same_upd h2) _ _ ((same_upd h1) _ _ A2))⟩ (fun i σ H' _ ⟨_, _, l, _⟩ => SqL.of l) ?_ ?_
      · rintro i x σ H3 hx ⟨⟨u', rfl⟩, kp, l3', a3⟩
        rw [List.getElem?_map, Option.map_eq_some_iff] at hx
        obtain ⟨g, hg, rfl⟩ := hx
        refine ⟨_, rfl, _, rfl, q, _, 0, _, rfl, rfl, SqL.of (kp _ _ q2 qA), rfl, _, rfl, dA, _, rfl, DPut.k (k := Sum.inr g) a3 ?_, ?_⟩
        · unfold enc
          rw [List.length_map, List.length_map, List.length_take]
          exact Nat.lt_of_le_of_lt (Nat.min_le_right _ _) (by show 47 < sizeLine; decide)
        · refine ⟨⟨_, rfl⟩, fun c x hc ne => (upd_ne ne).trans (kp c x hc ne), (upd_ne L3A).trans l3', ?_⟩
          rw [upd_same, show (Sum.inr g : Key) = cA g from rfl, enc_put cA_inj, face_next hg]
      · rintro σ H3 ⟨⟨u', rfl⟩, kp, l3', a3⟩
        have a3 : H3 dA = some (.dK (enc cA (faceF n))) := a3
        have q3 := kp _ _ q2 qA
        refine ⟨_, rfl, q, _, 0, _, rfl, rfl, SqL.of q3, rfl, dA, _, rfl, .inl a3, fun d hd => ⟨_, rfl, rfl, rfl, fun x dx hx hdx hne => ?_⟩⟩
        obtain ⟨H4, e4⟩ : ∃ H4, H4 = upd H3 d (.dK (enc cA (faceF n))) := ⟨_, rfl⟩
        have s34 : Same H3 H4 := by
          rw [e4]
          exact same_upd hd
        rw [← e4] at hx hdx ⊢
        have s45 : Same H4 (upd (upd H4 dx (.own x)) x (.ins C dx [])) := (same_upd hdx).trans (same_upd (by rw [upd_ne (Ne.symm hne)]; exact hx))
        refine ⟨x, dx, d, .non, faceF n, [], n, rfl, upd_same, s45 _ _ (by rw [e4]; exact upd_same), Or.inr ⟨rfl, rfl⟩, (DF n n0 n1).face, fun H7 o eo kp7 hoA hoN hoP F7 => ⟨rfl, ?_⟩⟩
        have s47 : Same H4 H7 := fun c y hc => kp7 _ _ (s45 _ _ hc) (fun z => by rw [z, hx] at hc; cases hc)
        refine ⟨by show 2 ≤ sizeLine; decide, fun t0 h0 => ⟨by show 2 ≤ sizeLine; decide, fun t1 h1' => ⟨_, _, rfl, rfl, by show 2 ≤ sizeLine; decide, fun t2 h2' => ⟨by show 2 ≤ sizeLine; decide, fun t3 h3' => ⟨by show 4 ≤ sizeLine; decide, fun dq hdq => ?_⟩⟩⟩⟩⟩
        obtain ⟨st, est⟩ : ∃ st, st = endSt (faceF n) [] n := ⟨_, rfl⟩
        have D := DF n n0 n1
        rw [← est] at F7
        have dd : ∀ (a : Addr) (y : HO) (Ha : Hp), Ha a = none → ∀ c z, Ha c = some z → upd Ha a y c = some z := fun a y Ha ha c z hc => (same_upd ha) _ _ hc
        obtain ⟨tt, ett⟩ : ∃ tt : Nat → Addr, tt = fun i => match i with | 0 => t0 | 1 => t1 | 2 => t2 | _ => t3 := ⟨_, rfl⟩
        obtain ⟨H8, e8⟩ : ∃ H8, H8 = upd (upd (upd (upd (upd H7 t0 (.lst (onceL 0))) t1 (.lst (onceL 1))) t2 (.lst (onceL 2))) t3 (.lst (onceL 3))) dq (.lst [.ref (tt 0), .ref (tt 1), .ref (tt 2), .ref (tt 3)]) := ⟨_, rfl⟩
        have s78 : Same H7 H8 := by
          rw [e8]
          exact ((((same_upd h0).trans (same_upd h1')).trans (same_upd h2')).trans (same_upd h3')).trans (same_upd hdq)
        have dq8 : H8 dq = some (.lst [.ref (tt 0), .ref (tt 1), .ref (tt 2), .ref (tt 3)]) := by rw [e8]; exact upd_same
        have tt8 : ∀ i, i < 4 → H8 (tt i) = some (.lst (onceL i)) ∧ H7 (tt i) = none := by
          intro i hi
          rw [ett, e8]
          rcases (show i = 0 ∨ i = 1 ∨ i = 2 ∨ i = 3 by omega) with rfl | rfl | rfl | rfl
          · exact ⟨(same_upd hdq) _ _ ((same_upd h3') _ _ ((same_upd h2') _ _ ((same_upd h1') _ _ upd_same))), h0⟩
          · exact ⟨(same_upd hdq) _ _ ((same_upd h3') _ _ ((same_upd h2') _ _ upd_same)), noneU h1'⟩
          · exact ⟨(same_upd hdq) _ _ ((same_upd h3') _ _ upd_same), noneU (noneU h2')⟩
          · exact ⟨(same_upd hdq) _ _ upd_same, noneU (noneU (noneU h3'))⟩
        have dq7 : H7 dq = none := noneU (noneU (noneU (noneU hdq)))
        have nP : ∀ a, H7 a = none → a ≠ o.dP := fun a ha z => by
          obtain ⟨ls, hp, _⟩ := F7.dp
          rw [z, hp] at ha
          cases ha
        have F8 := F7.sm s78
        have e8b : H8 = upd (upd (upd (upd (upd H7 t0 (.lst (onceL 0))) t1 (.lst (onceL 1))) t2 (.lst (onceL 2))) t3 (.lst (onceL 3))) dq (.lst [.ref t0, .ref t1, .ref t2, .ref t3]) := by
          rw [ett] at e8
          exact e8
        change gName 7 (.ref dq) _ (upd (upd (upd (upd (upd H7 t0 (.lst (onceL 0))) t1 (.lst (onceL 1))) t2 (.lst (onceL 2))) t3 (.lst (onceL 3))) dq (.lst [.ref t0, .ref t1, .ref t2, .ref t3])) _
        rw [← e8b]
        have q4 := s34 _ _ q3
        have aside : ∀ c z, H4 c = some z → c ≠ x ∧ c ≠ o.dA ∧ c ≠ o.dN ∧ c ≠ o.dP := fun c z hc =>
          ⟨fun e => (by rw [e, hx] at hc; cases hc), fresh_of (noneU (noneU hoA)) hc, fresh_of (noneU (noneU hoN)) hc, fresh_of (noneU (noneU hoP)) hc⟩
        have held : ∀ H', KeepF x o H8 H' → ∀ c z, H4 c = some z → H' c = some z := fun H' kf c z hc => by
          obtain ⟨k1, k2, k3, k4⟩ := aside c z hc
          exact kf _ _ (s78 _ _ (s47 _ _ hc)) k1 k2 k3 k4
        have qA4 := s34 _ _ a3
        have N4 : H4 dN = some (.dK []) := s34 _ _ (kp _ _ N2 (fun z => by rw [z, upd_same] at hN; cases hN))
        refine ⟨4, rfl, by decide, by decide, ?_⟩
        refine for_range (lo := 0) (n := (4 : Int).toNat) (fun i σ H' => (∃ w' : Option V, σ = [some (.int n), some (.ref L), u, v, some (.ref q), u', some (.ref x), some (.ref dq), w']) ∧ KeepF x o H8 H' ∧ FontAt C H' x o st []) ⟨⟨none, rfl⟩, KeepF.refl, F8⟩ ?_ ?_
        · rintro i σ H9 hi ⟨⟨w', rfl⟩, kf, F9⟩
          have hi : i < 4 := hi
          rw [Int.zero_add]
          have rf := D.ref i hi
          have bd := D.bad CG CI CU CT i hi
          have bk := D.back i hi
          rw [← est] at rf bd bk
          refine ⟨_, rfl, _, rfl, x, i, o, st, rfl, hi, F9, rf, bd, fun H10 l kf2 hl hlv F10 => ?_⟩
          rw [bk] at F10
          have kf3 := kf.trans kf2
          have dq10 := F8.keepL kf3 dq8 (nP _ dq7)
          have tt10 := F8.keepL kf3 (tt8 i hi).1 (nP _ (tt8 i hi).2)
          refine ⟨_, rfl, _, rfl, dq, _, (i : Int), .ref (tt i), rfl, rfl, SqL.of dq10, ?_, onceD i, onceD i, onceD_dp (SqL.of hlv), onceD_dp (SqL.of tt10), onceD_shaped i hi, onceD_shaped i hi, _, rfl, ?_⟩
          · rcases (show i = 0 ∨ i = 1 ∨ i = 2 ∨ i = 3 by omega) with rfl | rfl | rfl | rfl <;> rfl
          rw [onceD_eqv i hi]
          refine iteF ?_
          refine ⟨_, rfl, _, rfl, x, q, dA, dN, o, st, [], faceF n, n, rfl, F10, ⟨held _ kf3 _ _ q4, held _ kf3 _ _ qA4, held _ kf3 _ _ N4⟩, est ▸ D.agr, fun H11 s11 => ⟨_, rfl, ?_⟩⟩
          refine iteF ?_
          have F11 := F10.sm s11
          refine ⟨_, rfl, x, _, _, rfl, F11.ob, x, o, st, [], rfl, F11, rfl, _, rfl, ?_⟩
          rw [show decide (V.int (([] : List (List Rec)).length : Int) = V.int 0) = true from decide_eq_true rfl]
          refine iteF ?_
          exact ⟨⟨_, rfl⟩, kf3.trans (KeepF.same s11), F11⟩
        · rintro σ H9 ⟨⟨w', rfl⟩, kf, F9⟩
          have ln : st.adv.length = 47 := est ▸ D.len
          refine ⟨_, rfl, x, _, _, rfl, F9.ob, x, o, st, [], rfl, F9, _, rfl, by omega, by omega, rfl, ?_⟩
          rw [ln]
          rw [show decide (V.int ((47 : Nat) : Int) = V.int 47) = true from decide_eq_true rfl]
          refine k _ fun c z hc => held _ kf c z (s34 _ _ (kp _ _ (s12 _ _ (s1 _ _ hc)) ?_))
          intro e
          rw [e] at hc
          have := s1 _ _ hc
          rw [dAH] at this
          cases this
end
/-! ### the data of _law_full: a face whose advances are all n -/
def allN (n : Int) (ns : List Str) : AdvL := ns.map fun g => (g, n)
theorem allN_keys (n : Int) (ns : List Str) : (allN n ns).map (·.1) = ns := by
  unfold allN
  rw [List.map_map]
  exact List.map_id _
theorem allN_get (n : Int) (ns : List Str) (g : Str) : lget (allN n ns) g = if g ∈ ns then some n else none := by
  unfold lget allN
  induction ns with
  | nil => rfl
  | cons x t ih =>
    rw [List.map_cons, List.find?_cons]
    by_cases e : x = g
    · subst e
      simp
    · rw [show decide ((x, n).1 = g) = false from decide_eq_false e]
      simp only
      rw [ih]
      by_cases m : g ∈ t
      · rw [if_pos m, if_pos (List.mem_cons_of_mem _ m)]
      · rw [if_neg m, if_neg (fun z => (List.mem_cons.mp z).elim (fun z => e z.symm) m)]
def missN (ns : List Str) (g : Str) : Option Str := (chars g).find? fun c => !decide (c ∈ ns)
theorem missing_allN (n b : Int) (ns : List Str) (g : Str) : missing ⟨allN n ns, [], b⟩ g = missN ns g := by
  unfold missing missN
  congr 1
  funext c
  show (!(lget (allN n ns) c).isSome) = _
  rw [allN_get]
  by_cases m : c ∈ ns <;> simp [m]
def roomN (ns : List Str) (g : Str) : Bool := decide (1 < g.length) && (!decide (g ∈ ns) && decide (40 ≤ (ns.filter fun g => decide (1 < g.length)).length))
theorem roomless_allN (n b : Int) (ns : List Str) (g : Str) : roomless ⟨allN n ns, [], b⟩ g = roomN ns g := by
  unfold roomless roomN
  have h1 : (lget (allN n ns) g).isSome = decide (g ∈ ns) := by
    rw [allN_get]
    by_cases m : g ∈ ns <;> simp [m]
  have h2 : (ligsOf ⟨allN n ns, [], b⟩).length = (ns.filter fun g => decide (1 < g.length)).length := by
    unfold ligsOf glyphsOf
    rw [show (FSt.adv ⟨allN n ns, [], b⟩).map (·.1) = ns from allN_keys n ns]
    have p := (List.mergeSort_perm ns (PySem.W.dataLe false kRank)).filter fun g => decide (1 < g.length)
    rw [← p.length_eq]
    congr 2
    funext x
    exact decide_eq_decide.mpr (by omega)
  show (decide (1 < g.length) && (!(lget (allN n ns) g).isSome && decide (40 ≤ (ligsOf ⟨allN n ns, [], b⟩).length))) = _
  rw [h1, h2]
theorem namesF_sorted : namesF.Pairwise fun a b => PySem.W.dataLe false kRank a b = true := by decide +kernel
theorem keysF (n : Int) : keysA (faceF n) = namesF := by
  unfold keysA
  rw [show (faceF n).map (·.1) = namesF from allN_keys n namesF]
  exact List.mergeSort_of_pairwise namesF_sorted
theorem advF {n : Int} {g : Str} (h : g ∈ namesF) : advOf (faceF n) g = n := by
  unfold advOf
  rw [show lget (faceF n) g = _ from allN_get n namesF g, if_pos h]
  rfl
theorem foldF (n b : Int) (i : Nat) : (namesF.take i).foldl (fun st g => setA st g (some (advOf (faceF n) g))) ⟨[], [], b⟩ = ⟨allN n (namesF.take i), [], b⟩ := by
  induction i with
  | zero => rfl
  | succ i ih =>
    cases hg : namesF[i]? with
    | none =>
      have e : namesF.take (i + 1) = namesF.take i := by
        rw [List.take_add_one, hg]
        exact List.append_nil _
      rw [e, ih]
    | some g =>
      have e : namesF.take (i + 1) = namesF.take i ++ [g] := by
        rw [List.take_add_one, hg]
        rfl
      rw [e, List.foldl_append, ih, ← e]
      show setA _ g (some (advOf (faceF n) g)) = _
      rw [advF (List.mem_of_getElem? hg)]
      unfold setA
      show FSt.mk (lput (allN n (namesF.take i)) g n) [] b = _
      rw [show lput (allN n (namesF.take i)) g n = _ from face_next hg]
      rfl
theorem stF (n b : Int) (i : Nat) : stA (faceF n) b i = ⟨allN n (namesF.take i), [], b⟩ := by
  unfold stA
  rw [keysF]
  exact foldF n b i
theorem namesF_short : ∀ g ∈ namesF, g.length ≤ 1000 := by decide +kernel
theorem namesF_step : ∀ i, i < 47 → nameB (namesF.getD i "") = true ∧ ((namesF.getD i "").length ≤ 1 ∨ missN (namesF.take i) (namesF.getD i "") = none) ∧ roomN (namesF.take i) (namesF.getD i "") = false := by decide +kernel
theorem take_short (n : Int) (i : Nat) : ∀ e ∈ allN n (namesF.take i), e.1.length ≤ 1000 := by
  intro e he
  obtain ⟨g, hg, rfl⟩ := List.mem_map.mp he
  exact namesF_short g (List.mem_of_mem_take hg)
theorem faceF_len (n : Int) : (faceF n).length = 47 := by
  unfold faceF
  rw [List.length_map]
  rfl
theorem faceF_ok {n : Int} (n0 : 0 ≤ n) (n1 : n ≤ 1000000) : Face (faceF n) [] n where
  b0 := n0
  b1 := n1
  la := by rw [faceF_len]; decide
  lk := Nat.zero_le _
  ln := fun e he => by
    obtain ⟨g, hg, rfl⟩ := List.mem_map.mp he
    exact namesF_short g hg
  sa := fun i g hg => by
    rw [keysF] at hg
    have hi : i < 47 := (List.getElem?_eq_some_iff.mp hg).1
    have eg : namesF.getD i "" = g := by rw [List.getD_eq_getElem?_getD, hg]; rfl
    obtain ⟨h1, h2, h3⟩ := namesF_step i hi
    rw [eg] at h1 h2 h3
    rw [stF, advF (List.mem_of_getElem? hg)]
    refine ⟨h1, n0, n1, ?_, ?_, fun e he => (by cases he), ?_, take_short n i⟩
    · rw [missing_allN]; exact h2
    · rw [roomless_allN]; exact h3
    · show (lput (allN n (namesF.take i)) g n).length ≤ 1000
      rw [show lput (allN n (namesF.take i)) g n = _ from face_next hg, List.length_map, List.length_take]
      exact Nat.le_trans (Nat.min_le_right _ _) (by decide)
  sk := fun i g hg => by
    rw [show keysK [] = [] by simp [keysK]] at hg
    cases hg
theorem endF (n : Int) : endSt (faceF n) [] n = ⟨faceF n, [], n⟩ := by
  unfold endSt stK
  rw [show keysK [] = [] by simp [keysK], stF, faceF_len]
  rfl
theorem agrF (n : Int) : Agree ⟨faceF n, [], n⟩ (faceF n) n where
  krn := rfl
  keys := rfl
  get := fun g hg => by
    rw [show (FSt.adv ⟨faceF n, [], n⟩).map (·.1) = namesF from allN_keys n namesF] at hg
    exact ⟨n, by rw [show lget (FSt.adv ⟨faceF n, [], n⟩) g = _ from allN_get n namesF g, if_pos hg], by rw [show lget (faceF n) g = _ from allN_get n namesF g, if_pos hg]⟩
  blank := rfl
  len := take_short n 47
  asc := fun e he => by
    obtain ⟨g, hg, rfl⟩ := List.mem_map.mp he
    have : ∀ g ∈ namesF, ∀ c ∈ g.cps.toList, c < 128 := by decide +kernel
    exact this g hg
  cnt := rfl
  lenF := take_short n 47
/-! ### the data of _law_full: what _law_at_once meets -/
theorem isSome_by {l : AdvL} {g : Str} : (lget l g).isSome = decide (g ∈ l.map (·.1)) := by
  unfold lget
  rw [Option.isSome_map]
  by_cases m : g ∈ l.map (·.1)
  · rw [decide_eq_true m, List.find?_isSome]
    obtain ⟨e, he, q⟩ := List.mem_map.mp m
    exact ⟨e, he, decide_eq_true q⟩
  · rw [decide_eq_false m]
    cases q : l.find? fun p => decide (p.1 = g) with
    | none => rfl
    | some e => exact absurd (List.mem_map.mpr ⟨e, List.mem_of_find?_eq_some q, by simpa using List.find?_some q⟩) m
theorem missing_by (st : FSt) (g : Str) : missing st g = missN (st.adv.map (·.1)) g := by
  unfold missing missN
  congr 1
  funext c
  rw [isSome_by]
theorem roomless_by (st : FSt) (g : Str) : roomless st g = roomN (st.adv.map (·.1)) g := by
  unfold roomless roomN
  have h2 : (ligsOf st).length = ((st.adv.map (·.1)).filter fun g => decide (1 < g.length)).length := by
    unfold ligsOf glyphsOf
    have p := (List.mergeSort_perm (st.adv.map (·.1)) (PySem.W.dataLe false kRank)).filter fun g => decide (1 < g.length)
    rw [← p.length_eq]
    congr 2
    funext x
    exact decide_eq_decide.mpr (by omega)
  rw [isSome_by, h2]
theorem lput_head {t : AdvL} {g : Str} {x y : Int} (h : g ∉ t.map (·.1)) : lput ((g, x) :: t) g y = (g, y) :: t := by
  unfold lput
  rw [if_pos (by simp), List.map_cons, if_pos rfl]
  congr 1
  refine (List.map_congr_left fun p hp => ?_).trans (List.map_id t)
  rw [if_neg fun z => h (List.mem_map.mpr ⟨p, hp, z⟩)]
  rfl
def tailF (n : Int) : AdvL := allN n namesF.tail
theorem faceF_eq (n : Int) : faceF n = (("a" : Str), n) :: tailF n := rfl
theorem tailF_no (n : Int) : ("a" : Str) ∉ (tailF n).map (·.1) := by
  rw [show (tailF n).map (·.1) = namesF.tail from allN_keys n _]
  decide +kernel
theorem putF (n : Int) : putsA ⟨faceF n, [], n⟩ [("a", 9)] = ⟨("a", 9) :: tailF n, [], n⟩ := by
  show FSt.mk (lput (faceF n) "a" 9) [] n = _
  rw [faceF_eq, lput_head (tailF_no n)]
theorem putF_names (n : Int) : (FSt.adv ⟨("a", 9) :: tailF n, [], n⟩).map (·.1) = namesF := by
  show ("a" : Str) :: (tailF n).map (·.1) = _
  rw [show (tailF n).map (·.1) = namesF.tail from allN_keys n _]
  rfl
theorem backF (n : Int) : backs (putsA ⟨faceF n, [], n⟩ [("a", 9)]) (recsA ⟨faceF n, [], n⟩ [("a", 9)]) = ⟨faceF n, [], n⟩ := by
  rw [putF]
  have e : lget (FSt.adv ⟨faceF n, [], n⟩) "a" = some n := by
    rw [show lget (FSt.adv ⟨faceF n, [], n⟩) "a" = _ from allN_get n namesF "a", if_pos (by decide +kernel)]
  show backs _ [.adv "a" (lget (FSt.adv ⟨faceF n, [], n⟩) "a")] = _
  rw [e]
  show FSt.mk (lput (("a", 9) :: tailF n) "a" n) [] n = _
  rw [lput_head (tailF_no n)]
  rfl
theorem full_names (n : Int) : (FSt.adv ⟨faceF n, [], n⟩).map (·.1) = namesF := allN_keys n namesF
theorem sort3 {α : Type} {le : α → α → Bool} {x y z : α} (h1 : le x y = false) (h2 : le x z = false) (h3 : le y z = false) : [x, y, z].mergeSort le = [z, y, x] := by
  simp [List.mergeSort, List.MergeSort.Internal.splitInTwo, List.splitAt, List.splitAt.go, List.merge, h1, h2, h3]
theorem onceA_ord : ∀ i, i < 4 → ordV (onceA i) = (onceO i).map (·.1) ++ onceG i :: onceR i := by
  intro i hi
  rcases (show i = 0 ∨ i = 1 ∨ i = 2 ∨ i = 3 by omega) with rfl | rfl | rfl | rfl
  · exact List.mergeSort_of_pairwise (by decide +kernel)
  · exact List.mergeSort_of_pairwise (by decide +kernel)
  · exact sort3 (by decide +kernel) (by decide +kernel) (by decide +kernel)
  · exact List.mergeSort_of_pairwise (by decide +kernel)
theorem stepA_a (n : Int) : StepA ⟨faceF n, [], n⟩ "a" 9 := by
  refine ⟨by decide +kernel, by decide, by decide, Or.inl (by decide +kernel), ?_, fun e he => (by cases he), ?_, take_short n 47⟩
  · rw [roomless_by, full_names]
    decide +kernel
  · show (lput (faceF n) "a" 9).length ≤ 1000
    rw [faceF_eq, lput_head (tailF_no n)]
    exact (by decide : 47 ≤ 1000)
theorem refF (n : Int) (i : Nat) (hi : i < 4) : RefA (onceA i) ⟨faceF n, [], n⟩ (onceO i) (onceG i) (.int (onceN i)) (onceR i) where
  ln := by
    rcases (show i = 0 ∨ i = 1 ∨ i = 2 ∨ i = 3 by omega) with rfl | rfl | rfl | rfl <;>
    · intro e he
      simp only [onceA, List.mem_cons, List.not_mem_nil, or_false] at he
      rcases he with rfl | rfl | rfl <;> decide +kernel
  ord := onceA_ord i hi
  get := by
    rcases (show i = 0 ∨ i = 1 ∨ i = 2 ∨ i = 3 by omega) with rfl | rfl | rfl | rfl <;>
    · intro e he
      simp only [onceO, List.mem_cons, List.not_mem_nil, or_false] at he
      try cases he
      all_goals rfl
  bad := by
    rcases (show i = 0 ∨ i = 1 ∨ i = 2 ∨ i = 3 by omega) with rfl | rfl | rfl | rfl <;> rfl
  ok := by
    rcases (show i = 0 ∨ i = 1 ∨ i = 2 ∨ i = 3 by omega) with rfl | rfl | rfl | rfl
    · intro j e he
      match j, he with
      | 0, he => cases he; exact stepA_a n
      | _ + 1, he => simp [onceO] at he
    · intro j e he
      simp [onceO] at he
    · intro j e he
      match j, he with
      | 0, he => cases he; exact stepA_a n
      | _ + 1, he => simp [onceO] at he
    · intro j e he
      match j, he with
      | 0, he => cases he; exact stepA_a n
      | _ + 1, he => simp [onceO] at he
  names := by
    have h9 : ∀ e ∈ (putsA ⟨faceF n, [], n⟩ [("a", 9)]).adv, e.1.length ≤ 1000 := by
      rw [putF]
      intro e he
      have : e.1 ∈ (FSt.adv ⟨("a", 9) :: tailF n, [], n⟩).map (·.1) := List.mem_map.mpr ⟨e, he, rfl⟩
      rw [putF_names] at this
      exact namesF_short _ this
    rcases (show i = 0 ∨ i = 1 ∨ i = 2 ∨ i = 3 by omega) with rfl | rfl | rfl | rfl
    · exact h9
    · exact take_short n 47
    · exact h9
    · exact h9
  zA := by
    have h9 : (putsA ⟨faceF n, [], n⟩ [("a", 9)]).adv.length + 1 ≤ 1000 := by
      rw [putF]
      exact (by decide : 47 + 1 ≤ 1000)
    rcases (show i = 0 ∨ i = 1 ∨ i = 2 ∨ i = 3 by omega) with rfl | rfl | rfl | rfl
    · exact h9
    · exact (by decide : 47 + 0 ≤ 1000)
    · exact h9
    · exact h9
  zK := by
    rcases (show i = 0 ∨ i = 1 ∨ i = 2 ∨ i = 3 by omega) with rfl | rfl | rfl | rfl
    · exact (by decide : 0 + 1 ≤ 1000)
    · exact (by decide : 0 + 0 ≤ 1000)
    · exact (by decide : 0 + 1 ≤ 1000)
    · exact (by decide : 0 + 1 ≤ 1000)
theorem badF (n : Int) (CG CI CU CT : Addr) (i : Nat) (hi : i < 4) : BadA (putsA ⟨faceF n, [], n⟩ (onceO i)) CG CI CU CT (onceG i) (.int (onceN i)) (onceC CG CI CU CT i) (onceF i) := by
  rcases (show i = 0 ∨ i = 1 ∨ i = 2 ∨ i = 3 by omega) with rfl | rfl | rfl | rfl
  · refine .room (n := 5) (by decide +kernel) rfl (by decide) (by decide) (Or.inr ?_) ?_
    · show missing (putsA ⟨faceF n, [], n⟩ [("a", 9)]) _ = none
      rw [putF, missing_by, putF_names]
      decide +kernel
    · show roomless (putsA ⟨faceF n, [], n⟩ [("a", 9)]) _ = true
      rw [putF, roomless_by, putF_names]
      decide +kernel
  · exact .name (by decide +kernel)
  · refine .num (by decide +kernel) ?_
    rintro ⟨k, e, h, _⟩
    cases e
    revert h
    decide
  · refine .letter (n := 5) (by decide +kernel) rfl (by decide) (by decide) (by decide +kernel) ?_
    show missing (putsA ⟨faceF n, [], n⟩ [("a", 9)]) _ = some "z"
    rw [putF, missing_by, putF_names]
    decide +kernel
theorem fullD {n : Int} (n0 : 0 ≤ n) (n1 : n ≤ 1000000) : FullD n where
  face := faceF_ok n0 n1
  agr := by rw [endF]; exact agrF n
  ref := fun i hi => by rw [endF]; exact refF n i hi
  bad := fun CG CI CU CT i hi => by rw [endF]; exact badF n CG CI CU CT i hi
  back := fun i hi => by
    rw [endF]
    rcases (show i = 0 ∨ i = 1 ∨ i = 2 ∨ i = 3 by omega) with rfl | rfl | rfl | rfl
    · exact backF n
    · rfl
    · exact backF n
    · exact backF n
  len := by rw [endF]; exact faceF_len n
/-! ### law -/
section
open PySem.Spec PyProof.Rows PySem.W StX
abbrev sLaw : Stmt := top 33
theorem scLaw : FnScope ["_law_script", "_law_bag_here", "_law_letters_here", "_law_turn", "_law_number", "_law_space", "_law_rows", "_law_left", "_law_right", "_law_one", "_law_face", "_law_letter", "_law_font", "_law_k", "_law_advances", "_law_way"] ["_law_script"] (defScope sLaw) := ⟨rfl, rfl, rfl, by decide +kernel, rfl, by decide +kernel, by decide +kernel⟩
end
/-! ### the letters and the rows of law -/
def rowsC (cs : List Nat) : List (List Nat) := cs.flatMap fun l => cs.map fun r => [l, r]
theorem letters_nodup : ∀ x, x < 26 → ∀ y, y < 6 → (lettersC x y 7).Nodup := by decide +kernel
/-- a letter of a to h is none of the seven -/
theorem letters_miss : ∀ x, x < 26 → ∀ y, y < 6 → ∃ c ∈ (List.range 8).map (97 + ·), c ∉ lettersC x y 7 := by decide +kernel
theorem rows_len (x y : Nat) : (rowsC (lettersC x y 7)).length = 49 := by
  unfold rowsC
  simp [List.length_flatMap, lettersC_len, List.map_const']
/-! ### the order of glyphs, and what a dict of advances is -/
section
open PySem.W PyProof.Rows
def tokR (g : Str) : List (Int ⊕ List Nat) := keyToksAll [.int g.length, .str g]
theorem rank_le (a b : Str) : dataLe false kRank a b = !PyProof.Rows.lexLt itemOrd (tokR b) (tokR a) := by
  rw [dataLe_eq]
  show (!dataLt (kRank b) (kRank a)) = _
  unfold kRank
  rw [dataLt_tuple]
  rfl
theorem tokR_inj {a b : Str} (h : tokR a = tokR b) : a = b := by
  have h1 : [Sum.inl (1 : Int), Sum.inl (a.length : Int), .inl 1, .inr a.cps.toList, .inl 0] = [Sum.inl (1 : Int), Sum.inl (b.length : Int), .inl 1, .inr b.cps.toList, .inl 0] := h
  have h2 : a.cps.toList = b.cps.toList := by
    have := (List.cons.inj (List.cons.inj (List.cons.inj (List.cons.inj h1).2).2).2).1
    exact Sum.inr.inj this
  rw [← SX.S_tl a, ← SX.S_tl b, h2]
theorem rank_tr (a b c : Str) (h1 : dataLe false kRank a b = true) (h2 : dataLe false kRank b c = true) : dataLe false kRank a c = true := by
  rw [rank_le] at h1 h2 ⊢
  cases h : PyProof.Rows.lexLt itemOrd (tokR c) (tokR a) with
  | false => rfl
  | true =>
    rcases lex_negTrans (O := itemOrd) _ (tokR b) _ h with h | h
    · rw [h] at h2; cases h2
    · rw [h] at h1; cases h1
theorem rank_tot (a b : Str) : (dataLe false kRank a b || dataLe false kRank b a) = true := by
  rw [rank_le, rank_le]
  cases h : PyProof.Rows.lexLt itemOrd (tokR b) (tokR a) with
  | false => rfl
  | true =>
    cases h2 : PyProof.Rows.lexLt itemOrd (tokR a) (tokR b) with
    | false => rfl
    | true =>
      have := lex_trans (O := itemOrd) _ _ _ h h2
      rw [lex_irrefl] at this
      cases this
theorem rank_anti (a b : Str) (h1 : dataLe false kRank a b = true) (h2 : dataLe false kRank b a = true) : a = b := by
  rw [rank_le] at h1 h2
  refine tokR_inj (lex_total (O := itemOrd) _ _ ?_ ?_)
  · cases h : PyProof.Rows.lexLt itemOrd (tokR a) (tokR b) with
    | false => rfl
    | true => rw [h] at h2; cases h2
  · cases h : PyProof.Rows.lexLt itemOrd (tokR b) (tokR a) with
    | false => rfl
    | true => rw [h] at h1; cases h1
theorem rank_same {xs ys : List Str} (hp : xs.Perm ys) : xs.mergeSort (dataLe false kRank) = ys.mergeSort (dataLe false kRank) :=
  List.Perm.eq_of_pairwise (le := fun a b => dataLe false kRank a b = true) (fun a b _ _ h1 h2 => rank_anti a b h1 h2) (List.pairwise_mergeSort rank_tr rank_tot xs) (List.pairwise_mergeSort rank_tr rank_tot ys)
    ((List.mergeSort_perm xs _).trans (hp.trans (List.mergeSort_perm ys _).symm))
/-- a shorter one stands ahead -/
theorem rank_short {a b : Str} (h : a.length < b.length) : dataLe false kRank b a = false := by
  rw [rank_le]
  have e : PyProof.Rows.lexLt itemOrd (tokR a) (tokR b) = true := by
    show PyProof.Rows.lexLt itemOrd (Sum.inl (1 : Int) :: Sum.inl (a.length : Int) :: _) (Sum.inl (1 : Int) :: Sum.inl (b.length : Int) :: _) = true
    rw [lex_self (O := itemOrd), lex_diff (O := itemOrd) (by intro z; have := Sum.inl.inj z; omega)]
    show decide ((a.length : Int) < (b.length : Int)) = true
    exact decide_eq_true (by omega)
  rw [e]
  rfl
end
theorem any_key {κ : Type} [DecidableEq κ] {l : List (κ × Int)} {k : κ} : (l.any fun p => decide (p.1 = k)) = true ↔ k ∈ l.map (·.1) := by
  rw [List.any_eq_true, List.mem_map]
  constructor
  · rintro ⟨p, hp, h⟩
    exact ⟨p, hp, of_decide_eq_true h⟩
  · rintro ⟨p, hp, h⟩
    exact ⟨p, hp, decide_eq_true h⟩
theorem lput_keys {κ : Type} [DecidableEq κ] (l : List (κ × Int)) (k : κ) (v : Int) : (lput l k v).map (·.1) = if k ∈ l.map (·.1) then l.map (·.1) else l.map (·.1) ++ [k] := by
  unfold lput
  by_cases h : k ∈ l.map (·.1)
  · rw [if_pos h, if_pos (any_key.mpr h), List.map_map]
    refine List.map_congr_left fun p _ => ?_
    show (if p.1 = k then (p.1, v) else p).1 = p.1
    split <;> rfl
  · rw [if_neg h, if_neg (fun z => h (any_key.mp z)), List.map_append]
    rfl
theorem lput_mem {κ : Type} [DecidableEq κ] {l : List (κ × Int)} {k : κ} {v : Int} {e : κ × Int} (h : e ∈ lput l k v) : e ∈ l ∨ e = (k, v) := by
  unfold lput at h
  split at h
  · obtain ⟨p, hp, rfl⟩ := List.mem_map.mp h
    by_cases hk : p.1 = k
    · rw [if_pos hk]
      exact .inr (by rw [hk])
    · rw [if_neg hk]
      exact .inl hp
  · rcases List.mem_append.mp h with h | h
    · exact .inl h
    · exact .inr (List.mem_singleton.mp h)
theorem lget_in {κ : Type} [DecidableEq κ] {l : List (κ × Int)} {k : κ} {n : Int} (h : lget l k = some n) : (k, n) ∈ l := by
  unfold lget at h
  obtain ⟨p, hp, rfl⟩ := Option.map_eq_some_iff.mp h
  have h1 := List.find?_some hp
  have h2 : p.1 = k := of_decide_eq_true h1
  rw [← h2]
  exact List.mem_of_find?_eq_some hp
theorem lget_some {κ : Type} [DecidableEq κ] {l : List (κ × Int)} {k : κ} : (lget l k).isSome = true ↔ k ∈ l.map (·.1) := by
  constructor
  · intro h
    obtain ⟨n, hn⟩ := Option.isSome_iff_exists.mp h
    exact List.mem_map.mpr ⟨_, lget_in hn, rfl⟩
  · intro h
    obtain ⟨n, hn⟩ := lget_of_mem h
    rw [hn]; rfl
theorem lget_app {κ : Type} [DecidableEq κ] {l : List (κ × Int)} {k k' : κ} {v : Int} (h : k ∉ l.map (·.1)) : lget (l ++ [(k, v)]) k' = if k' = k then some v else lget l k' := by
  unfold lget
  rw [List.find?_append]
  by_cases e : k' = k
  · rw [if_pos e, e]
    have : l.find? (fun p => decide (p.1 = k)) = none := List.find?_eq_none.mpr fun p hp => by
      intro z
      exact h (List.mem_map.mpr ⟨p, hp, of_decide_eq_true z⟩)
    rw [this]
    simp [List.find?]
  · rw [if_neg e]
    have : [(k, v)].find? (fun p => decide (p.1 = k')) = none := by simp [List.find?, Ne.symm e]
    rw [this]
    simp
/-- the font's state behind so many advances -/
theorem stA_eq {fa : AdvL} (hn : (fa.map (·.1)).Nodup) (b : Int) : ∀ i, stA fa b i = ⟨((keysA fa).take i).map fun g => (g, advOf fa g), [], b⟩
  | 0 => by
    unfold stA
    rw [List.take_zero]
    rfl
  | i + 1 => by
    by_cases hi : i < (keysA fa).length
    · have hg : (keysA fa)[i]? = some (keysA fa)[i] := List.getElem?_eq_getElem hi
      have ih := stA_eq hn b i
      have hnd : (keysA fa).Nodup := (List.mergeSort_perm _ _).nodup_iff.mpr hn
      unfold stA at ih ⊢
      rw [foldl_take _ _ hg, ih, List.take_add_one, hg]
      have hnot : (keysA fa)[i] ∉ (((keysA fa).take i).map fun g => (g, advOf fa g)).map (·.1) := by
        rw [List.map_map]
        show _ ∉ ((keysA fa).take i).map id
        rw [List.map_id]
        intro hm
        obtain ⟨j, hj, e⟩ := List.mem_take_iff_getElem.mp hm
        have := (List.getElem_inj hnd).mp e
        omega
      show setA _ _ _ = _
      unfold setA
      show FSt.mk (lput _ _ _) [] b = _
      rw [lput_new hnot, List.map_append]
      rfl
    · unfold stA
      have h1 : (keysA fa).take (i + 1) = keysA fa := List.take_of_length_le (by omega)
      have h2 : (keysA fa).take i = keysA fa := List.take_of_length_le (by omega)
      have ih := stA_eq hn b i
      unfold stA at ih
      rw [h2] at ih
      rw [h1]
      exact ih
theorem stA_keys {fa : AdvL} (hn : (fa.map (·.1)).Nodup) (b : Int) (i : Nat) : (stA fa b i).adv.map (·.1) = (keysA fa).take i := by
  rw [stA_eq hn b i, List.map_map]
  exact List.map_id _
/-- a dict of advances that the constructor accepts -/
structure Good (fa : AdvL) : Prop where
  nd : (fa.map (·.1)).Nodup
  len : fa.length ≤ 1000
  nm : ∀ e ∈ fa, nameB e.1 = true
  vl : ∀ e ∈ fa, 0 ≤ e.2 ∧ e.2 ≤ 1000000
  lt : ∀ e ∈ fa, 1 < e.1.length → ∀ c ∈ chars e.1, c.length = 1 ∧ c ∈ fa.map (·.1)
theorem nameB_len {g : Str} (h : nameB g = true) : g.length ≤ 6 := by
  unfold nameB at h
  exact of_decide_eq_true (Bool.and_eq_true _ _ ▸ h).1
theorem keysA_mem {fa : AdvL} {g : Str} : g ∈ keysA fa ↔ g ∈ fa.map (·.1) := List.mem_mergeSort
theorem keysA_nd {fa : AdvL} (hn : (fa.map (·.1)).Nodup) : (keysA fa).Nodup := (List.mergeSort_perm _ _).nodup_iff.mpr hn
/-- the letters stand ahead -/
theorem ahead {fa : AdvL} (G : Good fa) {i : Nat} {g c : Str} (hg : (keysA fa)[i]? = some g) (hc : c ∈ fa.map (·.1)) (hl : c.length < g.length) : c ∈ (keysA fa).take i := by
  obtain ⟨j, hj, e⟩ := List.mem_iff_getElem.mp (keysA_mem.mpr hc)
  obtain ⟨hi, eg⟩ := List.getElem?_eq_some_iff.mp hg
  have hs := List.pairwise_mergeSort (le := PySem.W.dataLe false kRank) rank_tr rank_tot (fa.map (·.1))
  rcases Nat.lt_or_ge j i with h | h
  · exact List.mem_take_iff_getElem.mpr ⟨j, by omega, e⟩
  · rcases Nat.lt_or_eq_of_le h with h | h
    · have h1 := List.pairwise_iff_getElem.mp hs i j hi hj h
      have h2 : PySem.W.dataLe false kRank g c = true := by rw [← eg, ← e]; exact h1
      rw [rank_short hl] at h2
      cases h2
    · subst h
      rw [e] at eg
      rw [eg] at hl
      omega
theorem advOf_in {fa : AdvL} {g : Str} (h : g ∈ fa.map (·.1)) : (g, advOf fa g) ∈ fa := by
  obtain ⟨n, hn⟩ := lget_of_mem h
  have := lget_in hn
  unfold advOf
  rw [hn]
  exact this
/-- a step that the constructor accepts, where there is room -/
theorem miss_of {fa : AdvL} (G : Good fa) {b : Int} {i : Nat} {g : Str} (hg : (keysA fa)[i]? = some g) : g.length ≤ 1 ∨ missing (stA fa b i) g = none := by
  have hk : g ∈ keysA fa := List.mem_of_getElem? hg
  have hin := advOf_in (keysA_mem.mp hk)
  by_cases h1 : g.length ≤ 1
  · exact .inl h1
  · refine .inr (List.find?_eq_none.mpr fun c hc => ?_)
    obtain ⟨c1, c2⟩ := G.lt _ hin (by show 1 < g.length; omega) c hc
    have := ahead G hg c2 (by omega)
    rw [← stA_keys G.nd b i] at this
    rw [lget_some.mpr this]
    exact Bool.false_ne_true
theorem ligs_of {fa : AdvL} (G : Good fa) (b : Int) (i : Nat) : (ligsOf (stA fa b i)).length = (((keysA fa).take i).filter fun g => decide ((1 : Int) < (g.length : Int))).length := by
  unfold ligsOf glyphsOf
  rw [stA_keys G.nd b i]
  exact ((List.mergeSort_perm ((keysA fa).take i) (PySem.W.dataLe false kRank)).filter fun g => decide ((1 : Int) < (g.length : Int))).length_eq
theorem names_of {fa : AdvL} (G : Good fa) (b : Int) (i : Nat) : ∀ e ∈ (stA fa b i).adv, e.1.length ≤ 1000 := by
  intro e he
  have : e.1 ∈ (keysA fa).take i := by rw [← stA_keys G.nd b i]; exact List.mem_map.mpr ⟨e, he, rfl⟩
  obtain ⟨e', he', e1⟩ := List.mem_map.mp (keysA_mem.mp (List.mem_of_mem_take this))
  rw [← e1]
  exact Nat.le_trans (nameB_len (G.nm _ he')) (by decide)
theorem step_of {fa : AdvL} (G : Good fa) {b : Int} {i : Nat} {g : Str} (hg : (keysA fa)[i]? = some g) (room : 1 < g.length → (((keysA fa).take i).filter fun g => decide ((1 : Int) < (g.length : Int))).length < 40) : StepA (stA fa b i) g (advOf fa g) := by
  have hk : g ∈ keysA fa := List.mem_of_getElem? hg
  have hm := keysA_mem.mp hk
  have hin := advOf_in hm
  have hkeys := stA_keys G.nd b i
  obtain ⟨v0, v1⟩ := G.vl _ hin
  have h2 : (keysA fa).length = fa.length := by unfold keysA; rw [List.length_mergeSort, List.length_map]
  have hlen : ((stA fa b i).adv).length ≤ fa.length := by
    have := congrArg List.length hkeys
    rw [List.length_map, List.length_take] at this
    omega
  refine ⟨G.nm _ hin, v0, v1, miss_of G hg, ?_, ?_, ?_, names_of G b i⟩
  · unfold roomless
    by_cases h1 : 1 < g.length
    · have hlg : (ligsOf (stA fa b i)).length < 40 := by
        rw [ligs_of G]
        exact room h1
      rw [decide_eq_false (show ¬ 40 ≤ (ligsOf (stA fa b i)).length by omega), Bool.and_false, Bool.and_false]
    · rw [decide_eq_false h1]
      rfl
  · intro e he
    rw [stA_eq G.nd b i] at he
    cases he
  · show (lput _ _ _).length ≤ 1000
    have h3 := lput_len (stA fa b i).adv g (advOf fa g)
    have hi := (List.getElem?_eq_some_iff.mp hg).1
    have h4 := congrArg List.length hkeys
    rw [List.length_map, List.length_take] at h4
    have := G.len
    omega
/-- such a dict is a face, where there is room for its ligatures -/
theorem face_of {fa : AdvL} (G : Good fa) {b : Int} (b0 : 0 ≤ b) (b1 : b ≤ 1000000) (room : ∀ i g, (keysA fa)[i]? = some g → 1 < g.length → (((keysA fa).take i).filter fun g => decide ((1 : Int) < (g.length : Int))).length < 40) : Face fa [] b := by
  refine ⟨b0, b1, G.len, Nat.zero_le _, fun e he => Nat.le_trans (nameB_len (G.nm e he)) (by decide), fun i g hg => step_of G hg (room i g hg), fun i g hg => ?_⟩
  unfold keysK at hg
  rw [List.map_nil] at hg
  simp at hg
theorem endSt_eq {fa : AdvL} (G : Good fa) (b : Int) : endSt fa [] b = ⟨(keysA fa).map fun g => (g, advOf fa g), [], b⟩ := by
  unfold endSt stK keysK
  rw [List.map_nil, List.mergeSort_nil, List.take_nil, List.foldl_nil, stA_eq G.nd]
  rw [List.take_of_length_le (by unfold keysA; rw [List.length_mergeSort, List.length_map]; exact Nat.le_refl _)]
/-! ### the data of law: letters and rows -/
structure Rows (L R : List Str) : Prop where
  l1 : ∀ g ∈ L, g.length = 1
  ln : ∀ g ∈ L, nameB g = true
  la : ∀ g ∈ L, AsciiS g
  nd : L.Nodup
  ll : L.length = 7
  rl : R.length = 49
  r2 : ∀ g ∈ R, g.length = 2
  rn : ∀ g ∈ R, nameB g = true
  ra : ∀ g ∈ R, AsciiS g
  rd : R.Nodup
  rc : ∀ g ∈ R, ∀ c ∈ chars g, c ∈ L
def srt (L : List Str) : List Str := L.mergeSort (PySem.W.dataLe false kRank)
theorem srt_perm (L : List Str) : (srt L).Perm L := List.mergeSort_perm _ _
theorem srt_mem {L : List Str} {g : Str} : g ∈ srt L ↔ g ∈ L := List.mem_mergeSort
theorem srt_len (L : List Str) : (srt L).length = L.length := List.length_mergeSort L
theorem Rows.srt {L R : List Str} (h : Rows L R) : Rows (srt L) R where
  l1 := fun g m => h.l1 g (srt_mem.mp m)
  ln := fun g m => h.ln g (srt_mem.mp m)
  la := fun g m => h.la g (srt_mem.mp m)
  nd := (srt_perm L).nodup_iff.mpr h.nd
  ll := (srt_len L).trans h.ll
  rl := h.rl
  r2 := h.r2
  rn := h.rn
  ra := h.ra
  rd := h.rd
  rc := fun g m c hc => srt_mem.mpr (h.rc g m c hc)
def tlK (R : List Str) (k : Nat) : AdvL := (List.range k).map fun i => (R.getD i "", (i : Int))
def faK (L R : List Str) (n : Int) (k : Nat) : AdvL := allN n L ++ tlK R k
theorem getD_at {R : List Str} {k : Nat} {g : Str} (h : R[k]? = some g) : R.getD k "" = g := by rw [List.getD_eq_getElem?_getD, h]; rfl
theorem tlK_keys {R : List Str} : ∀ {k : Nat}, k ≤ R.length → (tlK R k).map (·.1) = R.take k
  | 0, _ => rfl
  | k + 1, h => by
    have hk : k < R.length := h
    have e : R[k]? = some R[k] := List.getElem?_eq_getElem hk
    have ih := tlK_keys (R := R) (k := k) (by omega)
    unfold tlK at ih ⊢
    rw [List.range_succ, List.map_append, List.map_append, ih, List.take_add_one, e]
    show R.take k ++ [R.getD k ""] = _
    rw [getD_at e]
    rfl
theorem faK_keys {L R : List Str} {n : Int} {k : Nat} (h : k ≤ R.length) : (faK L R n k).map (·.1) = L ++ R.take k := by
  unfold faK
  rw [List.map_append, allN_keys, tlK_keys h]
theorem faK_len (L R : List Str) (n : Int) (k : Nat) : (faK L R n k).length = L.length + k := by
  unfold faK allN tlK
  rw [List.length_append, List.length_map, List.length_map, List.length_range]
theorem rows_nodup {L R : List Str} (h : Rows L R) (k : Nat) : (L ++ R.take k).Nodup :=
  List.nodup_append.mpr ⟨h.nd, h.rd.sublist (List.take_sublist _ _), fun a ha b hb e => by
    have h1 := h.l1 a ha
    have h2 := h.r2 b (List.mem_of_mem_take hb)
    rw [e, h2] at h1
    cases h1⟩
theorem not_take {R : List Str} (h : R.Nodup) {k j : Nat} {g : Str} (hg : R[j]? = some g) (hk : k ≤ j) : g ∉ R.take k := fun m => by
  obtain ⟨i, hi, e⟩ := List.mem_take_iff_getElem.mp m
  obtain ⟨hj, eg⟩ := List.getElem?_eq_some_iff.mp hg
  have := (List.getElem_inj h).mp (e.trans eg.symm)
  omega
theorem row_not {L R : List Str} (h : Rows L R) {k j : Nat} {g : Str} (hg : R[j]? = some g) (hk : k ≤ j) : g ∉ L ++ R.take k := fun m => by
  rcases List.mem_append.mp m with m | m
  · have h1 := h.l1 g m
    rw [h.r2 g (List.mem_of_getElem? hg)] at h1
    cases h1
  · exact not_take h.rd hg hk m
theorem faK_next {L R : List Str} (h : Rows L R) {n : Int} {k : Nat} {g : Str} (hg : R[k]? = some g) : lput (faK L R n k) g (k : Int) = faK L R n (k + 1) := by
  have hk : k < R.length := (List.getElem?_eq_some_iff.mp hg).1
  rw [lput_new (by rw [faK_keys (by omega)]; exact row_not h hg (Nat.le_refl _))]
  unfold faK tlK
  rw [List.range_succ, List.map_append, List.append_assoc]
  show _ = _ ++ (_ ++ [(R.getD k "", (k : Int))])
  rw [getD_at hg]
/-- the font's state behind k rows -/
def stL (L R : List Str) (n sp : Int) (k : Nat) : FSt := ⟨faK (srt L) R n k, [], sp⟩
theorem stL_next {L R : List Str} (h : Rows L R) {n sp : Int} {k : Nat} {g : Str} (hg : R[k]? = some g) : setA (stL L R n sp k) g (some (k : Int)) = stL L R n sp (k + 1) := by
  show FSt.mk (lput (faK (srt L) R n k) g (k : Int)) [] sp = _
  rw [faK_next h.srt hg]
  rfl
theorem stL_keys {L R : List Str} {n sp : Int} {k : Nat} (h : k ≤ R.length) : (stL L R n sp k).adv.map (·.1) = srt L ++ R.take k := faK_keys h
theorem filt_one {L : List Str} (h : ∀ g ∈ L, g.length = 1) : (L.filter fun g => decide (1 < g.length)) = [] :=
  List.filter_eq_nil_iff.mpr fun g m => by rw [h g m]; decide
theorem filt_two {R : List Str} (h : ∀ g ∈ R, g.length = 2) : (R.filter fun g => decide (1 < g.length)) = R :=
  List.filter_eq_self.mpr fun g m => by rw [h g m]; decide
theorem count_rows {L R : List Str} (h : Rows L R) {k : Nat} (hk : k ≤ 49) : ((L ++ R.take k).filter fun g => decide (1 < g.length)).length = k := by
  rw [List.filter_append, filt_one h.l1, filt_two fun g m => h.r2 g (List.mem_of_mem_take m), List.nil_append, List.length_take, h.rl]
  omega
theorem roomless_row {L R : List Str} (h : Rows L R) {n sp : Int} {k j : Nat} {g : Str} (hk : k ≤ 49) (hg : R[j]? = some g) (hj : k ≤ j) : roomless (stL L R n sp k) g = decide (40 ≤ k) := by
  have q := row_not h.srt hg hj
  rw [roomless_by, stL_keys (by rw [h.rl]; omega)]
  unfold roomN
  rw [count_rows h.srt hk, decide_eq_false q, decide_eq_true (show 1 < g.length by rw [h.r2 g (List.mem_of_getElem? hg)]; decide)]
  rfl
theorem missing_row {L R : List Str} (h : Rows L R) {st : FSt} {g : Str} (hs : ∀ c ∈ L, c ∈ st.adv.map (·.1)) (hg : g ∈ R) : missing st g = none := by
  rw [missing_by]
  refine List.find?_eq_none.mpr fun c hc => ?_
  rw [decide_eq_true (hs c (h.rc g hg c hc))]
  exact Bool.false_ne_true
theorem stL_has {L R : List Str} (h : Rows L R) {n sp : Int} {k : Nat} (hk : k ≤ 49) : ∀ c ∈ L, c ∈ (stL L R n sp k).adv.map (·.1) := fun c hc => by
  rw [stL_keys (by rw [h.rl]; omega)]
  exact List.mem_append_left _ (srt_mem.mpr hc)
theorem short_row {L R : List Str} (h : Rows L R) {n : Int} {k : Nat} (hk : k ≤ 49) : ∀ e ∈ faK L R n k, nameB e.1 = true := fun e he => by
  have m : e.1 ∈ (faK L R n k).map (·.1) := List.mem_map.mpr ⟨e, he, rfl⟩
  rw [faK_keys (by rw [h.rl]; omega)] at m
  rcases List.mem_append.mp m with m | m
  · exact h.ln _ m
  · exact h.rn _ (List.mem_of_mem_take m)
theorem le1000 {g : Str} (h : nameB g = true) : g.length ≤ 1000 := Nat.le_trans (nameB_len h) (by decide)
theorem lget_nd {l : AdvL} (h : (l.map (·.1)).Nodup) {g : Str} {v : Int} (m : (g, v) ∈ l) : lget l g = some v := by
  obtain ⟨w, hw⟩ := lget_of_mem (List.mem_map.mpr ⟨_, m, rfl⟩ : g ∈ l.map (·.1))
  rw [hw]
  have m2 := lget_in hw
  clear hw
  induction l with
  | nil => cases m
  | cons x t ih =>
    rw [List.map_cons, List.nodup_cons] at h
    rcases List.mem_cons.mp m with e | m <;> rcases List.mem_cons.mp m2 with e2 | m2
    · rw [← e] at e2
      rw [(Prod.mk.inj e2).2]
    · exact absurd (List.mem_map.mpr ⟨_, m2, by rw [← e]⟩) h.1
    · exact absurd (List.mem_map.mpr ⟨_, m, by rw [← e2]⟩) h.1
    · exact ih h.2 m m2
theorem lget_perm {l l' : AdvL} (p : l.Perm l') (h : (l.map (·.1)).Nodup) {g : Str} {v : Int} (e : lget l g = some v) : lget l' g = some v :=
  lget_nd ((p.map _).nodup_iff.mp h) (p.mem_iff.mp (lget_in e))
/-- a font that has the face's glyphs, in whatever order -/
theorem agree_of {st : FSt} {fa : AdvL} {sp : Int} (hk : st.krn = []) (hb : st.blank = sp) (p : st.adv.Perm fa) (nd : (st.adv.map (·.1)).Nodup) (hn : ∀ e ∈ st.adv, nameB e.1 = true) (ha : ∀ e ∈ st.adv, AsciiS e.1) : Agree st fa sp where
  krn := hk
  keys := rank_same (p.map _).symm
  get := fun g hg => by
    obtain ⟨n, e⟩ := lget_of_mem hg
    exact ⟨n, e, lget_perm p nd e⟩
  blank := hb
  len := fun e he => le1000 (hn e (p.mem_iff.mpr he))
  asc := ha
  cnt := p.length_eq.symm
  lenF := fun e he => le1000 (hn e he)
theorem agree_row {L R : List Str} (h : Rows L R) {n sp : Int} {k : Nat} (hk : k ≤ 49) : Agree (stL L R n sp k) (faK L R n k) sp := by
  refine agree_of rfl rfl ?_ ?_ (short_row h.srt hk) (fun e he => ?_)
  · exact ((srt_perm L).map _).append_right _
  · rw [stL_keys (by rw [h.rl]; omega)]
    exact rows_nodup h.srt k
  · have m : e.1 ∈ (stL L R n sp k).adv.map (·.1) := List.mem_map.mpr ⟨e, he, rfl⟩
    rw [stL_keys (by rw [h.rl]; omega)] at m
    rcases List.mem_append.mp m with m | m
    · exact h.srt.la _ m
    · exact h.ra _ (List.mem_of_mem_take m)
/-! ### an even font -/
theorem lput_same {n : Int} {L : List Str} {g : Str} (h : g ∈ L) : lput (allN n L) g n = allN n L := by
  unfold lput
  rw [if_pos (any_key.mpr (by rw [allN_keys]; exact h))]
  unfold allN
  rw [List.map_map]
  refine List.map_congr_left fun x _ => ?_
  show (if x = g then (x, n) else (x, n)) = (x, n)
  rw [ite_self]
theorem evens {n : Int} : ∀ (L pre : List Str), (pre ++ L).Nodup → L.foldl (fun l c => lput l c n) (allN n pre) = allN n (pre ++ L)
  | [], pre, _ => by rw [List.append_nil]; rfl
  | c :: L, pre, h => by
    have hc : c ∉ (allN n pre).map (·.1) := fun m => by
      rw [allN_keys] at m
      exact (List.nodup_append.mp h).2.2 c m c List.mem_cons_self rfl
    have e : allN n pre ++ [(c, n)] = allN n (pre ++ [c]) := by unfold allN; rw [List.map_append]; rfl
    rw [List.foldl_cons, lput_new hc, e, evens L (pre ++ [c]) (by rw [List.append_assoc]; exact h), List.append_assoc]
    rfl
theorem even_all {n : Int} {z : Str} {L more : List Str} (e : chars z = L ++ more) (nd : L.Nodup) (hm : ∀ g ∈ more, g ∈ L) : evenA z n = allN n L := by
  unfold evenA
  rw [e, List.foldl_append, show L.foldl (fun l c => lput l c n) [] = allN n L from evens L [] nd]
  clear e
  induction more with
  | nil => rfl
  | cons c t ih =>
    rw [List.foldl_cons, lput_same (hm c List.mem_cons_self)]
    exact ih fun g m => hm g (List.mem_cons_of_mem _ m)
theorem good_all {n : Int} (n0 : 0 ≤ n) (n1 : n ≤ 1000000) {L : List Str} (nd : L.Nodup) (l1 : ∀ g ∈ L, g.length = 1) (ln : ∀ g ∈ L, nameB g = true) (ll : L.length ≤ 1000) : Good (allN n L) where
  nd := by rw [allN_keys]; exact nd
  len := by unfold allN; rw [List.length_map]; exact ll
  nm := fun e he => by
    obtain ⟨g, hg, rfl⟩ := List.mem_map.mp he
    exact ln g hg
  vl := fun e he => by
    obtain ⟨g, hg, rfl⟩ := List.mem_map.mp he
    exact ⟨n0, n1⟩
  lt := fun e he h => by
    obtain ⟨g, hg, rfl⟩ := List.mem_map.mp he
    have h : 1 < g.length := h
    rw [l1 g hg] at h
    omega
theorem face_all {n b : Int} (n0 : 0 ≤ n) (n1 : n ≤ 1000000) (b0 : 0 ≤ b) (b1 : b ≤ 1000000) {L : List Str} (nd : L.Nodup) (l1 : ∀ g ∈ L, g.length = 1) (ln : ∀ g ∈ L, nameB g = true) (ll : L.length ≤ 1000) : Face (allN n L) [] b :=
  face_of (good_all n0 n1 nd l1 ln ll) b0 b1 fun i g hg h => by
    have m := keysA_mem.mp (List.mem_of_getElem? hg)
    rw [allN_keys] at m
    rw [l1 g m] at h
    omega
theorem end_all {n b : Int} (n0 : 0 ≤ n) (n1 : n ≤ 1000000) {L : List Str} (nd : L.Nodup) (l1 : ∀ g ∈ L, g.length = 1) (ln : ∀ g ∈ L, nameB g = true) (ll : L.length ≤ 1000) : endSt (allN n L) [] b = ⟨allN n (srt L), [], b⟩ := by
  rw [endSt_eq (good_all n0 n1 nd l1 ln ll)]
  have e : keysA (allN n L) = srt L := by unfold keysA; rw [allN_keys]; rfl
  rw [e]
  unfold allN
  refine congrArg (fun l => FSt.mk l [] b) (List.map_congr_left fun g hg => ?_)
  unfold advOf
  rw [show lget (L.map fun g => (g, n)) g = _ from allN_get n L g, if_pos (srt_mem.mp hg)]
  rfl
/-! ### a dict of letters and 41 rows -/
theorem srt_split {L R : List Str} (l1 : ∀ g ∈ L, g.length = 1) (r2 : ∀ g ∈ R, g.length = 2) : srt (L ++ R) = srt L ++ srt R := by
  unfold srt
  rw [rank_same (((srt_perm L).append (srt_perm R)).symm)]
  refine List.mergeSort_of_pairwise (List.pairwise_append.mpr ⟨List.pairwise_mergeSort rank_tr rank_tot _, List.pairwise_mergeSort rank_tr rank_tot _, fun a ha b hb => ?_⟩)
  have ha := l1 a (srt_mem.mp ha)
  have hb := r2 b (srt_mem.mp hb)
  have t := rank_tot a b
  rw [rank_short (a := a) (b := b) (by omega), Bool.or_false] at t
  exact t
theorem count_take {L R : List Str} (l1 : ∀ g ∈ L, g.length = 1) (r2 : ∀ g ∈ R, g.length = 2) (ll : L.length = 7) (i : Nat) : (((L ++ R).take i).filter fun g => decide ((1 : Int) < (g.length : Int))).length = min (i - 7) R.length := by
  have e : (fun g : Str => decide ((1 : Int) < (g.length : Int))) = fun g => decide (1 < g.length) := by
    funext g
    exact decide_eq_decide.mpr (by omega)
  rw [e, List.take_append, List.filter_append, filt_one fun g m => l1 g (List.mem_of_mem_take m), filt_two fun g m => r2 g (List.mem_of_mem_take m), List.nil_append, List.length_take, ll]
theorem bad_41 {L R : List Str} (h : Rows L R) {fa : AdvL} (hk : fa.map (·.1) = L ++ R.take 41) (vl : ∀ e ∈ fa, 0 ≤ e.2 ∧ e.2 ≤ 1000000) : ∃ gb, BadFace fa 250 47 gb := by
  have r2 : ∀ g ∈ R.take 41, g.length = 2 := fun g m => h.r2 g (List.mem_of_mem_take m)
  have l41 : (R.take 41).length = 41 := by rw [List.length_take, h.rl]; rfl
  have kk : keysA fa = srt L ++ srt (R.take 41) := by
    unfold keysA
    rw [hk]
    exact srt_split h.l1 r2
  have fl : fa.length = 48 := by
    have := congrArg List.length hk
    rw [List.length_map, List.length_append, h.ll, l41] at this
    exact this
  have nm : ∀ e ∈ fa, nameB e.1 = true := fun e he => by
    have m : e.1 ∈ fa.map (·.1) := List.mem_map.mpr ⟨e, he, rfl⟩
    rw [hk] at m
    rcases List.mem_append.mp m with m | m
    · exact h.ln _ m
    · exact h.rn _ (List.mem_of_mem_take m)
  have G : Good fa := ⟨by rw [hk]; exact rows_nodup h 41, by omega, nm, vl, fun e he hl c hc => by
    have m : e.1 ∈ fa.map (·.1) := List.mem_map.mpr ⟨e, he, rfl⟩
    rw [hk] at m ⊢
    rcases List.mem_append.mp m with m | m
    · rw [h.l1 _ m] at hl
      omega
    · have := h.rc _ (List.mem_of_mem_take m) c hc
      exact ⟨h.l1 c this, List.mem_append_left _ this⟩⟩
  have cnt : ∀ i, (((keysA fa).take i).filter fun g => decide ((1 : Int) < (g.length : Int))).length = min (i - 7) 41 := fun i => by
    rw [kk, count_take (fun g m => h.l1 g (srt_mem.mp m)) (fun g m => r2 g (srt_mem.mp m)) ((srt_len L).trans h.ll), srt_len, l41]
  have kl : (keysA fa).length = 48 := by unfold keysA; rw [List.length_mergeSort, List.length_map, fl]
  have hg : (keysA fa)[47]? = some (keysA fa)[47] := List.getElem?_eq_getElem (by omega)
  obtain ⟨gb, egb⟩ : ∃ gb, (keysA fa)[47]? = some gb := ⟨_, hg⟩
  have gm : gb ∈ srt (R.take 41) := by
    rw [kk, List.getElem?_append_right (by rw [srt_len, h.ll]; decide)] at egb
    exact List.mem_of_getElem? egb
  have g2 := r2 gb (srt_mem.mp gm)
  refine ⟨gb, by decide, by decide, fun e he => le1000 (nm e he), fun i g hi hg => step_of G hg fun _ => by rw [cnt]; omega, egb, ?_, names_of G 250 47⟩
  have hin := advOf_in (keysA_mem.mp (List.mem_of_getElem? egb))
  refine ⟨G.nm _ hin, (vl _ hin).1, (vl _ hin).2, miss_of G egb, ?_⟩
  have nt : gb ∉ (keysA fa).take 47 := not_take (keysA_nd G.nd) egb (Nat.le_refl _)
  have ns : (lget (stA fa 250 47).adv gb).isSome = false := by
    rw [isSome_by, stA_keys G.nd]
    exact decide_eq_false nt
  have lc := ligs_of G 250 47
  rw [cnt] at lc
  unfold roomless
  rw [ns, lc, decide_eq_true (show 1 < gb.length by omega)]
  decide
/-! ### behind the 41st -/
theorem ldrop_keys {κ : Type} [DecidableEq κ] (l : List (κ × Int)) (k : κ) : (ldrop l k).map (·.1) = (l.map (·.1)).filter fun x => decide (x ≠ k) := by
  unfold ldrop
  rw [List.filter_map]
  rfl
theorem filter_one {l : List Str} {a : Str} (nd : l.Nodup) (m : a ∈ l) : (l.filter fun x => decide (x ≠ a)).length + 1 = l.length := by
  induction l with
  | nil => cases m
  | cons x t ih =>
    rw [List.nodup_cons] at nd
    by_cases e : x = a
    · have q : (t.filter fun x => decide (x ≠ a)) = t := List.filter_eq_self.mpr fun y hy => decide_eq_true (fun z => nd.1 (by rw [e, ← z]; exact hy) : y ≠ a)
      rw [List.filter_cons, if_neg (by simp [e]), q]
      rfl
    · rw [List.filter_cons, if_pos (decide_eq_true e), List.length_cons, List.length_cons, ih nd.2 ((List.mem_cons.mp m).resolve_left (Ne.symm e))]
theorem lput_if (l : AdvL) (g : Str) (n : Int) : (lput l g n).map (·.1) = if g ∈ l.map (·.1) then l.map (·.1) else l.map (·.1) ++ [g] := lput_keys l g n
/-- what the law does behind the 41st: the font's glyphs in the end -/
theorem last_names {L R : List Str} (h : Rows L R) {n sp : Int} {one g41 hh : Str} {t : Nat} (ht : t < 40) (ho : R[t]? = some one) (h41 : R[41]? = some g41) (hl : hh.length = 1) (hm : hh ∉ L) :
    let s1 := setA (stL L R n sp 40) one (some 1000)
    let s2 := setA s1 hh (some 3)
    let s3 := setA s2 one none
    s1.adv.map (·.1) = srt L ++ R.take 40 ∧ s2.adv.map (·.1) = (srt L ++ R.take 40) ++ [hh] ∧ s3.adv.map (·.1) = ((srt L ++ R.take 40) ++ [hh]).filter (fun x => decide (x ≠ one)) ∧
    ((srt L ++ R.take 40) ++ [hh]).Nodup ∧ one ∈ (srt L ++ R.take 40) ++ [hh] ∧ g41 ∉ (srt L ++ R.take 40) ++ [hh] ∧ one ≠ g41 := by
  have io : one ∈ srt L ++ R.take 40 := List.mem_append_right _ (List.mem_iff_getElem?.mpr ⟨t, by rw [List.getElem?_take, if_pos ht, ho]⟩)
  have e1 : (setA (stL L R n sp 40) one (some 1000)).adv.map (·.1) = srt L ++ R.take 40 := by
    show (lput (faK (srt L) R n 40) one 1000).map (·.1) = _
    rw [lput_if, faK_keys (by rw [h.rl]; decide), if_pos io]
  have nh : hh ∉ srt L ++ R.take 40 := fun m => by
    rcases List.mem_append.mp m with m | m
    · exact hm (srt_mem.mp m)
    · rw [h.r2 _ (List.mem_of_mem_take m)] at hl
      cases hl
  have e2 : (setA (setA (stL L R n sp 40) one (some 1000)) hh (some 3)).adv.map (·.1) = (srt L ++ R.take 40) ++ [hh] := by
    show (lput (setA (stL L R n sp 40) one (some 1000)).adv hh 3).map (·.1) = _
    rw [lput_if, e1, if_neg nh]
  have n1 := row_not h.srt h41 (k := 40) (by decide)
  refine ⟨e1, e2, ?_, ?_, List.mem_append_left _ io, ?_, ?_⟩
  · show (ldrop (setA (setA (stL L R n sp 40) one (some 1000)) hh (some 3)).adv one).map (·.1) = _
    rw [ldrop_keys, e2]
  · exact List.nodup_append.mpr ⟨rows_nodup h.srt 40, by simp, fun a ha b hb e => nh (by rw [← List.mem_singleton.mp hb, ← e]; exact ha)⟩
  · intro m
    rcases List.mem_append.mp m with m | m
    · exact n1 m
    · have := h.r2 _ (List.mem_of_getElem? h41)
      rw [List.mem_singleton.mp m, hl] at this
      cases this
  · intro e
    exact n1 (e ▸ io)
theorem last_count {L R : List Str} (h : Rows L R) {one g41 hh : Str} {t : Nat} (ht : t < 40) (ho : R[t]? = some one) (hl : hh.length = 1) :
    ((((srt L ++ R.take 40) ++ [hh]).filter fun x => decide (x ≠ one)).filter fun g => decide (1 < g.length)).length = 39 := by
  have e : (((srt L ++ R.take 40) ++ [hh]).filter fun x => decide (x ≠ one)).filter (fun g => decide (1 < g.length)) = (R.take 40).filter fun x => decide (x ≠ one) := by
    rw [List.filter_filter, show (fun g : Str => decide (1 < g.length) && decide (g ≠ one)) = fun g => decide (g ≠ one) && decide (1 < g.length) from funext fun g => Bool.and_comm _ _, ← List.filter_filter, List.filter_append, List.filter_append, List.filter_append, filt_one h.srt.l1,
      filt_two fun g m => h.r2 g (List.mem_of_mem_take m), filt_one (L := [hh]) (fun g m => by rw [List.mem_singleton.mp m]; exact hl), List.nil_append, List.filter_nil, List.append_nil]
  have io : one ∈ R.take 40 := List.mem_iff_getElem?.mpr ⟨t, by rw [List.getElem?_take, if_pos ht, ho]⟩
  have := filter_one (h.rd.sublist (List.take_sublist 40 R)) io
  rw [e]
  rw [List.length_take, h.rl] at this
  omega
theorem roomless_one {st : FSt} {g : Str} (h : g.length ≤ 1) : roomless st g = false := by
  unfold roomless
  rw [decide_eq_false (by omega)]
  rfl
theorem roomless_in {st : FSt} {g : Str} (h : g ∈ st.adv.map (·.1)) : roomless st g = false := by
  unfold roomless
  rw [isSome_by, decide_eq_true h, Bool.not_true, Bool.false_and, Bool.and_false]
theorem wide_no {st : FSt} {g : Str} {n : Int} (h : st.krn = []) : Wide st g n := fun e he => by rw [h] at he; cases he
/-! ### the law's own rows -/
theorem S_inj {a b : List Nat} (h : SX.S a = SX.S b) : a = b := by
  have := congrArg (fun x : Str => x.cps.toList) h
  simpa [SX.S] using this
theorem nodup_map {α β : Type} {f : α → β} (hf : ∀ a b, f a = f b → a = b) : ∀ {l : List α}, l.Nodup → (l.map f).Nodup
  | [], _ => List.nodup_nil
  | a :: l, h => by
    rw [List.map_cons, List.nodup_cons]
    rw [List.nodup_cons] at h
    refine ⟨fun m => ?_, nodup_map hf h.2⟩
    obtain ⟨b, hb, e⟩ := List.mem_map.mp m
    exact h.1 (hf _ _ e ▸ hb)
theorem flat_nodup {ds : List Nat} (hd : ds.Nodup) : ∀ {cs : List Nat}, cs.Nodup → (cs.flatMap fun l => ds.map fun r => [l, r]).Nodup
  | [], _ => List.nodup_nil
  | c :: cs, h => by
    rw [List.nodup_cons] at h
    rw [List.flatMap_cons]
    refine List.nodup_append.mpr ⟨nodup_map (fun a b e => (List.cons.inj (List.cons.inj e).2).1) hd, flat_nodup hd h.2, fun a ha b hb e => ?_⟩
    obtain ⟨r, _, rfl⟩ := List.mem_map.mp ha
    obtain ⟨c2, hc2, hb⟩ := List.mem_flatMap.mp hb
    obtain ⟨r2, _, rfl⟩ := List.mem_map.mp hb
    exact h.1 ((List.cons.inj e).1 ▸ hc2)
theorem rowsC_nodup {cs : List Nat} (h : cs.Nodup) : (rowsC cs).Nodup := flat_nodup h h
theorem rowsC_in {cs : List Nat} {r : List Nat} (h : r ∈ rowsC cs) : ∃ a b, a ∈ cs ∧ b ∈ cs ∧ r = [a, b] := by
  obtain ⟨a, ha, h⟩ := List.mem_flatMap.mp h
  obtain ⟨b, hb, rfl⟩ := List.mem_map.mp h
  exact ⟨a, b, ha, hb, rfl⟩
def rot {α : Type} (t : Nat) (l : List α) : List α := l.drop t ++ l.take t
theorem rot_perm {α : Type} (t : Nat) (l : List α) : (rot t l).Perm l := List.perm_append_comm.trans (by rw [List.take_append_drop])
def nameC (cs : List Nat) : List Str := cs.map fun c => SX.S [c]
def rowN (t : Nat) (cs : List Nat) : List Str := rot t ((rowsC cs).map SX.S)
theorem name1 : ∀ i, i < 26 → nameB (SX.S [97 + i]) = true := by decide +kernel
theorem name2 : ∀ i, i < 26 → ∀ j, j < 26 → nameB (SX.S [97 + i, 97 + j]) = true := by decide +kernel
theorem nameB1 {c : Nat} (h : 97 ≤ c ∧ c ≤ 122) : nameB (SX.S [c]) = true := by
  have := name1 (c - 97) (by omega)
  rwa [show 97 + (c - 97) = c by omega] at this
theorem nameB2 {c d : Nat} (h : 97 ≤ c ∧ c ≤ 122) (h2 : 97 ≤ d ∧ d ≤ 122) : nameB (SX.S [c, d]) = true := by
  have := name2 (c - 97) (by omega) (d - 97) (by omega)
  rwa [show 97 + (c - 97) = c by omega, show 97 + (d - 97) = d by omega] at this
theorem asciiS {l : List Nat} (h : ∀ c ∈ l, 97 ≤ c ∧ c ≤ 122) : AsciiS (SX.S l) := fun c hc => by
  have := h c (by simpa [SX.S] using hc)
  omega
theorem chars_S (l : List Nat) : chars (SX.S l) = nameC l := by
  unfold chars nameC
  simp [SX.S]
theorem rows_law {x y : Nat} (hx : x < 26) (hy : y < 6) (t : Nat) : Rows (nameC (lettersC x y 7)) (rowN t (lettersC x y 7)) := by
  obtain ⟨cs, ecs⟩ : ∃ cs, cs = lettersC x y 7 := ⟨_, rfl⟩
  have nd : cs.Nodup := ecs ▸ letters_nodup x hx y hy
  have ci : ∀ c ∈ cs, 97 ≤ c ∧ c ≤ 122 := fun c h => lettersC_in (ecs ▸ h)
  have cl : cs.length = 7 := by rw [ecs, lettersC_len]
  have rl : (rowsC cs).length = 49 := by rw [ecs, rows_len]
  rw [← ecs]
  have rm : ∀ g ∈ rowN t cs, ∃ a b, a ∈ cs ∧ b ∈ cs ∧ g = SX.S [a, b] := fun g hg => by
    obtain ⟨r, hr, rfl⟩ := List.mem_map.mp ((rot_perm t _).mem_iff.mp hg)
    obtain ⟨a, b, ha, hb, rfl⟩ := rowsC_in hr
    exact ⟨a, b, ha, hb, rfl⟩
  refine ⟨?_, ?_, ?_, nodup_map (fun a b e => (List.cons.inj (S_inj e)).1) nd, by unfold nameC; rw [List.length_map, cl], ?_, ?_, ?_, ?_, ?_, ?_⟩
  · intro g hg
    obtain ⟨c, _, rfl⟩ := List.mem_map.mp hg
    rfl
  · intro g hg
    obtain ⟨c, hc, rfl⟩ := List.mem_map.mp hg
    exact nameB1 (ci c hc)
  · intro g hg
    obtain ⟨c, hc, rfl⟩ := List.mem_map.mp hg
    exact asciiS fun d hd => by rw [List.mem_singleton.mp hd]; exact ci c hc
  · rw [show (rowN t cs).length = ((rowsC cs).map SX.S).length from (rot_perm t _).length_eq, List.length_map, rl]
  · intro g hg
    obtain ⟨a, b, ha, hb, rfl⟩ := rm g hg
    rfl
  · intro g hg
    obtain ⟨a, b, ha, hb, rfl⟩ := rm g hg
    exact nameB2 (ci a ha) (ci b hb)
  · intro g hg
    obtain ⟨a, b, ha, hb, rfl⟩ := rm g hg
    refine asciiS fun d hd => ?_
    rcases List.mem_cons.mp hd with rfl | hd
    · exact ci _ ha
    · rw [List.mem_singleton.mp hd]; exact ci b hb
  · exact (rot_perm t _).nodup_iff.mpr (nodup_map (fun a b e => S_inj e) (rowsC_nodup nd))
  · intro g hg c hc
    obtain ⟨a, b, ha, hb, rfl⟩ := rm g hg
    rw [chars_S] at hc
    obtain ⟨d, hd, rfl⟩ := List.mem_map.mp hc
    refine List.mem_map.mpr ⟨d, ?_, rfl⟩
    rcases List.mem_cons.mp hd with rfl | hd
    · exact ha
    · rw [List.mem_singleton.mp hd]; exact hb
/-- the text of the seven letters, and the first once more -/
theorem chars_app (a b : Str) : chars (a ++ b) = chars a ++ chars b := by
  unfold chars
  rw [show (a ++ b).cps.toList = a.cps.toList ++ b.cps.toList from TL.tl_append a b, List.map_append]
theorem chars_join (cs : List Nat) : chars (Txt.join "" (nameC cs)) = nameC cs := by
  have e : ∀ cs : List Nat, TL.joinL [] (cs.map fun c => [c]) = cs := fun cs => by
    induction cs with
    | nil => rfl
    | cons a t ih =>
      cases t with
      | nil => rfl
      | cons b r =>
        show a :: TL.joinL [] ((b :: r).map fun c => [c]) = _
        rw [ih]
  have h : (Txt.join "" (nameC cs)).cps.toList = cs := by
    rw [TL.join_eq]
    refine (TL.tl_join _ _).trans ?_
    show TL.joinL [] ((nameC cs).map TL.tl) = cs
    unfold nameC
    rw [List.map_map]
    refine Eq.trans (congrArg (TL.joinL []) (List.map_congr_left fun c _ => ?_)) (e cs)
    rfl
  unfold chars
  rw [h]
  rfl
/-! ### law -/
/-- a dict written that is not the font's -/
theorem FontAt.putD {C : Addr} {H : Hp} {p a : Addr} {o : Own} {st : FSt} {past : List (List Rec)} {kvs kvs' : List (Key × V)} (F : FontAt C H p o st past) (ha : H a = some (.dK kvs)) (ne : a ≠ o.dA) : FontAt C (upd H a (.dK kvs')) p o st past := by
  obtain ⟨ls, hp, hP, hn⟩ := F.dp
  have up : ∀ {b : Addr} {x : HO}, H b = some x → (∀ k, x ≠ .dK k) → (upd H a (.dK kvs')) b = some x := fun q n => (upd_ne (fun z => by rw [z, ha] at q; exact n _ (Option.some.inj q).symm)).trans q
  exact ⟨up F.ob (fun _ z => by cases z), (upd_ne (Ne.symm ne)).trans F.da, up F.dn (fun _ z => by cases z), ⟨ls, up hp (fun _ z => by cases z), paired_mono (fun _ _ r => r.sm (fun xs q => up q (fun _ z => by cases z)) (fun b xs q => up q (fun _ z => by cases z))) hP, hn⟩, F.small⟩
def NotF (a p : Addr) (o : Own) : Prop := a ≠ p ∧ a ≠ o.dA ∧ a ≠ o.dN ∧ a ≠ o.dP
/-- the law's own things beside the font -/
structure Side (H : Hp) (p : Addr) (o : Own) (l R q dA dN : Addr) (ls rw_ : List Str) (sp : Int) (fa : AdvL) : Prop where
  el : H l = some (.lst (ls.map V.str))
  er : H R = some (.lst (rw_.map V.str))
  eq : H q = some (.lst [.ref dA, .ref dN, .int sp])
  ea : H dA = some (.dK (enc cA fa))
  en : H dN = some (.dK [])
  nl : NotF l p o
  nr : NotF R p o
  nq : NotF q p o
  na : NotF dA p o
  nn : NotF dN p o
  dn : dN ≠ dA
section
variable {H H' : Hp} {p : Addr} {o : Own} {l R q dA dN : Addr} {ls rw_ : List Str} {sp : Int} {fa fa' : AdvL}
theorem Side.keep (S : Side H p o l R q dA dN ls rw_ sp fa) (kf : KeepF p o H H') : Side H' p o l R q dA dN ls rw_ sp fa :=
  ⟨kf _ _ S.el S.nl.1 S.nl.2.1 S.nl.2.2.1 S.nl.2.2.2, kf _ _ S.er S.nr.1 S.nr.2.1 S.nr.2.2.1 S.nr.2.2.2, kf _ _ S.eq S.nq.1 S.nq.2.1 S.nq.2.2.1 S.nq.2.2.2, kf _ _ S.ea S.na.1 S.na.2.1 S.na.2.2.1 S.na.2.2.2, kf _ _ S.en S.nn.1 S.nn.2.1 S.nn.2.2.1 S.nn.2.2.2, S.nl, S.nr, S.nq, S.na, S.nn, S.dn⟩
theorem Side.sm (S : Side H p o l R q dA dN ls rw_ sp fa) (s : Same H H') : Side H' p o l R q dA dN ls rw_ sp fa := S.keep (KeepF.same s)
theorem Side.put (S : Side H p o l R q dA dN ls rw_ sp fa) : Side (upd H dA (.dK (enc cA fa'))) p o l R q dA dN ls rw_ sp fa' := by
  have ne : ∀ {b : Addr} {xs : List V}, H b = some (.lst xs) → b ≠ dA := fun h z => by rw [z, S.ea] at h; cases h
  exact ⟨(upd_ne (ne S.el)).trans S.el, (upd_ne (ne S.er)).trans S.er, (upd_ne (ne S.eq)).trans S.eq, upd_same, (upd_ne S.dn).trans S.en, S.nl, S.nr, S.nq, S.na, S.nn, S.dn⟩
end
theorem rem_ne {past : List (List Rec)} {rs : List Rec} (h : ∀ x ∈ past, x ≠ []) (hr : rs ≠ []) : ∀ x ∈ remember past rs, x ≠ [] := by
  have all : ∀ x ∈ past ++ [rs], x ≠ [] := fun x m => by
    rcases List.mem_append.mp m with m | m
    · exact h x m
    · rw [List.mem_singleton.mp m]; exact hr
  intro x m
  unfold remember at m
  split at m
  · exact all x (List.mem_of_mem_drop m)
  · exact all x m
theorem lens_of {st : FSt} {ns : List Str} (hk : st.adv.map (·.1) = ns) (hn : ∀ g ∈ ns, nameB g = true) : ∀ e ∈ st.adv, e.1.length ≤ 1000 := fun e he => le1000 (hn _ (hk ▸ List.mem_map.mpr ⟨e, he, rfl⟩))
theorem len_of {st : FSt} {ns : List Str} (hk : st.adv.map (·.1) = ns) : st.adv.length = ns.length := by rw [← hk, List.length_map]
theorem a2h : chars "abcdefgh" = (List.range 8).map fun i => SX.S [97 + i] := by decide +kernel
theorem a2h_ok : ∀ g ∈ chars "abcdefgh", g.length = 1 ∧ nameB g = true := by decide +kernel
theorem inV_strs (x : Str) (ls : List Str) : inV (.str x) (ls.map V.str) = decide (x ∈ ls) := by
  unfold inV
  rw [List.any_map]
  induction ls with
  | nil => rfl
  | cons a t ih =>
    rw [List.any_cons, ih]
    show ((a == x) || _) = _
    by_cases e : a = x
    · subst e
      simp
    · have e2 : ¬ x = a := fun z => e z.symm
      simp [e, e2]
theorem flat_strs (ls : List Str) : (ls.map V.str).all flatV = true := by
  rw [List.all_map]
  exact List.all_eq_true.mpr fun _ _ => rfl
theorem passN {X : Cx} : Passes (L2N.CX X.prog X.w) X E0 := fun a b c d e f g h => passL a b c d e f g (cx_n h)
theorem cut_drop {xs : List V} {t : Nat} (h : t ≤ xs.length) : cutV xs (some (t : Int)) none = xs.drop t := by
  unfold cutV
  rw [HT.sIx_nat, HT.sIx_none, Nat.min_eq_left h]
  exact List.take_of_length_le (by rw [List.length_drop]; exact Nat.le_refl _)
theorem cut_take {xs : List V} {t : Nat} (h : t ≤ xs.length) : cutV xs none (some (t : Int)) = xs.take t := by
  unfold cutV
  rw [HT.sIx_nat, HT.sIx_none, Nat.min_eq_left h]
  rfl
structure TxL15 (K : PySem.W.Frag) (mg : Str → Option Value) (fB fT fL fG fM fF : Addr) : Prop where
  bag : At K mg "_law_bag" fB
  take : At K mg "_law_take" fT
  lets : At K mg "_law_letters" fL
  agr : At K mg "_law_agrees" fG
  many : At K mg "_law_too_many" fM
  full : At K mg "_law_full" fF
section
open PySem.Spec PyProof.Rows PySem.W StX
variable {P : Program} {w : World} {K : PySem.W.Frag} {mg : Str → Option Value} {base : Heap} {C CI CU CT fE fW fBt fWr fHas fLen fEU fPl : Addr}
theorem ok_law {f fB fT fL fG fM fF fA fDr fEv fLg pEv pLg : Addr} {fd fdB fdT fdL fdG fdM fdF fdA fdDr fdEv fdLg fdLen fdHas : FuncData} {mc : Value} {ds : List Value} {u1 u6 u40 u50 : Value} {gg : List Value → List Value → List Value}
    (F : Fun K "law" "law" sLaw f fd) (L : TxL15 K mg fB fT fL fG fM fF) (T : TxF K mg C CI fE fW fBt fWr) (U : TxH K mg C fHas fLen CU fEU fPl) (gC : mg "Font" = some (.ref C))
    (mR : mg "range" = none) (mD : mg "dict" = none)
    (GB : FnOk P w K mg base CX0 1 fB fdB ["_law_script"] (spBag K)) (bB : Binds K fdB ["_law_script"] [])
    (GT : FnOk P w K mg base CX0 1 fT fdT ["_law_bag_here", "_law_size"] spTake) (bT : Binds K fdT ["_law_bag_here", "_law_size"] [])
    (GL : FnOk P w K mg base CX0 2 fL fdL ["_law_bag_here", "_law_many"] spLet) (bL : Binds K fdL ["_law_bag_here", "_law_many"] [])
    (GG : FnOk P w K mg base (L2N.CX P w) 5 fG fdG ["_law_font", "_law_face"] (spAgree C)) (bG : Binds K fdG ["_law_font", "_law_face"] [])
    (GM : FnOk P w K mg base CX0 9 fM fdM ["_law_font", "_law_way", "_law_row", "_law_advances"] (spMany C)) (bM : Binds K fdM ["_law_font", "_law_way", "_law_row", "_law_advances"] [])
    (GF : FnOk P w K mg base (L2N.CX P w) 10 fF fdF ["_law_number"] spFull) (bF : Binds K fdF ["_law_number"] [])
    (GA : FnOk P w K mg base (L2N.CX P w) 7 fA fdA ["self", "glyph", "advance"] (spSetA C CT)) (bA : Binds K fdA ["self", "glyph", "advance"] []) (mA : Meth K C "set_advance" fA)
    (GD : FnOk P w K mg base (L2N.CX P w) 5 fDr fdDr ["self", "glyph"] (spDrop C)) (bD : Binds K fdDr ["self", "glyph"] []) (mDr : Meth K C "drop" fDr)
    (GE : FnOk P w K mg base (L2N.CX P w) 9 fEv fdEv ["cls", "letters", "advance", "blank"] (spEven C)) (cr : ClX.CRead K C mc) (cm : ClX.CMet K C mc "even" pEv fEv)
    (hb : KBn K fdEv ["cls", "letters", "advance", "blank"] 3 ["blank"] gg (fun vs zs => vs ++ zs)) (bE : Binds K fdEv ["cls", "letters", "advance", "blank"] ds) (vE : Vals [V.int 250] ds)
    (GLg : FnOk P w K mg base CX0 3 fLg fdLg ["self"] (spLigs C)) (bLg : Binds K fdLg ["self"] []) (hp : PropOf K C "ligatures" pLg fLg)
    (GLn : FnOk P w K mg base CX0 1 fLen fdLen ["self"] (spLen C)) (bLn : Binds K fdLen ["self"] []) (GH : FnOk P w K mg base CX0 1 fHas fdHas ["self", "x"] (spHas K C)) (bH : Binds K fdHas ["self", "x"] [])
    (v1 : ClX.CVal K C mc "MOST_ADVANCE" (.int 1000000) u1) (v6 : ClX.CVal K C mc "MOST_LETTERS" (.int 6) u6) (v40 : ClX.CVal K C mc "MOST_LIGATURES" (.int 40) u40) (v50 : ClX.CVal K C mc "MOST_UNDO" (.int 50) u50) :
    FnOk P w K mg base CX0 11 f fd ["_law_script"] (spLaw K) := by
  refine F.ok scLaw (fun vs H Q E h => ?_) (fun cdv A outer s H vs Q E hr h => ?_)
  · obtain ⟨t, ns, rfl, _⟩ := h
    rfl
  · obtain ⟨sa, ns, rfl, hS, _, k⟩ := h
    have hr1 : Room 1 _ := hr.mono (by decide)
    have hr2 : Room 2 _ := hr.mono (by decide)
    have hr5 : Room 5 _ := hr.mono (by decide)
    have hr7 : Room 7 _ := hr.mono (by decide)
    have hr9 : Room 9 _ := hr.mono (by decide)
    have hu := hu_of hr
    have nd := scLaw.nd
    refine ⟨_, pss_cons (ps_set (i := 1) nd rfl (Or.inl rfl) (pe_call GB hr1 (by rfl) L.bag.g L.bag.k bB .nil pass0 (pa_cons (pv 0) pa_nil)))
      (pss_cons (ps_set (i := 2) nd rfl (Or.inr rfl) (pe_call GL hr2 (by rfl) L.lets.g L.lets.k bL .nil pass0 (pa_cons (pv 1) (pa_cons pe_int pa_nil))))
      (pss_cons (ps_set (i := 3) nd rfl (Or.inl rfl) (pe_call GT hr1 (by rfl) L.take.g L.take.k bT .nil pass0 (pa_cons (pv 1) (pa_cons pe_int pa_nil))))
      (pss_cons (ps_set (i := 4) nd rfl (Or.inl rfl) (pe_call GT hr1 (by rfl) L.take.g L.take.k bT .nil pass0 (pa_cons (pv 1) (pa_cons pe_int pa_nil))))
      (pss_cons (ps_set (i := 5) nd rfl (Or.inl rfl) (pe_call GT hr1 (by rfl) L.take.g L.take.k bT .nil pass0 (pa_cons (pv 1) (pa_cons pe_int pa_nil))))
      (pss_cons (ps_set (i := 6) nd rfl (Or.inl rfl) (pe_lst pa_nil))
      (pss_cons (ps_for PassesOwn.never rfl (pi_list (pv 2)) (pg_name (i := 7) nd rfl (Or.inl rfl)) (pss_one (ps_for PassesOwn.never rfl (pi_list (pv 2)) (pg_name (i := 8) nd rfl (Or.inl rfl))
        (pss_one (ps_expr (pe_bm PySem.F.plainAttrs_list PySem.F.slot_list_append PySem.F.type_list_append mt_append (pv 6) (pa_cons (pe_op op_add_str (pv 7) (pv 8)) pa_nil)))))))
      (pss_cons (ps_set (i := 6) nd rfl (Or.inl rfl) (pe_op op_cat (pe_slice sl_list (pv 6) (po_some (pv 3)) po_none) (pe_slice sl_list (pv 6) po_none (po_some (pv 3)))))
      (pss_cons (ps_set (i := 9) nd rfl (Or.inl rfl) (pe_ix ix_list (pv 6) (pe_call GT hr1 (by rfl) L.take.g L.take.k bT .nil pass0 (pa_cons (pv 1) (pa_cons pe_int pa_nil))) (fun _ _ => rfl)))
      (pss_cons (ps_set (i := 10) nd rfl (Or.inl rfl) (pe_lst (pa_cons pe_dnewK (pa_cons pe_dnewK (pa_cons (pv 5) pa_nil)))))
      (pss_cons (ps_for PassesOwn.never rfl (pi_list (pv 2)) (pg_name (i := 11) nd rfl (Or.inl rfl))
        (pss_one (ps_dput hu (pe_ix ix_list (pv 10) pe_int (fun _ _ => rfl)) (pv 11) (pv 4) (by rfl))))
      (pss_cons (ps_set (i := 12) nd rfl (Or.inl rfl) (pe_cmethK (pe_glob (v := .ref C) (by rfl) gC rfl) cr cm GE hr9 hb passN (pa_cons (pe_op op_add_str (pe_join pe_str (pv 2)) (pe_ix ix_list (pv 2) pe_int (fun _ _ => rfl))) (pa_cons (pv 4) pa_nil)) (pk_cons (pv 5) pk_nil)))
      (pss_cons (ps_if (PW.pt (pw_or (pt_not (pt_val (pe_call GG hr5 (by rfl) L.agr.g L.agr.k bG .nil passN (pa_cons (pv 12) (pa_cons (pv 10) pa_nil)))))
          (pw_or1 (pt_not (pt_val (pe_call GG hr5 (by rfl) L.agr.g L.agr.k bG .nil passN (pa_cons (ClX.pe_cmeth (pe_glob (v := .ref C) (by rfl) gC rfl) cr cm (GE.raw bE vE) hr9 passN (pa_cons (pe_ix ix_list (pv 2) pe_int (fun _ _ => rfl)) (pa_cons pe_int pa_nil)))
            (pa_cons (pe_lst (pa_cons (pe_disp (pps_cons (pe_ix ix_list (pv 2) pe_int (fun _ _ => rfl)) pe_int pps_nil) rfl rfl (by decide) (by decide)) (pa_cons pe_dnewK (pa_cons pe_int pa_nil)))) pa_nil)))))))) (pss_one (ps_ret pe_bl)) pss_nil)
      (pss_cons (ps_for PassesOwn.never rfl (pi_range1 (by rfl) mR (pa_cons pe_int pa_nil)) (pg_name (i := 13) nd rfl (Or.inl rfl))
        (pss_cons (ps_expr (pe_meth (pv 12) T.cl mA GA hr7 bA .nil passN (pa_cons (pe_ix ix_list (pv 6) (pv 13) (fun _ _ => rfl)) (pa_cons (pv 13) pa_nil))))
        (pss_one (ps_dput hu (pe_ix ix_list (pv 10) pe_int (fun _ _ => rfl)) (pe_ix ix_list (pv 6) (pv 13) (fun _ _ => rfl)) (pv 13) (by rfl)))))
      (pss_cons (ps_set (i := 14) nd rfl (Or.inl rfl) (pe_callTy call_dictD (by rfl) mD (by decide +kernel) (pa_cons (pe_ix ix_list (pv 10) pe_int (fun _ _ => rfl)) pa_nil)))
      (pss_cons (ps_dput hu (pv 14) (pe_ix ix_list (pv 6) pe_int (fun _ _ => rfl)) pe_int (by rfl))
      (pss_cons (ps_for PassesOwn.never rfl (pi_range1 (by rfl) mR (pa_cons pe_int pa_nil)) (pg_name (i := 15) nd rfl (Or.inl rfl))
        (pss_one (ps_if (PW.pt (pw_or (pt_not (pt_val (pe_call GM hr9 (by rfl) L.many.g L.many.k bM .nil pass0 (pa_cons (pv 12) (pa_cons (pv 15) (pa_cons (pe_ix ix_list (pv 6) (pe_op op_add pe_int (pv 15)) (fun _ _ => rfl)) (pa_cons (pv 14) pa_nil)))))))
          (pw_or1 (pt_not (pt_val (pe_call GG hr5 (by rfl) L.agr.g L.agr.k bG .nil passN (pa_cons (pv 12) (pa_cons (pv 10) pa_nil)))))))) (pss_one (ps_ret pe_bl)) pss_nil)))
      (pss_cons (ps_expr (pe_meth (pv 12) T.cl mA GA hr7 bA .nil passN (pa_cons (pv 9) (pa_cons pe_int pa_nil))))
      (pss_cons (ps_expr (pe_meth (pv 12) T.cl mA GA hr7 bA .nil passN (pa_cons (pe_ix ix_list (pe_lc (own := [("_law_letter", 11)]) (g := gName 11) (tt := tTest (tOp (rIn K true) (tVar 11) (tVar 2))) (te := tVar 11) rfl nd (pi_str pe_str)
          (blkOk_by (N := ["_law_script", "_law_bag_here", "_law_letters_here", "_law_turn", "_law_number", "_law_space", "_law_rows", "_law_left", "_law_right", "_law_one", "_law_face", "_law_letter", "_law_font", "_law_k", "_law_advances", "_law_way"]) (sc := defScope sLaw) (by decide +kernel))
          (fun _ _ _ _ _ => pg_name (i := 11) nd rfl (Or.inl rfl)) (fun _ _ _ _ _ => pts_one (pt_cmpR op_notIn_seq (pv 11) (pv 2) (by rfl))) (fun _ _ _ _ _ => pv 11)) pe_int (fun _ _ => rfl)) (pa_cons pe_int pa_nil))))
      (pss_cons (ps_expr (pe_meth (pv 12) T.cl mDr GD hr5 bD .nil passN (pa_cons (pv 9) pa_nil)))
      (pss_cons (ps_expr (pe_meth (pv 12) T.cl mA GA hr7 bA .nil passN (pa_cons (pe_ix ix_list (pv 6) pe_int (fun _ _ => rfl)) (pa_cons pe_int pa_nil))))
      (pss_cons (ps_if (PW.pt (pw_or (pt_cmpR op_ne (pe_callB (call_lenO U.hLen U.iLen GLn bLn hr2) (by rfl) T.len PySem.boot_len (pa_cons (pv 12) pa_nil)) pe_int (nomark _))
          (pw_or (pt_cmpR (op_notinO U.hHas U.iHas GH bH hr1) (pe_ix ix_list (pv 6) pe_int (fun _ _ => rfl)) (pv 12) (by rfl))
          (pw_or (pt_cmpR (op_inO U.hHas U.iHas GH bH hr1) (pv 9) (pv 12) (by rfl))
          (pw_or1 (pt_cmpR op_ne (pe_callB call_len_seq (by rfl) T.len PySem.boot_len (pa_cons (pe_prop (pv 12) T.cl hp GLg (hr.mono (by decide)) bLg .nil pass0 rfl) pa_nil)) pe_int (nomark _))))))) (pss_one (ps_ret pe_bl)) pss_nil)
      (pss_cons (ps_if (PW.pt (pw_or (pt_not (pt_val (pe_call GF hr (by rfl) L.full.g L.full.k bF .nil passN (pa_cons (pv 4) pa_nil))))
          (pw_or (pt_cmpR op_ne (ClX.pe_cval (pe_glob (v := .ref C) (by rfl) gC rfl)) pe_int (nomark _)) (pw_or1 (pt_cmpR op_ne (ClX.pe_cval (pe_glob (v := .ref C) (by rfl) gC rfl)) pe_int (nomark _)))))) (pss_one (ps_ret pe_bl)) pss_nil)
      (pss_one (ps_ret (pe_and (pe_cmpR op_eq (ClX.pe_cval (pe_glob (v := .ref C) (by rfl) gC rfl)) pe_int (nomark _)) (pe_one (pe_cmpR op_eq (ClX.pe_cval (pe_glob (v := .ref C) (by rfl) gC rfl)) pe_int (nomark _)))))))))))))))))))))))))))), ?_⟩
    refine ⟨_, rfl, sa, ns, rfl, hS, fun b g H1 B1 _ _ => ?_⟩
    refine ⟨_, rfl, b, g, 7, rfl, by decide, B1, fun x y l H2 hx hy B2 _ nl hl2 => ?_⟩
    refine ⟨_, rfl, b, g, 49, rfl, by decide, by decide, B2, fun t0 H3 ta tb B3 k3 => ?_⟩
    refine ⟨_, rfl, b, g, 1000001, rfl, by decide, by decide, B3, fun n H4 na nb B4 k4 => ?_⟩
    refine ⟨_, rfl, b, g, 1000001, rfl, by decide, by decide, B4, fun sp H5 pa pb B5 k5 => ?_⟩
    have lb : l ≠ b := B1.ne nl
    obtain ⟨t, rfl⟩ : ∃ t : Nat, t0 = (t : Int) := ⟨t0.toNat, by omega⟩
    have ht : t < 49 := by omega
    have hz : (sizeLine : Nat) = 16777216 := sizeLine_eq
    have RW := rows_law hx hy t
    obtain ⟨cs, ecs⟩ : ∃ cs, cs = lettersC x y 7 := ⟨_, rfl⟩
    rw [← ecs] at hl2 RW
    have cl : cs.length = 7 := by rw [ecs, lettersC_len]
    have rl49 : (rowsC cs).length = 49 := by rw [ecs, rows_len]
    have hl5 : H5 l = some (.lst (cs.map chV)) := k5 _ _ (k4 _ _ (k3 _ _ hl2 lb) lb) lb
    refine ⟨by show 0 ≤ sizeLine; decide, fun D hD => ?_⟩
    have Db : D ≠ b := B5.ne hD
    have Dg : D ≠ g := B5.nl hD
    have lD : l ≠ D := fun z => by rw [z, hD] at hl5; cases hl5
    refine ⟨_, rfl, l, rfl, ⟨_, SqL.of ((same_upd hD) _ _ hl5)⟩, ?_⟩
    refine for_list (K := K) (a := l) (xs := cs.map chV) (fun i σ H' => (∃ u v : Option V, σ = [some (.ref sa), some (.ref b), some (.ref l), some (.int (t : Int)), some (.int n), some (.int sp), some (.ref D), u, v, none, none, none, none, none, none, none]) ∧ (∀ c o, H5 c = some o → H' c = some o) ∧ H' D = some (.lst (((cs.take i).flatMap fun l => cs.map fun r => [l, r]).map fun r => V.str (SX.S r))))
      ⟨⟨none, none, rfl⟩, same_upd hD, upd_same⟩ (fun i σ H' _ h => SqL.of (h.2.1 _ _ hl5)) ?_ ?_
    · rintro i v σ H' hv ⟨⟨u, w', rfl⟩, s5, d5⟩
      rw [List.getElem?_map, Option.map_eq_some_iff] at hv
      obtain ⟨ci, hci, rfl⟩ := hv
      have hi : i < 7 := by rw [← cl]; exact (List.getElem?_eq_some_iff.mp hci).1
      refine ⟨_, rfl, l, rfl, ⟨_, SqL.of (s5 _ _ hl5)⟩, ?_⟩
      refine for_list (K := K) (a := l) (xs := cs.map chV) (fun j σ H' => (∃ v : Option V, σ = [some (.ref sa), some (.ref b), some (.ref l), some (.int (t : Int)), some (.int n), some (.int sp), some (.ref D), some (chV ci), v, none, none, none, none, none, none, none]) ∧ (∀ c o, H5 c = some o → H' c = some o) ∧ H' D = some (.lst ((((cs.take i).flatMap fun l => cs.map fun r => [l, r]) ++ (cs.take j).map fun r => [ci, r]).map fun r => V.str (SX.S r))))
        ⟨⟨w', rfl⟩, s5, by rw [List.take_zero, List.map_nil, List.append_nil]; exact d5⟩ (fun i σ H' _ h => SqL.of (h.2.1 _ _ hl5)) ?_ ?_
      · rintro j v σ H' hv ⟨⟨w', rfl⟩, s5, d5⟩
        rw [List.getElem?_map, Option.map_eq_some_iff] at hv
        obtain ⟨cj, hcj, rfl⟩ := hv
        have hj : j < 7 := by rw [← cl]; exact (List.getElem?_eq_some_iff.mp hcj).1
        refine ⟨_, rfl, .inl ⟨rfl, _, SqL.of d5⟩, _, rfl, _, rfl, _, _, rfl, rfl, ?_, D, _, _, rfl, rfl, d5, ?_, ?_⟩
        · show 1 + 1 ≤ sizeLine
          decide
        · rw [List.length_map, List.length_append, List.length_map]
          have h1 : ((cs.take i).flatMap fun l => cs.map fun r => [l, r]).length ≤ 49 := by
            rw [List.length_flatMap]
            simp only [List.length_map, List.map_const', List.sum_replicate_nat, List.length_take, cl]
            omega
          have h2 : (cs.take j).length ≤ 7 := by rw [List.length_take]; omega
          omega
        · refine ⟨⟨_, rfl⟩, fun c o hc => (upd_ne (fresh_of hD hc)).trans (s5 _ _ hc), ?_⟩
          rw [upd_same, List.take_add_one, hcj, List.map_append (l₁ := cs.take j), ← List.append_assoc]
          exact congrArg (fun l => some (HO.lst l)) (List.map_append (f := fun r => V.str (SX.S r)) (l₂ := [[ci, cj]])).symm
      · rintro σ H' ⟨⟨w', rfl⟩, s5, d5⟩
        refine ⟨⟨_, _, rfl⟩, s5, ?_⟩
        rw [d5, List.length_map, List.take_length, List.take_add_one, hci, List.flatMap_append]
        simp
    rintro σ H6 ⟨⟨u, w', rfl⟩, s6, d6⟩
    rw [List.length_map, List.take_length] at d6
    have d6 : H6 D = some (.lst ((rowsC cs).map fun r => V.str (SX.S r))) := d6
    refine ⟨_, rfl, _, rfl, t, rfl, D, _, rfl, SqL.of d6, fun l1 h1 => ⟨_, rfl, _, rfl, t, rfl, D, _, rfl, SqL.of ((same_upd h1) _ _ d6), fun l2 h2 => ⟨l1, l2, _, _, rfl, rfl, (same_upd h2) _ _ upd_same, upd_same, ?_, fun R hR => ?_⟩⟩⟩
    · rw [cut_drop (by rw [List.length_map, rl49]; omega), cut_take (by rw [List.length_map, rl49]; omega), List.length_drop, List.length_take, List.length_map, rl49]
      omega
    obtain ⟨rw_, erw⟩ : ∃ rw_, rw_ = rowN t cs := ⟨_, rfl⟩
    have eR : cutV ((rowsC cs).map fun r => V.str (SX.S r)) (some (t : Int)) none ++ cutV ((rowsC cs).map fun r => V.str (SX.S r)) none (some (t : Int)) = rw_.map V.str := by
      rw [cut_drop (by rw [List.length_map, rl49]; omega), cut_take (by rw [List.length_map, rl49]; omega), erw]
      unfold rowN rot
      rw [List.map_append, List.map_drop, List.map_take, List.map_map]
      rfl
    rw [← erw] at RW
    obtain ⟨H7, e7⟩ : ∃ H7, H7 = upd (upd (upd H6 l1 (.lst (cutV ((rowsC cs).map fun r => V.str (SX.S r)) (some (t : Int)) none))) l2 (.lst (cutV ((rowsC cs).map fun r => V.str (SX.S r)) none (some (t : Int))))) R (.lst (rw_.map V.str)) := ⟨_, rfl⟩
    rw [eR, ← e7]
    have s67 : Same H6 H7 := by
      rw [e7]
      exact ((same_upd h1).trans (same_upd h2)).trans (same_upd hR)
    have R7 : H7 R = some (.lst (rw_.map V.str)) := by rw [e7]; exact upd_same
    have B7 : BagAt H7 b g := (B5.sm fun c o hc => s6 c o hc).sm s67
    have l7 : H7 l = some (.lst (cs.map chV)) := s67 _ _ (s6 _ _ hl5)
    -- the drawn ligature
    refine ⟨_, rfl, _, rfl, b, g, 40, rfl, by decide, by decide, B7, fun d H8 d0 d1 B8 k8 => ?_⟩
    obtain ⟨j1, rfl⟩ : ∃ j1 : Nat, d = (j1 : Int) := ⟨d.toNat, by omega⟩
    have hj1 : j1 < 40 := by omega
    have Rb : R ≠ b := fun z => by
      have := B7
      obtain ⟨_, _, _, _, _, h, _⟩ := this
      rw [← z, R7] at h
      have := congrArg (fun o => match o with | some (HO.lst xs) => xs.length | _ => 0) h
      simp only [List.length_map, RW.rl] at this
      cases this
    have R8 : H8 R = some (.lst (rw_.map V.str)) := k8 _ _ R7 Rb
    have l8 : H8 l = some (.lst (cs.map chV)) := k8 _ _ l7 lb
    have at_ : ∀ j : Nat, j < 49 → ∃ r, rw_[j]? = some r ∧ atI (rw_.map V.str) (j : Int) = some (.str r) := fun j hj => by
      have hjl : j < rw_.length := by rw [RW.rl]; exact hj
      have e : rw_[j]? = some rw_[j] := List.getElem?_eq_getElem hjl
      refine ⟨_, e, atI_nat ?_⟩
      rw [List.getElem?_map, e]
      rfl
    obtain ⟨one, ho, ao⟩ := at_ j1 (by omega)
    refine ⟨R, _, _, _, rfl, rfl, SqL.of R8, ao, ?_⟩
    refine fun dA hA dN hN => ⟨_, rfl, by show 3 ≤ sizeLine; decide, fun q hq => ?_⟩
    obtain ⟨H9, e9⟩ : ∃ H9, H9 = upd (upd (upd H8 dA (.dK [])) dN (.dK [])) q (.lst [.ref dA, .ref dN, .int sp]) := ⟨_, rfl⟩
    have s89 : Same H8 H9 := by
      rw [e9]
      exact ((same_upd hA).trans (same_upd hN)).trans (same_upd hq)
    have q9 : H9 q = some (.lst [.ref dA, .ref dN, .int sp]) := by rw [e9]; exact upd_same
    have A9 : H9 dA = some (.dK []) := by
      rw [e9]
      exact (same_upd hq) _ _ ((same_upd hN) _ _ upd_same)
    have N9 : H9 dN = some (.dK []) := by
      rw [e9]
      exact (same_upd hq) _ _ upd_same
    have qA : q ≠ dA := fun z => by rw [z, A9] at q9; cases q9
    have NA : dN ≠ dA := fun z => by rw [z, upd_same] at hN; cases hN
    have l9 := s89 _ _ l8
    have R9 := s89 _ _ R8
    have lA : l ≠ dA := fun z => by rw [z, A9] at l9; cases l9
    have RA : R ≠ dA := fun z => by rw [z, A9] at R9; cases R9
    obtain ⟨ls, els⟩ : ∃ ls, ls = nameC cs := ⟨_, rfl⟩
    rw [← els] at RW
    have elv : cs.map chV = ls.map V.str := by
      rw [els]
      unfold nameC
      rw [List.map_map]
      rfl
    rw [elv] at l9
    show ∃ a, _
    rw [← e9]
    refine ⟨_, rfl, l, rfl, ⟨_, SqL.of l9⟩, ?_⟩
    refine for_list (K := K) (a := l) (xs := ls.map V.str) (fun i σ H' => (∃ v : Option V, σ = [some (.ref sa), some (.ref b), some (.ref l), some (.int (t : Int)), some (.int n), some (.int sp), some (.ref R), u, w', some (.str one), some (.ref q), v, none, none, none, none]) ∧ (∀ c o, H9 c = some o → c ≠ dA → H' c = some o) ∧ H' dA = some (.dK (enc cA (allN n (ls.take i)))))
      ⟨⟨none, rfl⟩, fun c o hc _ => hc, A9⟩ (fun i σ H' _ h => SqL.of (h.2.1 _ _ l9 lA)) ?_ ?_
    · rintro i v σ H' hv ⟨⟨v', rfl⟩, kp, a9⟩
      rw [List.getElem?_map, Option.map_eq_some_iff] at hv
      obtain ⟨nm, hnm, rfl⟩ := hv
      refine ⟨_, rfl, _, rfl, q, _, 0, _, rfl, rfl, SqL.of (kp _ _ q9 qA), rfl, _, rfl, dA, _, rfl, DPut.k (k := Sum.inr nm) a9 ?_, ?_⟩
      · unfold enc allN
        rw [List.length_map, List.length_map, List.length_take, RW.ll]
        omega
      · refine ⟨⟨_, rfl⟩, fun c o hc ne => (upd_ne ne).trans (kp c o hc ne), ?_⟩
        have e : ls.take (i + 1) = ls.take i ++ [nm] := by
          rw [List.take_add_one, hnm]
          rfl
        have nw : nm ∉ (allN n (ls.take i)).map (·.1) := by
          rw [allN_keys]
          exact not_take RW.nd hnm (Nat.le_refl _)
        rw [upd_same, show (Sum.inr nm : Key) = cA nm from rfl, enc_put cA_inj, lput_new nw, e]
        unfold allN
        rw [List.map_append]
        rfl
    rintro σ H10 ⟨⟨v', rfl⟩, kp10, A10⟩
    rw [List.length_map, List.take_length] at A10
    have q10 := kp10 _ _ q9 qA
    have N10 := kp10 _ _ N9 NA
    have l10 := kp10 _ _ l9 lA
    have R10 := kp10 _ _ R9 RA
    obtain ⟨h0, hh0⟩ : ∃ h0, ls[0]? = some h0 := ⟨_, List.getElem?_eq_getElem (show 0 < ls.length by rw [RW.ll]; decide)⟩
    have a0 : atI (ls.map V.str) 0 = some (.str h0) := atI_nat (j := 0) (by rw [List.getElem?_map, hh0]; rfl)
    have m0 : h0 ∈ ls := List.mem_of_getElem? hh0
    have ch0 : chars h0 = [h0] := by
      rw [els] at m0
      obtain ⟨c, _, rfl⟩ := List.mem_map.mp m0
      rfl
    obtain ⟨z, ez⟩ : ∃ z, z = Txt.join "" ls ++ h0 := ⟨_, rfl⟩
    have hcz : chars z = ls ++ [h0] := by rw [ez, chars_app, ch0, els, chars_join]
    have zl : z.length = 8 := by
      have := congrArg List.length hcz
      rw [List.length_append, RW.ll] at this
      unfold chars at this
      rw [List.length_map, Array.length_toList] at this
      exact this
    have jl : (Txt.join "" ls).length = 7 := by
      have e : chars (Txt.join "" ls) = ls := by rw [els, chars_join]
      have := congrArg List.length e
      rw [RW.ll] at this
      unfold chars at this
      rw [List.length_map, Array.length_toList] at this
      exact this
    have ev : evenA z n = allN n ls := even_all hcz RW.nd fun g hg => by rw [List.mem_singleton.mp hg]; exact m0
    have n1 : n ≤ 1000000 := by omega
    have sp1 : sp ≤ 1000000 := by omega
    have jz : (ls.map (·.length)).sum + ls.length * ("" : Str).length ≤ 16777216 := by
      have e : ls.map (·.length) = List.replicate 7 1 := by
        rw [List.eq_replicate_iff]
        refine ⟨by rw [List.length_map, RW.ll], fun b hb => ?_⟩
        obtain ⟨g, hg, rfl⟩ := List.mem_map.mp hb
        exact RW.l1 g hg
      rw [e, RW.ll]
      decide
    refine ⟨rfl, ⟨_, rfl⟩, _, rfl, "", l, ls, rfl, rfl, .inl (SqL.of l10), jz, _, rfl, l, _, 0, _, rfl, rfl, SqL.of l10, a0, _, _, rfl, rfl, ?_, ?_⟩
    · rw [jl, RW.l1 h0 m0]
      decide
    rw [← ez]
    refine ⟨_, rfl, _, rfl, rfl, rfl, z, n, sp, rfl, by omega, by rw [ev]; exact face_all na n1 pa sp1 RW.nd RW.l1 RW.ln (by rw [RW.ll]; decide), fun H11 p o s11 hp11 ho11 F11 => ?_⟩
    rw [ev, end_all na n1 RW.nd RW.l1 RW.ln (by rw [RW.ll]; decide)] at F11
    have e0 : (⟨allN n (srt ls), [], sp⟩ : FSt) = stL ls rw_ n sp 0 := by
      show _ = FSt.mk (allN n (srt ls) ++ []) [] sp
      rw [List.append_nil]
    rw [e0] at F11
    have e0f : allN n ls = faK ls rw_ n 0 := (List.append_nil _).symm
    rw [e0f] at A10
    have q11 := s11 _ _ q10
    have N11 := s11 _ _ N10
    have l11 := s11 _ _ l10
    have R11 := s11 _ _ R10
    have A11 := s11 _ _ A10
    refine ⟨_, rfl, _, rfl, p, q, dA, dN, o, _, [], _, sp, rfl, F11, ⟨q11, A11, N11⟩, agree_row RW (by decide), fun H12 s12 => ⟨_, rfl, ?_⟩⟩
    refine iteF ?_
    have l12 := s12 _ _ l11
    have m7 : ∀ g ∈ [h0], g ∈ ls := fun g hg => by rw [List.mem_singleton.mp hg]; exact m0
    have nd1 : [h0].Nodup := by simp
    have ev0 : evenA h0 7 = allN 7 [h0] := even_all (more := []) ch0 nd1 (fun g hg => by cases hg)
    refine ⟨rfl, _, rfl, l, _, 0, _, rfl, rfl, SqL.of l12, a0, h0, 7, 250, rfl, by rw [RW.l1 h0 m0]; decide, by rw [ev0]; exact face_all (by decide) (by decide) (by decide) (by decide) nd1 (fun g hg => RW.l1 g (m7 g hg)) (fun g hg => RW.ln g (m7 g hg)) (by show 1 ≤ 1000; decide), fun H13 p2 o2 s13 hp13 _ F13 => ?_⟩
    rw [ev0, end_all (by decide) (by decide) nd1 (fun g hg => RW.l1 g (m7 g hg)) (fun g hg => RW.ln g (m7 g hg)) (by show 1 ≤ 1000; decide)] at F13
    have l13 := s13 _ _ l12
    refine fun d2 hd2 => ⟨_, rfl, l, _, 0, _, rfl, rfl, SqL.of ((same_upd hd2) _ _ l13), a0, upd_same, [(Sum.inr h0, .int 7)], rfl, by show 1 ≤ 15; decide, fun d3 hd3 => ?_⟩
    refine ⟨by show 3 ≤ sizeLine; decide, fun q2 hq2 => ?_⟩
    obtain ⟨H14, e14⟩ : ∃ H14, H14 = upd (upd (upd (upd H13 d2 (.dK [])) d2 (.dK (mergeK [] [(Sum.inr h0, .int 7)]))) d3 (.dK [])) q2 (.lst [.ref d2, .ref d3, .int 250]) := ⟨_, rfl⟩
    have s14 : Same H13 H14 := by
      rw [e14, upd_upd]
      exact ((same_upd hd2).trans (same_upd (by rw [upd_upd] at hd3; exact hd3))).trans (same_upd (by rw [upd_upd] at hq2; exact hq2))
    have q14 : H14 q2 = some (.lst [.ref d2, .ref d3, .int 250]) := by rw [e14]; exact upd_same
    have A14 : H14 d2 = some (.dK (enc cA [(h0, 7)])) := by
      rw [e14]
      exact (same_upd hq2) _ _ ((same_upd hd3) _ _ upd_same)
    have N14 : H14 d3 = some (.dK []) := by
      rw [e14]
      exact (same_upd hq2) _ _ upd_same
    have es : srt [h0] = [h0] := by unfold srt; simp
    rw [es] at F13
    have AG : Agree (⟨allN 7 [h0], [], 250⟩ : FSt) [(h0, 7)] 250 := by
      refine agree_of rfl rfl (List.Perm.refl _) nd1 (fun e he => ?_) (fun e he => ?_)
      · rw [List.mem_singleton.mp he]
        exact RW.ln h0 m0
      · rw [List.mem_singleton.mp he]
        exact RW.la h0 m0
    refine ⟨p2, q2, d2, d3, o2, _, [], [(h0, 7)], 250, rfl, e14 ▸ F13.sm s14, ⟨e14 ▸ q14, e14 ▸ A14, e14 ▸ N14⟩, AG, fun H15 s15 => ⟨_, rfl, ?_⟩⟩
    rw [← e14] at s15
    refine iteF ?_
    have S11 : Side H11 p o l R q dA dN ls rw_ sp (faK ls rw_ n 0) := by
      obtain ⟨lp, hpP, hPP, _⟩ := F11.dp
      cases hPP
      have nf : ∀ {a : Addr} {v : V} {xs : List V}, H11 a = some (.lst (v :: xs)) → H10 a = some (.lst (v :: xs)) → NotF a p o := fun h h10 => ⟨fresh_of hp11 h10, fresh_of ho11 h10, ne_of h F11.dn (by intro z; cases z), ne_of h hpP (by intro z; cases z)⟩
      have nd_ : ∀ {a : Addr} {kvs : List (Key × V)}, H11 a = some (.dK kvs) → H10 a = some (.dK kvs) → NotF a p o := fun h h10 => ⟨fresh_of hp11 h10, fresh_of ho11 h10, ne_of h F11.dn (by intro z; cases z), ne_of h hpP (by intro z; cases z)⟩
      refine ⟨l11, R11, q11, A11, N11, ?_, ?_, nf q11 q10, nd_ A11 A10, nd_ N11 N10, NA⟩
      · cases e : ls with
        | nil => rw [e] at hh0; cases hh0
        | cons a t =>
          rw [e] at l11 l10
          exact nf l11 l10
      · cases e : rw_ with
        | nil => rw [e] at ho; cases ho
        | cons a t =>
          rw [e] at R11 R10
          exact nf R11 R10
    have s1115 : Same H11 H15 := (((s12.trans s13).trans s14).trans s15)
    have S15 := S11.sm s1115
    have F15 := F11.sm s1115
    have hn49 : ∀ {k : Nat}, k ≤ 49 → ∀ e ∈ (stL ls rw_ n sp k).adv, e.1.length ≤ 1000 := fun hk e he => le1000 (short_row RW.srt hk e he)
    refine ⟨40, rfl, by decide, by decide, ?_⟩
    refine for_range (lo := 0) (n := (40 : Int).toNat) (fun i σ H' => (∃ w2 : Option V, σ = [some (.ref sa), some (.ref b), some (.ref l), some (.int (t : Int)), some (.int n), some (.int sp), some (.ref R), u, w', some (.str one), some (.ref q), v', some (.ref p), w2, none, none]) ∧ ∃ past, (∀ rs ∈ past, rs ≠ []) ∧ FontAt C H' p o (stL ls rw_ n sp i) past ∧ Side H' p o l R q dA dN ls rw_ sp (faK ls rw_ n i)) ⟨⟨none, rfl⟩, [], (fun _ h => by cases h), F15, S15⟩ ?_ ?_
    · rintro i σ H' hi ⟨⟨w2, rfl⟩, past, pn, F', S'⟩
      have hi : i < 40 := hi
      rw [Int.zero_add]
      obtain ⟨gi, hgi, ati⟩ := at_ i (by omega)
      have rl := roomless_row RW (n := n) (sp := sp) (k := i) (by omega) hgi (Nat.le_refl _)
      have rl : roomless (stL ls rw_ n sp i) gi = false := by rw [rl]; exact decide_eq_false (by omega)
      have nx := stL_next RW (n := n) (sp := sp) hgi
      have gR : gi ∈ rw_ := List.mem_of_getElem? hgi
      have len_ : (stL ls rw_ n sp (i + 1)).adv.length ≤ 1000 := by
        show (faK (srt ls) rw_ n (i + 1)).length ≤ 1000
        rw [faK_len, srt_len, RW.ll]
        omega
      refine ⟨_, rfl, p, _, _, rfl, F'.ob, fflds_no _ _ (by decide +kernel) (by decide +kernel) (by decide +kernel) (by decide +kernel), _, rfl, _, rfl, R, _, _, _, rfl, rfl, SqL.of S'.er, ati, _, rfl, p, gi, (i : Int), o, _, past, rfl, F', RW.rn gi gR, le1000 (RW.rn gi gR), by omega, by omega, hn49 (k := i) (by omega), .inr (missing_row RW (stL_has RW (k := i) (by omega)) gR), fun z => (by rw [rl] at z; cases z), fun _ => ⟨wide_no rfl, by rw [nx]; exact len_, fun H16 kf F16 => ?_⟩⟩
      rw [nx] at F16
      have S16 := S'.keep kf
      refine ⟨_, rfl, _, rfl, q, _, 0, _, rfl, rfl, SqL.of S16.eq, rfl, _, rfl, _, rfl, R, _, _, _, rfl, rfl, SqL.of S16.er, ati, dA, _, rfl, DPut.k (k := Sum.inr gi) S16.ea ?_, ?_⟩
      · unfold enc
        rw [List.length_map, faK_len, RW.ll]
        omega
      · rw [show (Sum.inr gi : Key) = cA gi from rfl, enc_put cA_inj, faK_next RW hgi]
        exact ⟨⟨_, rfl⟩, _, rem_ne pn (by simp), F16.putD S16.ea S16.na.2.1, S16.put⟩
    rintro σ H17 ⟨⟨w2, rfl⟩, past, pn, F17, S17⟩
    have F17 : FontAt C H17 p o (stL ls rw_ n sp 40) past := F17
    have S17 : Side H17 p o l R q dA dN ls rw_ sp (faK ls rw_ n 40) := S17
    obtain ⟨g40, hg40, at40⟩ := at_ 40 (by decide)
    refine ⟨_, rfl, q, _, 0, _, rfl, rfl, SqL.of S17.eq, rfl, dA, _, rfl, .inl S17.ea, fun dV hdV => ?_⟩
    have S18 := S17.sm (same_upd (o := .dK (enc cA (faK ls rw_ n 40))) hdV)
    refine ⟨_, rfl, _, rfl, R, _, _, _, rfl, rfl, SqL.of S18.er, at40, dV, _, rfl, DPut.k (k := Sum.inr g40) upd_same ?_, ?_⟩
    · unfold enc
      rw [List.length_map, faK_len, RW.ll]
      omega
    obtain ⟨fv, efv⟩ : ∃ fv, fv = lput (faK ls rw_ n 40) g40 5 := ⟨_, rfl⟩
    rw [show (Sum.inr g40 : Key) = cA g40 from rfl, enc_put cA_inj, upd_upd, ← efv]
    obtain ⟨H19, e19⟩ : ∃ H19, H19 = upd H17 dV (.dK (enc cA fv)) := ⟨_, rfl⟩
    rw [← e19]
    have s19 : Same H17 H19 := by rw [e19]; exact same_upd hdV
    have V19 : H19 dV = some (.dK (enc cA fv)) := by rw [e19]; exact upd_same
    have F19 := F17.sm s19
    have S19 := S17.sm s19
    have nV : NotF dV p o := by
      obtain ⟨lp, hpP, _, _⟩ := F17.dp
      exact ⟨fun z => (by rw [z, F17.ob] at hdV; cases hdV), fun z => (by rw [z, F17.da] at hdV; cases hdV), fun z => (by rw [z, F17.dn] at hdV; cases hdV), fun z => (by rw [z, hpP] at hdV; cases hdV)⟩
    have n40 : g40 ∉ (faK ls rw_ n 40).map (·.1) := by
      rw [faK_keys (by rw [RW.rl]; decide)]
      exact row_not RW hg40 (Nat.le_refl _)
    have kv_ : fv.map (·.1) = ls ++ rw_.take 41 := by
      have e41 : rw_.take 41 = rw_.take 40 ++ [g40] := (List.take_add_one (l := rw_) (i := 40)).trans (by rw [hg40]; rfl)
      rw [efv, lput_new n40, List.map_append, faK_keys (by rw [RW.rl]; decide), e41, List.append_assoc]
      rfl
    obtain ⟨gb, BF⟩ := bad_41 RW kv_ fun e he => by
      rw [efv] at he
      rcases lput_mem he with he | rfl
      · rcases List.mem_append.mp he with he | he
        · obtain ⟨g, _, rfl⟩ := List.mem_map.mp he
          exact ⟨na, n1⟩
        · obtain ⟨i, hi, rfl⟩ := List.mem_map.mp he
          have := List.mem_range.mp hi
          show 0 ≤ (i : Int) ∧ (i : Int) ≤ 1000000
          omega
      · exact ⟨by show (0 : Int) ≤ 5; decide, by show (5 : Int) ≤ 1000000; decide⟩
    refine ⟨4, rfl, by decide, by decide, ?_⟩
    refine for_range (lo := 0) (n := (4 : Int).toNat) (fun i σ H' => (∃ w3 : Option V, σ = [some (.ref sa), some (.ref b), some (.ref l), some (.int (t : Int)), some (.int n), some (.int sp), some (.ref R), u, w', some (.str one), some (.ref q), v', some (.ref p), w2, some (.ref dV), w3]) ∧ KeepF p o H19 H' ∧ FontAt C H' p o (stL ls rw_ n sp 40) past) ⟨⟨none, rfl⟩, KeepF.refl, F19⟩ ?_ ?_
    · rintro i σ H' hi ⟨⟨w3, rfl⟩, kf, F'⟩
      have hi : i < 4 := hi
      rw [Int.zero_add]
      obtain ⟨gi, hgi, ati⟩ := at_ (40 + i) (by omega)
      have gR : gi ∈ rw_ := List.mem_of_getElem? hgi
      have rl := roomless_row RW (n := n) (sp := sp) (k := 40) (by decide) hgi (by omega)
      have S' := S19.keep kf
      have V' := kf _ _ V19 nV.1 nV.2.1 nV.2.2.1 nV.2.2.2
      refine ⟨_, rfl, _, rfl, _, rfl, _, rfl, _, _, rfl, rfl, R, _, _, _, rfl, rfl, SqL.of S'.er, ati, _, rfl, p, dV, i, gi, o, _, past, fv, 47, gb, rfl, hi, F', pn, RW.rn gi gR, le1000 (RW.rn gi gR), hn49 (k := 40) (by decide), .inr (missing_row RW (stL_has RW (k := 40) (by decide)) gR), rl, ?_, (by show 0 + 1 ≤ 1000; decide), V', BF, fun H20 kf2 F20 => ⟨_, rfl, ?_⟩⟩
      · show (faK (srt ls) rw_ n 40).length + 1 ≤ 1000
        rw [faK_len, srt_len, RW.ll]
        decide
      refine iteF ?_
      have S20 := S'.keep kf2
      refine ⟨_, rfl, _, rfl, p, q, dA, dN, o, _, past, _, sp, rfl, F20, ⟨S20.eq, S20.ea, S20.en⟩, agree_row RW (by decide), fun H21 s21 => ⟨_, rfl, ?_⟩⟩
      refine iteF ?_
      exact ⟨⟨_, rfl⟩, (kf.trans kf2).trans (KeepF.same s21), F20.sm s21⟩
    rintro σ H20 ⟨⟨w3, rfl⟩, kf20, F20⟩
    have S20 := S19.keep kf20
    obtain ⟨g41, hg41, at41⟩ := at_ 41 (by decide)
    have oR : one ∈ rw_ := List.mem_of_getElem? ho
    have miss41 : ∃ hh, hh ∈ (chars "abcdefgh").filter fun c => !decide (c ∈ ls) := by
      obtain ⟨c, hc, hn⟩ := letters_miss x hx y hy
      obtain ⟨i, hi, rfl⟩ := List.mem_map.mp hc
      refine ⟨SX.S [97 + i], List.mem_filter.mpr ⟨?_, ?_⟩⟩
      · rw [a2h]
        exact List.mem_map.mpr ⟨i, hi, rfl⟩
      · rw [Bool.not_eq_true', decide_eq_false_iff_not, els]
        intro m
        obtain ⟨c2, hc2, e⟩ := List.mem_map.mp m
        have := (List.cons.inj (S_inj e)).1
        exact hn (by rw [← ecs, ← this]; exact hc2)
    obtain ⟨hs, ehs⟩ : ∃ hs, hs = (chars "abcdefgh").filter fun c => !decide (c ∈ ls) := ⟨_, rfl⟩
    rw [← ehs] at miss41
    obtain ⟨hh, tl_, ehh⟩ : ∃ hh tl_, hs = hh :: tl_ := by
      obtain ⟨hh, m⟩ := miss41
      cases e : hs with
      | nil => rw [e] at m; cases m
      | cons a t => exact ⟨a, t, rfl⟩
    have mh := List.mem_filter.mp (show hh ∈ (chars "abcdefgh").filter fun c => !decide (c ∈ ls) by rw [← ehs, ehh]; exact List.mem_cons_self)
    obtain ⟨hh1, hhn⟩ := a2h_ok hh mh.1
    have hhm : hh ∉ ls := of_decide_eq_false (by simpa using mh.2)
    obtain ⟨k1, k2, k3, nd2, in2, n41, ne41⟩ := last_names RW (n := n) (sp := sp) hj1 ho hg41 hh1 hhm
    have cnt := last_count RW (g41 := g41) hj1 ho hh1
    obtain ⟨st1, e1⟩ : ∃ st1, st1 = setA (stL ls rw_ n sp 40) one (some 1000) := ⟨_, rfl⟩
    have kr1 : st1.krn = [] := by rw [e1]; rfl
    have F20 := F20
    obtain ⟨ns0, ens⟩ : ∃ ns0, ns0 = (srt ls ++ rw_.take 40) ++ [hh] := ⟨_, rfl⟩
    have ns0l : ns0.length = 48 := by
      rw [ens, List.length_append, List.length_append, srt_len, RW.ll, List.length_take, RW.rl]
      rfl
    have ns0n : ∀ g ∈ ns0, nameB g = true := fun g hg => by
      rw [ens] at hg
      rcases List.mem_append.mp hg with hg | hg
      · rcases List.mem_append.mp hg with hg | hg
        · exact RW.ln _ (srt_mem.mp hg)
        · exact RW.rn _ (List.mem_of_mem_take hg)
      · rw [List.mem_singleton.mp hg]; exact hhn
    have in1 : one ∈ srt ls ++ rw_.take 40 := by
      rcases List.mem_append.mp in2 with m | m
      · exact m
      · have := RW.r2 one oR
        rw [List.mem_singleton.mp m, hh1] at this
        cases this
    rw [← e1] at k1 k2 k3
    have len1 : st1.adv.length = 47 := by
      rw [len_of k1, List.length_append, srt_len, RW.ll, List.length_take, RW.rl]
      rfl
    have lens1 : ∀ e ∈ st1.adv, e.1.length ≤ 1000 := lens_of k1 fun g hg => ns0n g (by rw [ens]; exact List.mem_append_left _ hg)
    refine ⟨_, rfl, p, _, _, rfl, F20.ob, fflds_no _ _ (by decide +kernel) (by decide +kernel) (by decide +kernel) (by decide +kernel), _, rfl, p, one, 1000, o, _, past, rfl, F20, RW.rn one oR, le1000 (RW.rn one oR), by decide, by decide, hn49 (k := 40) (by decide), .inr (missing_row RW (stL_has RW (k := 40) (by decide)) oR), fun z => ?_, fun _ => ⟨wide_no rfl, by rw [← e1]; omega, fun H21 kf21 F21 => ?_⟩⟩
    · rw [roomless_in (by rw [stL_keys (by rw [RW.rl]; decide)]; exact in1)] at z
      cases z
    rw [← e1] at F21
    have S21 := S20.keep kf21
    have pn21 := rem_ne pn (rs := [.adv one (lget (stL ls rw_ n sp 40).adv one)]) (by simp)
    obtain ⟨past1, ep1⟩ : ∃ past1, past1 = remember past [.adv one (lget (stL ls rw_ n sp 40).adv one)] := ⟨_, rfl⟩
    rw [← ep1] at F21 pn21
    refine ⟨_, rfl, p, _, _, rfl, F21.ob, fflds_no _ _ (by decide +kernel) (by decide +kernel) (by decide +kernel) (by decide +kernel), "abcdefgh", rfl, fun Dl hDl => ?_⟩
    refine lc_it walk_str (fun i H' => (∀ c u, H21 c = some u → H' c = some u) ∧ H' Dl = some (.lst ((((chars "abcdefgh").take i).filter fun c => !decide (c ∈ ls)).map V.str))) ⟨same_upd hDl, upd_same⟩ (fun _ _ _ _ => trivial) ?_ ?_
    · rintro i v H1' H2' hi ⟨sx, hD'⟩ ⟨rfl, c, hc, rfl⟩
      have hch := chars_at hc
      have hi8 : i < 8 := hi
      refine ⟨rfl, _, rfl, _, rfl, l, _, rfl, .inl (SqL.of (sx _ _ S21.el)), rfl, flat_strs ls, _, rfl, ?_⟩
      rw [take_filter _ hch]
      have eb : ∀ b : Bool, (if true = true then !b else b) = !b := fun _ => rfl
      rw [eb, inV_strs]
      refine ite2 (fun hb => ?_) (fun hb => ?_)
      · rw [if_pos hb]
        refine ⟨_, rfl, _, hD', ?_, fun c u hc => (upd_ne (fresh_of hDl hc)).trans (sx _ _ hc), ?_⟩
        · rw [List.length_map]
          have q1 := List.length_filter_le (fun c => !decide (c ∈ ls)) ((chars "abcdefgh").take i)
          have q2 : ((chars "abcdefgh").take i).length ≤ i := by rw [List.length_take]; exact Nat.min_le_left _ _
          omega
        · rw [upd_same, List.map_append]
          rfl
      · rw [if_neg hb, List.append_nil]
        exact ⟨sx, hD'⟩
    rintro H22 ⟨s22, hD22⟩
    rw [List.take_of_length_le (by decide +kernel), ← ehs, ehh] at hD22
    have F22 := F21.sm s22
    have S22 := S21.sm s22
    have rl22 : roomless st1 hh = false := roomless_one (by omega)
    obtain ⟨st2, e2⟩ : ∃ st2, st2 = setA st1 hh (some 3) := ⟨_, rfl⟩
    rw [← e2, ← ens] at k2
    rw [← e2, ← ens] at k3
    have kr2 : st2.krn = [] := by rw [e2]; exact kr1
    have len2 : st2.adv.length = 48 := by rw [len_of k2, ns0l]
    have lens2 : ∀ e ∈ st2.adv, e.1.length ≤ 1000 := lens_of k2 ns0n
    refine ⟨Dl, _, 0, _, rfl, rfl, SqL.of hD22, atI_nat (j := 0) rfl, p, hh, 3, o, _, past1, rfl, F22, hhn, by omega, by decide, by decide, lens1, .inl (by omega), fun z => (by rw [rl22] at z; cases z), fun _ => ⟨wide_no kr1, by rw [← e2]; omega, fun H23 kf23 F23 => ?_⟩⟩
    rw [← e2] at F23
    have S23 := S22.keep kf23
    have pn23 := rem_ne pn21 (rs := [.adv hh (lget st1.adv hh)]) (by simp)
    obtain ⟨past2, ep2⟩ : ∃ past2, past2 = remember past1 [.adv hh (lget st1.adv hh)] := ⟨_, rfl⟩
    rw [← ep2] at F23 pn23
    -- drop
    rw [← ens] at in2 n41 nd2 cnt
    have one2 : 1 < one.length := by rw [RW.r2 one oR]; decide
    obtain ⟨st3, e3⟩ : ∃ st3, st3 = setA st2 one none := ⟨_, rfl⟩
    rw [← e3] at k3
    have kr3 : st3.krn = [] := by rw [e3]; exact kr2
    refine ⟨_, rfl, p, _, _, rfl, F23.ob, fflds_no _ _ (by decide +kernel) (by decide +kernel) (by decide +kernel) (by decide +kernel), _, rfl, p, one, o, _, past2, rfl, F23, pn23, kr2, one2, le1000 (RW.rn one oR), lget_some.mpr (by rw [k2]; exact in2), fun H24 kf24 F24 => ?_⟩
    rw [← e3] at F24
    have S24 := S23.keep kf24
    obtain ⟨past3, ep3⟩ : ∃ past3, past3 = remember past2 [.adv one (lget st2.adv one)] := ⟨_, rfl⟩
    rw [← ep3] at F24
    obtain ⟨ns3, ens3⟩ : ∃ ns3, ns3 = ns0.filter fun x => decide (x ≠ one) := ⟨_, rfl⟩
    rw [← ens3] at k3 cnt
    have ns3l : ns3.length = 47 := by
      have := filter_one nd2 in2
      rw [← ens3] at this
      omega
    have ns3n : ∀ g ∈ ns3, nameB g = true := fun g hg => ns0n g (by rw [ens3] at hg; exact (List.mem_filter.mp hg).1)
    have len3 : st3.adv.length = 47 := by rw [len_of k3, ns3l]
    have lens3 : ∀ e ∈ st3.adv, e.1.length ≤ 1000 := lens_of k3 ns3n
    have g41R : g41 ∈ rw_ := List.mem_of_getElem? hg41
    have n41' : g41 ∉ ns3 := fun m => n41 (by rw [ens3] at m; exact (List.mem_filter.mp m).1)
    have one3 : one ∉ ns3 := fun m => by
      rw [ens3] at m
      exact (of_decide_eq_true (List.mem_filter.mp m).2) rfl
    have rl24 : roomless st3 g41 = false := by
      rw [roomless_by, k3]
      unfold roomN
      rw [cnt, decide_eq_false (show ¬ 40 ≤ 39 by decide), Bool.and_false, Bool.and_false]
    have has3 : ∀ c ∈ ls, c ∈ st3.adv.map (·.1) := fun c hc => by
      rw [k3, ens3, ens]
      refine List.mem_filter.mpr ⟨List.mem_append_left _ (List.mem_append_left _ (srt_mem.mpr hc)), decide_eq_true fun z => ?_⟩
      rw [← z, RW.l1 c hc] at one2
      omega
    obtain ⟨st4, e4⟩ : ∃ st4, st4 = setA st3 g41 (some 5) := ⟨_, rfl⟩
    have k4_ : st4.adv.map (·.1) = ns3 ++ [g41] := by
      rw [e4]
      show (lput st3.adv g41 5).map (·.1) = _
      rw [lput_if, k3, if_neg n41']
    have len4 : st4.adv.length = 48 := by rw [len_of k4_, List.length_append, ns3l]; rfl
    have lens4 : ∀ e ∈ st4.adv, e.1.length ≤ 1000 := lens_of k4_ fun g hg => by
      rcases List.mem_append.mp hg with hg | hg
      · exact ns3n g hg
      · rw [List.mem_singleton.mp hg]; exact RW.rn g41 g41R
    refine ⟨_, rfl, p, _, _, rfl, F24.ob, fflds_no _ _ (by decide +kernel) (by decide +kernel) (by decide +kernel) (by decide +kernel), _, rfl, R, _, _, _, rfl, rfl, SqL.of S24.er, at41, p, g41, 5, o, _, past3, rfl, F24, RW.rn g41 g41R, le1000 (RW.rn g41 g41R), by decide, by decide, lens3, .inr (missing_row RW has3 g41R), fun z => (by rw [rl24] at z; cases z), fun _ => ⟨wide_no kr3, by rw [← e4]; omega, fun H25 kf25 F25 => ?_⟩⟩
    rw [← e4] at F25
    have S25 := S24.keep kf25
    have kn41 : knownV st4 (.str g41) = true := lget_some.mpr (by rw [k4_]; exact List.mem_append_right _ (List.mem_singleton.mpr rfl))
    have kno : knownV st4 (.str one) = false := by
      show (lget st4.adv one).isSome = false
      rw [isSome_by, k4_]
      refine decide_eq_false fun m => ?_
      rcases List.mem_append.mp m with m | m
      · exact one3 m
      · exact ne41 (List.mem_singleton.mp m)
    have lg4 : ((glyphsOf st4).filter fun g => decide ((1 : Int) < (g.length : Int))).length = 40 := by
      have e : (fun g : Str => decide ((1 : Int) < (g.length : Int))) = fun g => decide (1 < g.length) := by
        funext g
        exact decide_eq_decide.mpr (by omega)
      unfold glyphsOf
      rw [k4_, e, ((List.mergeSort_perm (ns3 ++ [g41]) (PySem.W.dataLe false kRank)).filter fun g => decide (1 < g.length)).length_eq, List.filter_append, List.length_append, cnt, filt_two (R := [g41]) (fun g m => by rw [List.mem_singleton.mp m]; exact RW.r2 g41 g41R)]
      rfl
    refine ⟨_, rfl, p, _, _, rfl, F25.ob, p, o, _, _, rfl, F25, _, rfl, by omega, by omega, rfl, _, rfl, ?_⟩
    rw [len4]
    refine iteF ?_
    refine ⟨_, rfl, R, _, _, _, rfl, rfl, SqL.of S25.er, at41, _, rfl, p, _, _, rfl, F25.ob, p, .str g41, true, o, _, _, rfl, F25, Ks.str, IsS.str, _, rfl, _, rfl, ?_⟩
    rw [kn41]
    refine iteF ?_
    refine ⟨_, rfl, _, rfl, p, _, _, rfl, F25.ob, p, .str one, true, o, _, _, rfl, F25, Ks.str, IsS.str, _, rfl, _, rfl, ?_⟩
    rw [kno]
    refine iteF ?_
    refine ⟨_, rfl, p, _, _, rfl, F25.ob, p, o, _, _, rfl, F25, lens4, fun H26 l26 s26 hl26 h26 => ⟨l26, _, rfl, .inl (SqL.of h26), rfl, _, rfl, ?_⟩⟩
    rw [List.length_map, lg4]
    refine iteF ?_
    refine ⟨_, rfl, n, rfl, na, n1, fun H27 s27 => ⟨_, rfl, ?_⟩⟩
    refine iteF ?_
    refine ⟨C, mc, .int 1000000, u1, rfl, cr, v1, rfl, _, rfl, ?_⟩
    refine iteF ?_
    refine ⟨C, mc, .int 6, u6, rfl, cr, v6, rfl, _, rfl, ?_⟩
    refine iteF ?_
    refine ⟨C, mc, .int 40, u40, rfl, cr, v40, rfl, _, rfl, ?_⟩
    refine iteT ?_
    refine ⟨C, mc, .int 50, u50, rfl, cr, v50, rfl, ?_⟩
    exact k _
end
/-! ### what the top has written, and the end -/
theorem all_mk {l : PySem.W.OpenLaw} {w : World} {K : PySem.W.Frag} {h : Heap} {mg : Str → Option Value} {fa : Addr} {fW fIB fBt fWr fPl fPP fNm fE fEU fET fEG fEO fQ fHas fLen fGl fAo fPA fPK fPB fKn fCL fCR fCK fWA fWK fLg fED fRm fSA fSI fSL fSV fUn fTk fDr fID fDo fAp fBk fKr fBla fCh fEv fB fT fL fIn fRk fAg fMa fOn fFu fZ C CF CI CU CT CG CO CD pL pBla pCh pEv KEv DS : Addr} (X : K.In h) (G : h.Ns mainGlobals mg) (hfa : mg "law" = some (.ref fa))
    {odW anW odIB anIB odBt anBt odWr anWr odPl anPl odPP anPP odNm anNm odE anE odEU anEU odET anET odEG anEG odEO anEO odQ anQ odHas anHas odLen anLen odGl anGl odAo anAo odPA anPA odPK anPK odPB anPB odKn anKn odCL anCL odCR anCR odCK anCK odWA anWA odWK anWK odLg anLg odED anED odRm anRm odSA anSA odSI anSI odSL anSL odSV anSV odUns anUns odTk anTk odDr anDr odID anID odDo anDo odAp anAp odBk anBk odKr anKr odBla anBla odCh anCh odEv anEv odB anB odT anT odL anL odIn anIn odRk anRk odAg anAg odMa anMa odOn anOn odFu anFu odZ anZ : Option Addr} {slW slIB slBt slWr slPl slPP slNm slE slEU slET slEG slEO slQ slHas slLen slGl slAo slPA slPK slPB slKn slCL slCR slCK slWA slWK slLg slED slRm slSA slSI slSL slSV slUns slTk slDr slID slDo slAp slBk slKr slBla slCh slEv slB slT slL slIn slRk slAg slMa slOn slFu slZ : Array (Option Value)} {ocW kVW dcW pmW cdW ctW ocIB kVIB dcIB pmIB cdIB ctIB ocBt kVBt dcBt pmBt cdBt ctBt ocWr kVWr dcWr pmWr cdWr ctWr ocPl kVPl dcPl pmPl cdPl ctPl ocPP kVPP dcPP pmPP cdPP ctPP ocNm kVNm dcNm pmNm cdNm ctNm ocE kVE dcE pmE cdE ctE ocEU kVEU dcEU pmEU cdEU ctEU ocET kVET dcET pmET cdET ctET ocEG kVEG dcEG pmEG cdEG ctEG ocEO kVEO dcEO pmEO cdEO ctEO ocQ dcQ pmQ cdQ ctQ ocHas kVHas dcHas pmHas cdHas ctHas ocLen kVLen dcLen pmLen cdLen ctLen ocGl kVGl dcGl pmGl cdGl ctGl ocAo kVAo dcAo pmAo cdAo ctAo ocPA kVPA dcPA pmPA cdPA ctPA ocPK kVPK dcPK pmPK cdPK ctPK ocPB kVPB dcPB pmPB cdPB ctPB ocKn kVKn dcKn pmKn cdKn ctKn ocCL kVCL dcCL pmCL cdCL ctCL ocCR kVCR dcCR pmCR cdCR ctCR ocCK kVCK dcCK pmCK cdCK ctCK ocWA kVWA dcWA pmWA cdWA ctWA ocWK kVWK dcWK pmWK cdWK ctWK ocLg kVLg dcLg pmLg cdLg ctLg ocED kVED dcED pmED cdED ctED ocRm kVRm dcRm pmRm cdRm ctRm ocSA kVSA dcSA pmSA cdSA ctSA ocSI kVSI dcSI pmSI cdSI ctSI ocSL kVSL dcSL pmSL cdSL ctSL ocSV kVSV dcSV pmSV cdSV ctSV ocUns kVUns dcUns pmUns cdUns ctUns ocTk kVTk dcTk pmTk cdTk ctTk ocDr kVDr dcDr pmDr cdDr ctDr ocID kVID dcID pmID cdID ctID ocDo kVDo dcDo pmDo cdDo ctDo ocAp kVAp dcAp pmAp cdAp ctAp ocBk kVBk dcBk pmBk cdBk ctBk ocKr kVKr dcKr pmKr cdKr ctKr ocBla kVBla dcBla pmBla cdBla ctBla ocCh kVCh dcCh pmCh cdCh ctCh ocEv dcEv pmEv cdEv ctEv ocB kVB dcB pmB cdB ctB ocT kVT dcT pmT cdT ctT ocL kVL dcL pmL cdL ctL ocIn kVIn dcIn pmIn cdIn ctIn ocRk kVRk dcRk pmRk cdRk ctRk ocAg kVAg dcAg pmAg cdAg ctAg ocMa kVMa dcMa pmMa cdMa ctMa ocOn kVOn dcOn pmOn cdOn ctOn ocFu kVFu dcFu pmFu cdFu ctFu ocZ kVZ dcZ pmZ cdZ ctZ : Value} {DQ : Addr} {dclQ : Value} {dddQ : Option Addr} {dnnQ : Nat} {dslQ : Array (Option Value)}  {xnmI xqI : Str} {xNI : Addr} {xbsI : List Value} {xsnI : List Str} {xsubI : List Value} {xabI : Bool} {xcolI : Option Bool} {xddI : Option Addr} {xm0I xm1I xm2I xm3I xm5I : Option Value} {xnmU xqU : Str} {xNU : Addr} {xbsU : List Value} {xsnU : List Str} {xsubU : List Value} {xabU : Bool} {xcolU : Option Bool} {xddU : Option Addr} {xm0U xm1U xm2U xm3U xm5U : Option Value} {xnmT xqT : Str} {xNT : Addr} {xbsT : List Value} {xsnT : List Str} {xsubT : List Value} {xabT : Bool} {xcolT : Option Bool} {xddT : Option Addr} {xm0T xm1T xm2T xm3T xm5T : Option Value} {xnmG xqG : Str} {xNG : Addr} {xbsG : List Value} {xsnG : List Str} {xsubG : List Value} {xabG : Bool} {xcolG : Option Bool} {xddG : Option Addr} {xm0G xm1G xm2G xm3G xm5G : Option Value} {xnmO xqO : Str} {xNO : Addr} {xbsO : List Value} {xsnO : List Str} {xsubO : List Value} {xabO : Bool} {xcolO : Option Bool} {xddO : Option Addr} {xm0O xm1O xm2O xm3O xm5O : Option Value} {KQ : Addr} {tKQ tBl tAd tUn tLi t6 : Tok} {restL : List Value} {xnmD xqD : Str} {xND : Addr} {xbsD : List Value} {xsnD : List Str} {xsubD : List Value} {xabD : Bool} {xcolD : Option Bool} {xddD : Option Addr} {xm0D xm1D xm2D xm3D xm5D : Option Value} {restpB restpC restEv : List Value} {tKEv tDa tDb t1 t40 t50 : Tok} {esDS : Array DictEntry} {nDS : Nat}
    (aC : PySem.W.nsIn K mainGlobals "Font" = some (some (.ref C)))
    (aCF : PySem.W.nsIn K mainGlobals "FontError" = some (some (.ref CF)))
    (aCI : PySem.W.nsIn K mainGlobals "InvalidNumber" = some (some (.ref CI)))
    (aCU : PySem.W.nsIn K mainGlobals "UnknownGlyph" = some (some (.ref CU)))
    (aCT : PySem.W.nsIn K mainGlobals "TooMany" = some (some (.ref CT)))
    (aCG : PySem.W.nsIn K mainGlobals "InvalidGlyph" = some (some (.ref CG)))
    (aCO : PySem.W.nsIn K mainGlobals "Overlap" = some (some (.ref CO)))
    (aCD : PySem.W.nsIn K mainGlobals "DeedRefused" = some (some (.ref CD)))
    (aW : PySem.W.nsIn K mainGlobals "is_whole" = some (some (.ref fW)))
    (lW : K.lookup fW = some ⟨ocW, odW, .func (PySem.W.fnOf "is_whole" "is_whole" (defArgs sWhole) (defBody sWhole) (defScope sWhole) .none kVW dcW pmW anW cdW ctW), slW⟩)
    (cW : PySem.W.codeIn K cdW "is_whole" = true)
    (kW : PySem.W.keepIn K (.ref fW) = true)
    (aIB : PySem.W.nsIn K mainGlobals "is_between" = some (some (.ref fIB)))
    (lIB : K.lookup fIB = some ⟨ocIB, odIB, .func (PySem.W.fnOf "is_between" "is_between" (defArgs sIsB) (defBody sIsB) (defScope sIsB) .none kVIB dcIB pmIB anIB cdIB ctIB), slIB⟩)
    (cIB : PySem.W.codeIn K cdIB "is_between" = true)
    (kIB : PySem.W.keepIn K (.ref fIB) = true)
    (aBt : PySem.W.nsIn K mainGlobals "check_between" = some (some (.ref fBt)))
    (lBt : K.lookup fBt = some ⟨ocBt, odBt, .func (PySem.W.fnOf "check_between" "check_between" (defArgs sBetween) (defBody sBetween) (defScope sBetween) .none kVBt dcBt pmBt anBt cdBt ctBt), slBt⟩)
    (cBt : PySem.W.codeIn K cdBt "check_between" = true)
    (kBt : PySem.W.keepIn K (.ref fBt) = true)
    (aWr : PySem.W.nsIn K mainGlobals "write" = some (some (.ref fWr)))
    (lWr : K.lookup fWr = some ⟨ocWr, odWr, .func (PySem.W.fnOf "write" "write" (defArgs sWrite) (defBody sWrite) (defScope sWrite) .none kVWr dcWr pmWr anWr cdWr ctWr), slWr⟩)
    (cWr : PySem.W.codeIn K cdWr "write" = true)
    (kWr : PySem.W.keepIn K (.ref fWr) = true)
    (aPl : PySem.W.nsIn K mainGlobals "font_place" = some (some (.ref fPl)))
    (lPl : K.lookup fPl = some ⟨ocPl, odPl, .func (PySem.W.fnOf "font_place" "font_place" (defArgs sPlace) (defBody sPlace) (defScope sPlace) .none kVPl dcPl pmPl anPl cdPl ctPl), slPl⟩)
    (cPl : PySem.W.codeIn K cdPl "font_place" = true)
    (kPl : PySem.W.keepIn K (.ref fPl) = true)
    (aPP : PySem.W.nsIn K mainGlobals "pair_place" = some (some (.ref fPP)))
    (lPP : K.lookup fPP = some ⟨ocPP, odPP, .func (PySem.W.fnOf "pair_place" "pair_place" (defArgs sPair) (defBody sPair) (defScope sPair) .none kVPP dcPP pmPP anPP cdPP ctPP), slPP⟩)
    (cPP : PySem.W.codeIn K cdPP "pair_place" = true)
    (kPP : PySem.W.keepIn K (.ref fPP) = true)
    (aNm : PySem.W.nsIn K mainGlobals "is_glyph_name" = some (some (.ref fNm)))
    (lNm : K.lookup fNm = some ⟨ocNm, odNm, .func (PySem.W.fnOf "is_glyph_name" "is_glyph_name" (defArgs sName) (defBody sName) (defScope sName) .none kVNm dcNm pmNm anNm cdNm ctNm), slNm⟩)
    (cNm : PySem.W.codeIn K cdNm "is_glyph_name" = true)
    (kNm : PySem.W.keepIn K (.ref fNm) = true)
    (aE : PySem.W.findIn K (.ref CI) "__init__" = some (some (.ref fE)))
    (tE : PySem.W.typeIn K (.ref fE) = some (.type "function"))
    (lE : K.lookup fE = some ⟨ocE, odE, .func (PySem.W.fnOf "__init__" "InvalidNumber.__init__" (defArgs sEI) (defBody sEI) (defScope sEI) .none kVE dcE pmE anE cdE ctE), slE⟩)
    (cE : PySem.W.codeIn K cdE "InvalidNumber.__init__" = true)
    (kE : PySem.W.keepIn K (.ref fE) = true)
    (aEU : PySem.W.findIn K (.ref CU) "__init__" = some (some (.ref fEU)))
    (tEU : PySem.W.typeIn K (.ref fEU) = some (.type "function"))
    (lEU : K.lookup fEU = some ⟨ocEU, odEU, .func (PySem.W.fnOf "__init__" "UnknownGlyph.__init__" (defArgs sEU) (defBody sEU) (defScope sEU) .none kVEU dcEU pmEU anEU cdEU ctEU), slEU⟩)
    (cEU : PySem.W.codeIn K cdEU "UnknownGlyph.__init__" = true)
    (kEU : PySem.W.keepIn K (.ref fEU) = true)
    (aET : PySem.W.findIn K (.ref CT) "__init__" = some (some (.ref fET)))
    (tET : PySem.W.typeIn K (.ref fET) = some (.type "function"))
    (lET : K.lookup fET = some ⟨ocET, odET, .func (PySem.W.fnOf "__init__" "TooMany.__init__" (defArgs sET) (defBody sET) (defScope sET) .none kVET dcET pmET anET cdET ctET), slET⟩)
    (cET : PySem.W.codeIn K cdET "TooMany.__init__" = true)
    (kET : PySem.W.keepIn K (.ref fET) = true)
    (aEG : PySem.W.findIn K (.ref CG) "__init__" = some (some (.ref fEG)))
    (tEG : PySem.W.typeIn K (.ref fEG) = some (.type "function"))
    (lEG : K.lookup fEG = some ⟨ocEG, odEG, .func (PySem.W.fnOf "__init__" "InvalidGlyph.__init__" (defArgs sEG) (defBody sEG) (defScope sEG) .none kVEG dcEG pmEG anEG cdEG ctEG), slEG⟩)
    (cEG : PySem.W.codeIn K cdEG "InvalidGlyph.__init__" = true)
    (kEG : PySem.W.keepIn K (.ref fEG) = true)
    (aEO : PySem.W.findIn K (.ref CO) "__init__" = some (some (.ref fEO)))
    (tEO : PySem.W.typeIn K (.ref fEO) = some (.type "function"))
    (lEO : K.lookup fEO = some ⟨ocEO, odEO, .func (PySem.W.fnOf "__init__" "Overlap.__init__" (defArgs sEO) (defBody sEO) (defScope sEO) .none kVEO dcEO pmEO anEO cdEO ctEO), slEO⟩)
    (cEO : PySem.W.codeIn K cdEO "Overlap.__init__" = true)
    (kEO : PySem.W.keepIn K (.ref fEO) = true)
    (aQ : PySem.W.findIn K (.ref C) "__init__" = some (some (.ref fQ)))
    (iQ : PySem.W.isFn K (.ref fQ) = true)
    (lQ : K.lookup fQ = some ⟨ocQ, odQ, .func (PySem.W.fnOf "__init__" "Font.__init__" (defArgs sInit) (defBody sInit) (defScope sInit) (.ref DQ) (.ref KQ) dcQ pmQ anQ cdQ ctQ), slQ⟩)
    (cQ : PySem.W.codeIn K cdQ "Font.__init__" = true)
    (kQ : PySem.W.keepIn K (.ref fQ) = true)
    (dQ : K.lookup DQ = some ⟨dclQ, dddQ, .seq #[.none] dnnQ, dslQ⟩)
    (aHas : PySem.W.findIn K (.ref C) "__contains__" = some (some (.ref fHas)))
    (iHas : PySem.W.isFn K (.ref fHas) = true)
    (lHas : K.lookup fHas = some ⟨ocHas, odHas, .func (PySem.W.fnOf "__contains__" "Font.__contains__" (defArgs sHas) (defBody sHas) (defScope sHas) .none kVHas dcHas pmHas anHas cdHas ctHas), slHas⟩)
    (cHas : PySem.W.codeIn K cdHas "Font.__contains__" = true)
    (kHas : PySem.W.keepIn K (.ref fHas) = true)
    (aLen : PySem.W.findIn K (.ref C) "__len__" = some (some (.ref fLen)))
    (iLen : PySem.W.isFn K (.ref fLen) = true)
    (lLen : K.lookup fLen = some ⟨ocLen, odLen, .func (PySem.W.fnOf "__len__" "Font.__len__" (defArgs sLen) (defBody sLen) (defScope sLen) .none kVLen dcLen pmLen anLen cdLen ctLen), slLen⟩)
    (cLen : PySem.W.codeIn K cdLen "Font.__len__" = true)
    (kLen : PySem.W.keepIn K (.ref fLen) = true)
    (aGl : PySem.W.findIn K (.ref C) "glyphs" = some (some (.ref fGl)))
    (iGl : PySem.W.isFn K (.ref fGl) = true)
    (lGl : K.lookup fGl = some ⟨ocGl, odGl, .func (PySem.W.fnOf "glyphs" "Font.glyphs" (defArgs sGlyphs) (defBody sGlyphs) (defScope sGlyphs) .none kVGl dcGl pmGl anGl cdGl ctGl), slGl⟩)
    (cGl : PySem.W.codeIn K cdGl "Font.glyphs" = true)
    (kGl : PySem.W.keepIn K (.ref fGl) = true)
    (aAo : PySem.W.findIn K (.ref C) "advance_of" = some (some (.ref fAo)))
    (iAo : PySem.W.isFn K (.ref fAo) = true)
    (lAo : K.lookup fAo = some ⟨ocAo, odAo, .func (PySem.W.fnOf "advance_of" "Font.advance_of" (defArgs sAdvOf) (defBody sAdvOf) (defScope sAdvOf) .none kVAo dcAo pmAo anAo cdAo ctAo), slAo⟩)
    (cAo : PySem.W.codeIn K cdAo "Font.advance_of" = true)
    (kAo : PySem.W.keepIn K (.ref fAo) = true)
    (aPA : PySem.W.findIn K (.ref C) "_put_advance" = some (some (.ref fPA)))
    (iPA : PySem.W.isFn K (.ref fPA) = true)
    (lPA : K.lookup fPA = some ⟨ocPA, odPA, .func (PySem.W.fnOf "_put_advance" "Font._put_advance" (defArgs sPutA) (defBody sPutA) (defScope sPutA) .none kVPA dcPA pmPA anPA cdPA ctPA), slPA⟩)
    (cPA : PySem.W.codeIn K cdPA "Font._put_advance" = true)
    (kPA : PySem.W.keepIn K (.ref fPA) = true)
    (aPK : PySem.W.findIn K (.ref C) "_put_kern" = some (some (.ref fPK)))
    (iPK : PySem.W.isFn K (.ref fPK) = true)
    (lPK : K.lookup fPK = some ⟨ocPK, odPK, .func (PySem.W.fnOf "_put_kern" "Font._put_kern" (defArgs sPutK) (defBody sPutK) (defScope sPutK) .none kVPK dcPK pmPK anPK cdPK ctPK), slPK⟩)
    (cPK : PySem.W.codeIn K cdPK "Font._put_kern" = true)
    (kPK : PySem.W.keepIn K (.ref fPK) = true)
    (aPB : PySem.W.findIn K (.ref C) "_put_blank" = some (some (.ref fPB)))
    (iPB : PySem.W.isFn K (.ref fPB) = true)
    (lPB : K.lookup fPB = some ⟨ocPB, odPB, .func (PySem.W.fnOf "_put_blank" "Font._put_blank" (defArgs sPutB) (defBody sPutB) (defScope sPutB) .none kVPB dcPB pmPB anPB cdPB ctPB), slPB⟩)
    (cPB : PySem.W.codeIn K cdPB "Font._put_blank" = true)
    (kPB : PySem.W.keepIn K (.ref fPB) = true)
    (aKn : PySem.W.findIn K (.ref C) "_check_known" = some (some (.ref fKn)))
    (iKn : PySem.W.isFn K (.ref fKn) = true)
    (lKn : K.lookup fKn = some ⟨ocKn, odKn, .func (PySem.W.fnOf "_check_known" "Font._check_known" (defArgs sKnown) (defBody sKnown) (defScope sKnown) .none kVKn dcKn pmKn anKn cdKn ctKn), slKn⟩)
    (cKn : PySem.W.codeIn K cdKn "Font._check_known" = true)
    (kKn : PySem.W.keepIn K (.ref fKn) = true)
    (aCL : PySem.W.findIn K (.ref C) "_check_letters" = some (some (.ref fCL)))
    (iCL : PySem.W.isFn K (.ref fCL) = true)
    (lCL : K.lookup fCL = some ⟨ocCL, odCL, .func (PySem.W.fnOf "_check_letters" "Font._check_letters" (defArgs sLetters) (defBody sLetters) (defScope sLetters) .none kVCL dcCL pmCL anCL cdCL ctCL), slCL⟩)
    (cCL : PySem.W.codeIn K cdCL "Font._check_letters" = true)
    (kCL : PySem.W.keepIn K (.ref fCL) = true)
    (aCR : PySem.W.findIn K (.ref C) "_check_room" = some (some (.ref fCR)))
    (iCR : PySem.W.isFn K (.ref fCR) = true)
    (lCR : K.lookup fCR = some ⟨ocCR, odCR, .func (PySem.W.fnOf "_check_room" "Font._check_room" (defArgs sRoom) (defBody sRoom) (defScope sRoom) .none kVCR dcCR pmCR anCR cdCR ctCR), slCR⟩)
    (cCR : PySem.W.codeIn K cdCR "Font._check_room" = true)
    (kCR : PySem.W.keepIn K (.ref fCR) = true)
    (aCK : PySem.W.findIn K (.ref C) "_check_kerns" = some (some (.ref fCK)))
    (iCK : PySem.W.isFn K (.ref fCK) = true)
    (lCK : K.lookup fCK = some ⟨ocCK, odCK, .func (PySem.W.fnOf "_check_kerns" "Font._check_kerns" (defArgs sKOk) (defBody sKOk) (defScope sKOk) .none kVCK dcCK pmCK anCK cdCK ctCK), slCK⟩)
    (cCK : PySem.W.codeIn K cdCK "Font._check_kerns" = true)
    (kCK : PySem.W.keepIn K (.ref fCK) = true)
    (aWA : PySem.W.findIn K (.ref C) "_write_advance" = some (some (.ref fWA)))
    (iWA : PySem.W.isFn K (.ref fWA) = true)
    (lWA : K.lookup fWA = some ⟨ocWA, odWA, .func (PySem.W.fnOf "_write_advance" "Font._write_advance" (defArgs sWrA) (defBody sWrA) (defScope sWrA) .none kVWA dcWA pmWA anWA cdWA ctWA), slWA⟩)
    (cWA : PySem.W.codeIn K cdWA "Font._write_advance" = true)
    (kWA : PySem.W.keepIn K (.ref fWA) = true)
    (aWK : PySem.W.findIn K (.ref C) "_write_kern" = some (some (.ref fWK)))
    (iWK : PySem.W.isFn K (.ref fWK) = true)
    (lWK : K.lookup fWK = some ⟨ocWK, odWK, .func (PySem.W.fnOf "_write_kern" "Font._write_kern" (defArgs sWrK) (defBody sWrK) (defScope sWrK) .none kVWK dcWK pmWK anWK cdWK ctWK), slWK⟩)
    (cWK : PySem.W.codeIn K cdWK "Font._write_kern" = true)
    (kWK : PySem.W.keepIn K (.ref fWK) = true)
    (pLa : PySem.W.findIn K (.ref C) "ligatures" = some (some (.ref pL)))
    (pLg : PySem.W.specialIn K (.ref pL) "__get__" = some (some (.builtin "property.__get__")))
    (pLt : PySem.W.takesIn K (.ref pL) = some true)
    (pLr : PySem.W.recIn K pL "property" = some (.ref fLg :: restL))
    (lLg : K.lookup fLg = some ⟨ocLg, odLg, .func (PySem.W.fnOf "ligatures" "Font.ligatures" (defArgs sLigs) (defBody sLigs) (defScope sLigs) .none kVLg dcLg pmLg anLg cdLg ctLg), slLg⟩)
    (cLg : PySem.W.codeIn K cdLg "Font.ligatures" = true)
    (kLg : PySem.W.keepIn K (.ref fLg) = true)
    (aED : PySem.W.findIn K (.ref CD) "__init__" = some (some (.ref fED)))
    (tED : PySem.W.typeIn K (.ref fED) = some (.type "function"))
    (lED : K.lookup fED = some ⟨ocED, odED, .func (PySem.W.fnOf "__init__" "DeedRefused.__init__" (defArgs sED) (defBody sED) (defScope sED) .none kVED dcED pmED anED cdED ctED), slED⟩)
    (cED : PySem.W.codeIn K cdED "DeedRefused.__init__" = true)
    (kED : PySem.W.keepIn K (.ref fED) = true)
    (aRm : PySem.W.findIn K (.ref C) "_remember" = some (some (.ref fRm)))
    (iRm : PySem.W.isFn K (.ref fRm) = true)
    (lRm : K.lookup fRm = some ⟨ocRm, odRm, .func (PySem.W.fnOf "_remember" "Font._remember" (defArgs sRemember) (defBody sRemember) (defScope sRemember) .none kVRm dcRm pmRm anRm cdRm ctRm), slRm⟩)
    (cRm : PySem.W.codeIn K cdRm "Font._remember" = true)
    (kRm : PySem.W.keepIn K (.ref fRm) = true)
    (aSA : PySem.W.findIn K (.ref C) "set_advance" = some (some (.ref fSA)))
    (iSA : PySem.W.isFn K (.ref fSA) = true)
    (lSA : K.lookup fSA = some ⟨ocSA, odSA, .func (PySem.W.fnOf "set_advance" "Font.set_advance" (defArgs sSetA) (defBody sSetA) (defScope sSetA) .none kVSA dcSA pmSA anSA cdSA ctSA), slSA⟩)
    (cSA : PySem.W.codeIn K cdSA "Font.set_advance" = true)
    (kSA : PySem.W.keepIn K (.ref fSA) = true)
    (aSI : PySem.W.findIn K (.ref C) "__setitem__" = some (some (.ref fSI)))
    (iSI : PySem.W.isFn K (.ref fSI) = true)
    (lSI : K.lookup fSI = some ⟨ocSI, odSI, .func (PySem.W.fnOf "__setitem__" "Font.__setitem__" (defArgs sSetI) (defBody sSetI) (defScope sSetI) .none kVSI dcSI pmSI anSI cdSI ctSI), slSI⟩)
    (cSI : PySem.W.codeIn K cdSI "Font.__setitem__" = true)
    (kSI : PySem.W.keepIn K (.ref fSI) = true)
    (aSL : PySem.W.findIn K (.ref C) "_set_all" = some (some (.ref fSL)))
    (iSL : PySem.W.isFn K (.ref fSL) = true)
    (lSL : K.lookup fSL = some ⟨ocSL, odSL, .func (PySem.W.fnOf "_set_all" "Font._set_all" (defArgs sSetAll) (defBody sSetAll) (defScope sSetAll) .none kVSL dcSL pmSL anSL cdSL ctSL), slSL⟩)
    (cSL : PySem.W.codeIn K cdSL "Font._set_all" = true)
    (kSL : PySem.W.keepIn K (.ref fSL) = true)
    (aSV : PySem.W.findIn K (.ref C) "set_advances" = some (some (.ref fSV)))
    (iSV : PySem.W.isFn K (.ref fSV) = true)
    (lSV : K.lookup fSV = some ⟨ocSV, odSV, .func (PySem.W.fnOf "set_advances" "Font.set_advances" (defArgs sSetAdvs) (defBody sSetAdvs) (defScope sSetAdvs) .none kVSV dcSV pmSV anSV cdSV ctSV), slSV⟩)
    (cSV : PySem.W.codeIn K cdSV "Font.set_advances" = true)
    (kSV : PySem.W.keepIn K (.ref fSV) = true)
    (aUns : PySem.W.findIn K (.ref C) "_check_unused" = some (some (.ref fUn)))
    (iUns : PySem.W.isFn K (.ref fUn) = true)
    (lUns : K.lookup fUn = some ⟨ocUns, odUns, .func (PySem.W.fnOf "_check_unused" "Font._check_unused" (defArgs sUnused) (defBody sUnused) (defScope sUnused) .none kVUns dcUns pmUns anUns cdUns ctUns), slUns⟩)
    (cUns : PySem.W.codeIn K cdUns "Font._check_unused" = true)
    (kUns : PySem.W.keepIn K (.ref fUn) = true)
    (aTk : PySem.W.findIn K (.ref C) "_take_out" = some (some (.ref fTk)))
    (iTk : PySem.W.isFn K (.ref fTk) = true)
    (lTk : K.lookup fTk = some ⟨ocTk, odTk, .func (PySem.W.fnOf "_take_out" "Font._take_out" (defArgs sTakeOut) (defBody sTakeOut) (defScope sTakeOut) .none kVTk dcTk pmTk anTk cdTk ctTk), slTk⟩)
    (cTk : PySem.W.codeIn K cdTk "Font._take_out" = true)
    (kTk : PySem.W.keepIn K (.ref fTk) = true)
    (aDr : PySem.W.findIn K (.ref C) "drop" = some (some (.ref fDr)))
    (iDr : PySem.W.isFn K (.ref fDr) = true)
    (lDr : K.lookup fDr = some ⟨ocDr, odDr, .func (PySem.W.fnOf "drop" "Font.drop" (defArgs sDrop) (defBody sDrop) (defScope sDrop) .none kVDr dcDr pmDr anDr cdDr ctDr), slDr⟩)
    (cDr : PySem.W.codeIn K cdDr "Font.drop" = true)
    (kDr : PySem.W.keepIn K (.ref fDr) = true)
    (aID : PySem.W.nsIn K mainGlobals "is_deed" = some (some (.ref fID)))
    (lID : K.lookup fID = some ⟨ocID, odID, .func (PySem.W.fnOf "is_deed" "is_deed" (defArgs sIsDeed) (defBody sIsDeed) (defScope sIsDeed) .none kVID dcID pmID anID cdID ctID), slID⟩)
    (cID : PySem.W.codeIn K cdID "is_deed" = true)
    (kID : PySem.W.keepIn K (.ref fID) = true)
    (aDo : PySem.W.findIn K (.ref C) "_do" = some (some (.ref fDo)))
    (iDo : PySem.W.isFn K (.ref fDo) = true)
    (lDo : K.lookup fDo = some ⟨ocDo, odDo, .func (PySem.W.fnOf "_do" "Font._do" (defArgs sDo) (defBody sDo) (defScope sDo) .none kVDo dcDo pmDo anDo cdDo ctDo), slDo⟩)
    (cDo : PySem.W.codeIn K cdDo "Font._do" = true)
    (kDo : PySem.W.keepIn K (.ref fDo) = true)
    (aAp : PySem.W.findIn K (.ref C) "apply" = some (some (.ref fAp)))
    (iAp : PySem.W.isFn K (.ref fAp) = true)
    (lAp : K.lookup fAp = some ⟨ocAp, odAp, .func (PySem.W.fnOf "apply" "Font.apply" (defArgs sApply) (defBody sApply) (defScope sApply) .none kVAp dcAp pmAp anAp cdAp ctAp), slAp⟩)
    (cAp : PySem.W.codeIn K cdAp "Font.apply" = true)
    (kAp : PySem.W.keepIn K (.ref fAp) = true)
    (aBk : PySem.W.findIn K (.ref C) "_take_back" = some (some (.ref fBk)))
    (iBk : PySem.W.isFn K (.ref fBk) = true)
    (lBk : K.lookup fBk = some ⟨ocBk, odBk, .func (PySem.W.fnOf "_take_back" "Font._take_back" (defArgs sBack) (defBody sBack) (defScope sBack) .none kVBk dcBk pmBk anBk cdBk ctBk), slBk⟩)
    (cBk : PySem.W.codeIn K cdBk "Font._take_back" = true)
    (kBk : PySem.W.keepIn K (.ref fBk) = true)
    (aKr : PySem.W.findIn K (.ref C) "kerns" = some (some (.ref fKr)))
    (iKr : PySem.W.isFn K (.ref fKr) = true)
    (lKr : K.lookup fKr = some ⟨ocKr, odKr, .func (PySem.W.fnOf "kerns" "Font.kerns" (defArgs sKerns) (defBody sKerns) (defScope sKerns) .none kVKr dcKr pmKr anKr cdKr ctKr), slKr⟩)
    (cKr : PySem.W.codeIn K cdKr "Font.kerns" = true)
    (kKr : PySem.W.keepIn K (.ref fKr) = true)
    (pBa : PySem.W.findIn K (.ref C) "blank" = some (some (.ref pBla)))
    (pBg : PySem.W.specialIn K (.ref pBla) "__get__" = some (some (.builtin "property.__get__")))
    (pBt : PySem.W.takesIn K (.ref pBla) = some true)
    (pBr : PySem.W.recIn K pBla "property" = some (.ref fBla :: restpB))
    (lBla : K.lookup fBla = some ⟨ocBla, odBla, .func (PySem.W.fnOf "blank" "Font.blank" (defArgs sBlank) (defBody sBlank) (defScope sBlank) .none kVBla dcBla pmBla anBla cdBla ctBla), slBla⟩)
    (cBla : PySem.W.codeIn K cdBla "Font.blank" = true)
    (kBla : PySem.W.keepIn K (.ref fBla) = true)
    (pCa : PySem.W.findIn K (.ref C) "changes" = some (some (.ref pCh)))
    (pCg : PySem.W.specialIn K (.ref pCh) "__get__" = some (some (.builtin "property.__get__")))
    (pCt : PySem.W.takesIn K (.ref pCh) = some true)
    (pCr : PySem.W.recIn K pCh "property" = some (.ref fCh :: restpC))
    (lCh : K.lookup fCh = some ⟨ocCh, odCh, .func (PySem.W.fnOf "changes" "Font.changes" (defArgs sChanges) (defBody sChanges) (defScope sChanges) .none kVCh dcCh pmCh anCh cdCh ctCh), slCh⟩)
    (cCh : PySem.W.codeIn K cdCh "Font.changes" = true)
    (kCh : PySem.W.keepIn K (.ref fCh) = true)
    (cmA : PySem.W.findCls K (.ref C) (.type "type") "even" = some (.get (.builtin "classmethod.__get__") (.ref pEv) .none (.ref C)))
    (cmR : PySem.W.recIn K pEv "classmethod" = some (.ref fEv :: restEv))
    (cmF : PySem.W.fnIn K fEv = true)
    (lEv : K.lookup fEv = some ⟨ocEv, odEv, .func (PySem.W.fnOf "even" "Font.even" (defArgs sEven) (defBody sEven) (defScope sEven) .none (.ref KEv) dcEv pmEv anEv cdEv ctEv), slEv⟩)
    (cEv : PySem.W.codeIn K cdEv "Font.even" = true)
    (kEv : PySem.W.keepIn K (.ref fEv) = true)
    (aB : PySem.W.nsIn K mainGlobals "_law_bag" = some (some (.ref fB)))
    (lB : K.lookup fB = some ⟨ocB, odB, .func (PySem.W.fnOf "_law_bag" "_law_bag" (defArgs sBag) (defBody sBag) (defScope sBag) .none kVB dcB pmB anB cdB ctB), slB⟩)
    (cB : PySem.W.codeIn K cdB "_law_bag" = true)
    (kB : PySem.W.keepIn K (.ref fB) = true)
    (aT : PySem.W.nsIn K mainGlobals "_law_take" = some (some (.ref fT)))
    (lT : K.lookup fT = some ⟨ocT, odT, .func (PySem.W.fnOf "_law_take" "_law_take" (defArgs sTake) (defBody sTake) (defScope sTake) .none kVT dcT pmT anT cdT ctT), slT⟩)
    (cT : PySem.W.codeIn K cdT "_law_take" = true)
    (kT : PySem.W.keepIn K (.ref fT) = true)
    (aL : PySem.W.nsIn K mainGlobals "_law_letters" = some (some (.ref fL)))
    (lL : K.lookup fL = some ⟨ocL, odL, .func (PySem.W.fnOf "_law_letters" "_law_letters" (defArgs sLet) (defBody sLet) (defScope sLet) .none kVL dcL pmL anL cdL ctL), slL⟩)
    (cL : PySem.W.codeIn K cdL "_law_letters" = true)
    (kL : PySem.W.keepIn K (.ref fL) = true)
    (aIn : PySem.W.nsIn K mainGlobals "_law_int" = some (some (.ref fIn)))
    (lIn : K.lookup fIn = some ⟨ocIn, odIn, .func (PySem.W.fnOf "_law_int" "_law_int" (defArgs sInt) (defBody sInt) (defScope sInt) .none kVIn dcIn pmIn anIn cdIn ctIn), slIn⟩)
    (cIn : PySem.W.codeIn K cdIn "_law_int" = true)
    (kIn : PySem.W.keepIn K (.ref fIn) = true)
    (aRk : PySem.W.nsIn K mainGlobals "_law_rank" = some (some (.ref fRk)))
    (lRk : K.lookup fRk = some ⟨ocRk, odRk, .func (PySem.W.fnOf "_law_rank" "_law_rank" (defArgs sRank) (defBody sRank) (defScope sRank) .none kVRk dcRk pmRk anRk cdRk ctRk), slRk⟩)
    (cRk : PySem.W.codeIn K cdRk "_law_rank" = true)
    (kRk : PySem.W.keepIn K (.ref fRk) = true)
    (aAg : PySem.W.nsIn K mainGlobals "_law_agrees" = some (some (.ref fAg)))
    (lAg : K.lookup fAg = some ⟨ocAg, odAg, .func (PySem.W.fnOf "_law_agrees" "_law_agrees" (defArgs sAgr) (defBody sAgr) (defScope sAgr) .none kVAg dcAg pmAg anAg cdAg ctAg), slAg⟩)
    (cAg : PySem.W.codeIn K cdAg "_law_agrees" = true)
    (kAg : PySem.W.keepIn K (.ref fAg) = true)
    (aMa : PySem.W.nsIn K mainGlobals "_law_too_many" = some (some (.ref fMa)))
    (lMa : K.lookup fMa = some ⟨ocMa, odMa, .func (PySem.W.fnOf "_law_too_many" "_law_too_many" (defArgs sMany) (defBody sMany) (defScope sMany) .none kVMa dcMa pmMa anMa cdMa ctMa), slMa⟩)
    (cMa : PySem.W.codeIn K cdMa "_law_too_many" = true)
    (kMa : PySem.W.keepIn K (.ref fMa) = true)
    (aOn : PySem.W.nsIn K mainGlobals "_law_at_once" = some (some (.ref fOn)))
    (lOn : K.lookup fOn = some ⟨ocOn, odOn, .func (PySem.W.fnOf "_law_at_once" "_law_at_once" (defArgs sOnce) (defBody sOnce) (defScope sOnce) .none kVOn dcOn pmOn anOn cdOn ctOn), slOn⟩)
    (cOn : PySem.W.codeIn K cdOn "_law_at_once" = true)
    (kOn : PySem.W.keepIn K (.ref fOn) = true)
    (aFu : PySem.W.nsIn K mainGlobals "_law_full" = some (some (.ref fFu)))
    (lFu : K.lookup fFu = some ⟨ocFu, odFu, .func (PySem.W.fnOf "_law_full" "_law_full" (defArgs sFull) (defBody sFull) (defScope sFull) .none kVFu dcFu pmFu anFu cdFu ctFu), slFu⟩)
    (cFu : PySem.W.codeIn K cdFu "_law_full" = true)
    (kFu : PySem.W.keepIn K (.ref fFu) = true)
    (aZ : PySem.W.nsIn K mainGlobals "law" = some (some (.ref fZ)))
    (lZ : K.lookup fZ = some ⟨ocZ, odZ, .func (PySem.W.fnOf "law" "law" (defArgs sLaw) (defBody sLaw) (defScope sLaw) .none kVZ dcZ pmZ anZ cdZ ctZ), slZ⟩)
    (cZ : PySem.W.codeIn K cdZ "law" = true)
    (kZ : PySem.W.keepIn K (.ref fZ) = true)
    (xCI : K.lookup CI = some (excClassObj xnmI xqI CI xNI xbsI [.ref CF, .type "ValueError", .type "Exception", .type "BaseException", .type "object"] true xsnI xsubI xabI xcolI xddI xm0I xm1I xm2I xm3I xm5I "ValueError.__new__"))
    (saI : PySem.W.findIn K (.ref CI) "__setattr__" = some (some (.builtin "object.__setattr__")))
    (exI : PySem.W.subIn K (.ref CI) (.type "BaseException") = some true)
    (tyI : PySem.W.typeIn K (.ref CI) = some (.type "type"))
    (kpI : PySem.W.keepIn K (.ref CI) = true)
    (noIvalue : PySem.W.findIn K (.ref CI) "value" = some none)
    (xCU : K.lookup CU = some (excClassObj xnmU xqU CU xNU xbsU [.ref CF, .type "ValueError", .type "Exception", .type "BaseException", .type "object"] true xsnU xsubU xabU xcolU xddU xm0U xm1U xm2U xm3U xm5U "ValueError.__new__"))
    (saU : PySem.W.findIn K (.ref CU) "__setattr__" = some (some (.builtin "object.__setattr__")))
    (exU : PySem.W.subIn K (.ref CU) (.type "BaseException") = some true)
    (tyU : PySem.W.typeIn K (.ref CU) = some (.type "type"))
    (kpU : PySem.W.keepIn K (.ref CU) = true)
    (noUglyph : PySem.W.findIn K (.ref CU) "glyph" = some none)
    (xCT : K.lookup CT = some (excClassObj xnmT xqT CT xNT xbsT [.ref CF, .type "ValueError", .type "Exception", .type "BaseException", .type "object"] true xsnT xsubT xabT xcolT xddT xm0T xm1T xm2T xm3T xm5T "ValueError.__new__"))
    (saT : PySem.W.findIn K (.ref CT) "__setattr__" = some (some (.builtin "object.__setattr__")))
    (exT : PySem.W.subIn K (.ref CT) (.type "BaseException") = some true)
    (tyT : PySem.W.typeIn K (.ref CT) = some (.type "type"))
    (kpT : PySem.W.keepIn K (.ref CT) = true)
    (noTlimit : PySem.W.findIn K (.ref CT) "limit" = some none)
    (xCG : K.lookup CG = some (excClassObj xnmG xqG CG xNG xbsG [.ref CF, .type "ValueError", .type "Exception", .type "BaseException", .type "object"] true xsnG xsubG xabG xcolG xddG xm0G xm1G xm2G xm3G xm5G "ValueError.__new__"))
    (saG : PySem.W.findIn K (.ref CG) "__setattr__" = some (some (.builtin "object.__setattr__")))
    (exG : PySem.W.subIn K (.ref CG) (.type "BaseException") = some true)
    (tyG : PySem.W.typeIn K (.ref CG) = some (.type "type"))
    (kpG : PySem.W.keepIn K (.ref CG) = true)
    (noGglyph : PySem.W.findIn K (.ref CG) "glyph" = some none)
    (xCO : K.lookup CO = some (excClassObj xnmO xqO CO xNO xbsO [.ref CF, .type "ValueError", .type "Exception", .type "BaseException", .type "object"] true xsnO xsubO xabO xcolO xddO xm0O xm1O xm2O xm3O xm5O "ValueError.__new__"))
    (saO : PySem.W.findIn K (.ref CO) "__setattr__" = some (some (.builtin "object.__setattr__")))
    (exO : PySem.W.subIn K (.ref CO) (.type "BaseException") = some true)
    (tyO : PySem.W.typeIn K (.ref CO) = some (.type "type"))
    (kpO : PySem.W.keepIn K (.ref CO) = true)
    (noOleft : PySem.W.findIn K (.ref CO) "left" = some none)
    (noOright : PySem.W.findIn K (.ref CO) "right" = some none)
    (kdQ : PySem.W.nsIn K KQ "blank" = some (some (.int 250 tKQ)))
    (aBl : PySem.W.nsIn K mainGlobals "BLANK" = some (some (.int 250 tBl)))
    (pg : PySem.W.plainGet K C Str.empty = true)
    (hd : PySem.W.hasDictIn K C = true)
    (po : PySem.W.plainOver K C = true)
    (sa : PySem.W.findIn K (.ref C) "__setattr__" = some (some (.builtin "object.__setattr__")))
    (mk : PySem.W.makesIn K C = true)
    (kc : PySem.W.keepIn K (.ref C) = true)
    (nA : PySem.W.findIn K (.ref C) "_advances" = some none)
    (nN : PySem.W.findIn K (.ref C) "_kerns" = some none)
    (nB : PySem.W.findIn K (.ref C) "_blank" = some none)
    (nP : PySem.W.findIn K (.ref C) "_past" = some none)
    (cAd : PySem.W.findIn K (.ref C) "MOST_ADVANCE" = some (some (.int 1000000 tAd)))
    (gAd : PySem.W.specialIn K (.int 1000000 tAd) "__get__" = some none)
    (cUn : PySem.W.findIn K (.ref C) "MOST_UNDO" = some (some (.int 50 tUn)))
    (gUn : PySem.W.specialIn K (.int 50 tUn) "__get__" = some none)
    (cLi : PySem.W.findIn K (.ref C) "MOST_LIGATURES" = some (some (.int 40 tLi)))
    (gLi : PySem.W.specialIn K (.int 40 tLi) "__get__" = some none)
    (crd : PySem.W.readsIn K C (.type "type") = true)
    (cga : PySem.W.specialIn K (.ref C) "__getattribute__" = some (some (.builtin "type.__getattribute__")))
    (c6 : PySem.W.findCls K (.ref C) (.type "type") "MOST_LETTERS" = some (.val (.int 6 t6)))
    (xCD : K.lookup CD = some (excClassObj xnmD xqD CD xND xbsD [.ref CF, .type "ValueError", .type "Exception", .type "BaseException", .type "object"] true xsnD xsubD xabD xcolD xddD xm0D xm1D xm2D xm3D xm5D "ValueError.__new__"))
    (saD : PySem.W.findIn K (.ref CD) "__setattr__" = some (some (.builtin "object.__setattr__")))
    (exD : PySem.W.subIn K (.ref CD) (.type "BaseException") = some true)
    (tyD : PySem.W.typeIn K (.ref CD) = some (.type "type"))
    (kpD : PySem.W.keepIn K (.ref CD) = true)
    (noDindex : PySem.W.findIn K (.ref CD) "index" = some none)
    (egAI : PySem.W.findIn K (.ref CI) "__getattribute__" = some (some (.builtin "BaseException.__getattribute__")))
    (egGI : PySem.W.findIn K (.ref CI) "__getattr__" = some none)
    (ehDI : PySem.W.hasDictIn K CI = true)
    (egAU : PySem.W.findIn K (.ref CU) "__getattribute__" = some (some (.builtin "BaseException.__getattribute__")))
    (egGU : PySem.W.findIn K (.ref CU) "__getattr__" = some none)
    (ehDU : PySem.W.hasDictIn K CU = true)
    (egAT : PySem.W.findIn K (.ref CT) "__getattribute__" = some (some (.builtin "BaseException.__getattribute__")))
    (egGT : PySem.W.findIn K (.ref CT) "__getattr__" = some none)
    (ehDT : PySem.W.hasDictIn K CT = true)
    (egAG : PySem.W.findIn K (.ref CG) "__getattribute__" = some (some (.builtin "BaseException.__getattribute__")))
    (egGG : PySem.W.findIn K (.ref CG) "__getattr__" = some none)
    (ehDG : PySem.W.hasDictIn K CG = true)
    (egAD : PySem.W.findIn K (.ref CD) "__getattribute__" = some (some (.builtin "BaseException.__getattribute__")))
    (egGD : PySem.W.findIn K (.ref CD) "__getattr__" = some none)
    (ehDD : PySem.W.hasDictIn K CD = true)
    (exF : PySem.W.subIn K (.ref CF) (.type "BaseException") = some true)
    (tyF : PySem.W.typeIn K (.ref CF) = some (.type "type"))
    (ehDF : PySem.W.hasDictIn K CF = true)
    (suT_T : PySem.W.subIn K (.ref CT) (.ref CT) = some true)
    (suG_T : PySem.W.subIn K (.ref CG) (.ref CT) = some false)
    (suG_G : PySem.W.subIn K (.ref CG) (.ref CG) = some true)
    (suI_T : PySem.W.subIn K (.ref CI) (.ref CT) = some false)
    (suI_G : PySem.W.subIn K (.ref CI) (.ref CG) = some false)
    (suI_I : PySem.W.subIn K (.ref CI) (.ref CI) = some true)
    (suU_T : PySem.W.subIn K (.ref CU) (.ref CT) = some false)
    (suU_G : PySem.W.subIn K (.ref CU) (.ref CG) = some false)
    (suU_I : PySem.W.subIn K (.ref CU) (.ref CI) = some false)
    (suU_U : PySem.W.subIn K (.ref CU) (.ref CU) = some true)
    (suD_T : PySem.W.subIn K (.ref CD) (.ref CT) = some false)
    (suD_D : PySem.W.subIn K (.ref CD) (.ref CD) = some true)
    (suG_F : PySem.W.subIn K (.ref CG) (.ref CF) = some true)
    (suI_F : PySem.W.subIn K (.ref CI) (.ref CF) = some true)
    (suU_F : PySem.W.subIn K (.ref CU) (.ref CF) = some true)
    (suT_F : PySem.W.subIn K (.ref CT) (.ref CF) = some true)
    (nqC : PySem.W.noSeq K C = true)
    (kdEv : PySem.W.nsIn K KEv "blank" = some (some (.int 250 tKEv)))
    (aDS : PySem.W.nsIn K mainGlobals "DEED_SIZES" = some (some (.ref DS)))
    (lDS : K.lookup DS = some ⟨.type "dict", none, .dict esDS nDS, #[]⟩)
    (kDS : PySem.W.KeysLit w.params esDS.toList)
    (sDS : (DS == sysModules) = false)
    (nDa : PySem.W.nsIn K DS "advance" = some (some (.int 3 tDa)))
    (nDb : PySem.W.nsIn K DS "blank" = some (some (.int 2 tDb)))
    (c1 : PySem.W.findCls K (.ref C) (.type "type") "MOST_ADVANCE" = some (.val (.int 1000000 t1)))
    (c40 : PySem.W.findCls K (.ref C) (.type "type") "MOST_LIGATURES" = some (.val (.int 40 t40)))
    (c50 : PySem.W.findCls K (.ref C) (.type "type") "MOST_UNDO" = some (.val (.int 50 t50)))
    (z_isinstance : PySem.W.nsIn K mainGlobals "isinstance" = some none)
    (z_int : PySem.W.nsIn K mainGlobals "int" = some none)
    (z_bool : PySem.W.nsIn K mainGlobals "bool" = some none)
    (z_len : PySem.W.nsIn K mainGlobals "len" = some none)
    (z_list : PySem.W.nsIn K mainGlobals "list" = some none)
    (z_range : PySem.W.nsIn K mainGlobals "range" = some none)
    (z_sorted : PySem.W.nsIn K mainGlobals "sorted" = some none)
    (z_str : PySem.W.nsIn K mainGlobals "str" = some none)
    (z_dict : PySem.W.nsIn K mainGlobals "dict" = some none)
    (z_tuple : PySem.W.nsIn K mainGlobals "tuple" = some none)
    (z_enumerate : PySem.W.nsIn K mainGlobals "enumerate" = some none) :
    ∃ fd : FuncData, (∀ (s : Shared) (v : Value), BindsTo s fd ⟨[v], []⟩ [("_law_script", v)]) ∧ ∀ base : Heap, K.In base → base.Ns mainGlobals mg → FnOk l.prog w K mg base CX0 11 fa fd ["_law_script"] (spLaw K) := by
  have e := hfa.symm.trans (PySem.W.mg_of X G aZ)
  cases e
  have FW := fun_mk (st := sWhole) lW cW kW
  have bW := FW.binds (ps := ["value"]) fun _ _ _ _ _ _ us hl => match us, hl with | [_], _ => rfl
  have FIB := fun_mk (st := sIsB) lIB cIB kIB
  have bIB := FIB.binds (ps := ["value", "low", "high"]) fun _ _ _ _ _ _ us hl => match us, hl with | [_, _, _], _ => rfl
  have FBt := fun_mk (st := sBetween) lBt cBt kBt
  have bBt := FBt.binds (ps := ["value", "low", "high"]) fun _ _ _ _ _ _ us hl => match us, hl with | [_, _, _], _ => rfl
  have FWr := fun_mk (st := sWrite) lWr cWr kWr
  have bWr := FWr.binds (ps := ["table", "key", "value"]) fun _ _ _ _ _ _ us hl => match us, hl with | [_, _, _], _ => rfl
  have FPl := fun_mk (st := sPlace) lPl cPl kPl
  have bPl := FPl.binds (ps := ["glyph"]) fun _ _ _ _ _ _ us hl => match us, hl with | [_], _ => rfl
  have FPP := fun_mk (st := sPair) lPP cPP kPP
  have bPP := FPP.binds (ps := ["pair"]) fun _ _ _ _ _ _ us hl => match us, hl with | [_], _ => rfl
  have FNm := fun_mk (st := sName) lNm cNm kNm
  have bNm := FNm.binds (ps := ["value"]) fun _ _ _ _ _ _ us hl => match us, hl with | [_], _ => rfl
  have FE := fun_mk (st := sEI) lE cE kE
  have bE := FE.binds (ps := ["self", "value"]) fun _ _ _ _ _ _ us hl => match us, hl with | [_, _], _ => rfl
  have FEU := fun_mk (st := sEU) lEU cEU kEU
  have bEU := FEU.binds (ps := ["self", "glyph"]) fun _ _ _ _ _ _ us hl => match us, hl with | [_, _], _ => rfl
  have FET := fun_mk (st := sET) lET cET kET
  have bET := FET.binds (ps := ["self", "limit"]) fun _ _ _ _ _ _ us hl => match us, hl with | [_, _], _ => rfl
  have FEG := fun_mk (st := sEG) lEG cEG kEG
  have bEG := FEG.binds (ps := ["self", "glyph"]) fun _ _ _ _ _ _ us hl => match us, hl with | [_, _], _ => rfl
  have FEO := fun_mk (st := sEO) lEO cEO kEO
  have bEO := FEO.binds (ps := ["self", "left", "right"]) fun _ _ _ _ _ _ us hl => match us, hl with | [_, _, _], _ => rfl
  have FQ : FunD K "__init__" "Font.__init__" (defArgs sInit) (defBody sInit) (defScope sInit) [.non] [("blank", .int 250)] fQ _ := ⟨⟨ocQ, odQ, _, _, dcQ, pmQ, anQ, cdQ, ctQ, slQ, rfl, lQ, cQ, .inr ⟨by simp, DQ, _, [.none], dnnQ, rfl, dQ, rfl, .cons rfl .nil⟩, .inr ⟨KQ, rfl, fun q hq => by
    rw [List.mem_singleton.mp hq]
    exact ⟨_, kdQ, ⟨tKQ, rfl⟩⟩⟩⟩, kQ⟩
  obtain ⟨dsQ, vQ, bQ⟩ := FQ.binds (ps := ["self", "advances", "kerns", "blank"]) 2 0 (by simp) rfl (fun T D doc pm an cdv ct us its ks h1 h2 h3 => match us, its, ks, h1, h2, h3 with | [_, _], [_], [_], _, _, _ => ⟨_, rfl, ⟨_, _, _, _, _, _, rfl, rfl, rfl⟩⟩) (by simp)
  obtain ⟨_, _, hb2⟩ := FQ.kbinds (ps := ["self", "advances", "kerns", "blank"]) 2 ["blank"] [] (fun us its _ ws => us ++ (its ++ ws)) (by simp) (by simp) (fun q hq => by cases hq) (fun r1 r2 _ r3 => r1.append (r2.append r3)) (fun T D doc pm an cdv ct us its mv ws h1 h2 h3 h4 => match us, its, mv, ws, h1, h2, h3, h4 with | [_, _], [_], [], [_], _, _, _, _ => ⟨_, rfl, rfl⟩)
  obtain ⟨_, _, hb3⟩ := FQ.kbinds (ps := ["self", "advances", "kerns", "blank"]) 3 ["blank"] [] (fun us _ _ ws => us ++ ws) (by simp) (by simp) (fun q hq => by cases hq) (fun r1 _ _ r3 => r1.append r3) (fun T D doc pm an cdv ct us its mv ws h1 h2 h3 h4 => match us, its, mv, ws, h1, h2, h3, h4 with | [_, _, _], [_], [], [_], _, _, _, _ => ⟨_, rfl, rfl⟩)
  obtain ⟨t0, rfl⟩ : ∃ t0, dsQ = [.none, .int 250 t0] := by
    cases vQ with
    | cons r1 r =>
      cases r with
      | cons r2 r =>
        cases r
        cases r1
        obtain ⟨t, rfl⟩ := r2
        exact ⟨t, rfl⟩
  have FHas := fun_mk (st := sHas) lHas cHas kHas
  have bHas := FHas.binds (ps := ["self", "x"]) fun _ _ _ _ _ _ us hl => match us, hl with | [_, _], _ => rfl
  have FLen := fun_mk (st := sLen) lLen cLen kLen
  have bLen := FLen.binds (ps := ["self"]) fun _ _ _ _ _ _ us hl => match us, hl with | [_], _ => rfl
  have FGl := fun_mk (st := sGlyphs) lGl cGl kGl
  have bGl := FGl.binds (ps := ["self"]) fun _ _ _ _ _ _ us hl => match us, hl with | [_], _ => rfl
  have FAo := fun_mk (st := sAdvOf) lAo cAo kAo
  have bAo := FAo.binds (ps := ["self", "glyph"]) fun _ _ _ _ _ _ us hl => match us, hl with | [_, _], _ => rfl
  have FPA := fun_mk (st := sPutA) lPA cPA kPA
  have bPA := FPA.binds (ps := ["self", "glyph", "advance"]) fun _ _ _ _ _ _ us hl => match us, hl with | [_, _, _], _ => rfl
  have FPK := fun_mk (st := sPutK) lPK cPK kPK
  have bPK := FPK.binds (ps := ["self", "left", "right", "kern"]) fun _ _ _ _ _ _ us hl => match us, hl with | [_, _, _, _], _ => rfl
  have FPB := fun_mk (st := sPutB) lPB cPB kPB
  have bPB := FPB.binds (ps := ["self", "advance"]) fun _ _ _ _ _ _ us hl => match us, hl with | [_, _], _ => rfl
  have FKn := fun_mk (st := sKnown) lKn cKn kKn
  have bKn := FKn.binds (ps := ["self", "glyph"]) fun _ _ _ _ _ _ us hl => match us, hl with | [_, _], _ => rfl
  have FCL := fun_mk (st := sLetters) lCL cCL kCL
  have bCL := FCL.binds (ps := ["self", "glyph"]) fun _ _ _ _ _ _ us hl => match us, hl with | [_, _], _ => rfl
  have FCR := fun_mk (st := sRoom) lCR cCR kCR
  have bCR := FCR.binds (ps := ["self", "glyph"]) fun _ _ _ _ _ _ us hl => match us, hl with | [_, _], _ => rfl
  have FCK := fun_mk (st := sKOk) lCK cCK kCK
  have bCK := FCK.binds (ps := ["self", "glyph", "advance"]) fun _ _ _ _ _ _ us hl => match us, hl with | [_, _, _], _ => rfl
  have FWA := fun_mk (st := sWrA) lWA cWA kWA
  have bWA := FWA.binds (ps := ["self", "glyph", "advance"]) fun _ _ _ _ _ _ us hl => match us, hl with | [_, _, _], _ => rfl
  have FWK := fun_mk (st := sWrK) lWK cWK kWK
  have bWK := FWK.binds (ps := ["self", "pair", "kern"]) fun _ _ _ _ _ _ us hl => match us, hl with | [_, _, _], _ => rfl
  have FLg := fun_mk (st := sLigs) lLg cLg kLg
  have bLg := FLg.binds (ps := ["self"]) fun _ _ _ _ _ _ us hl => match us, hl with | [_], _ => rfl
  have FED := fun_mk (st := sED) lED cED kED
  have bED := FED.binds (ps := ["self", "index"]) fun _ _ _ _ _ _ us hl => match us, hl with | [_, _], _ => rfl
  have FRm := fun_mk (st := sRemember) lRm cRm kRm
  have bRm := FRm.binds (ps := ["self", "records"]) fun _ _ _ _ _ _ us hl => match us, hl with | [_, _], _ => rfl
  have FSA := fun_mk (st := sSetA) lSA cSA kSA
  have bSA := FSA.binds (ps := ["self", "glyph", "advance"]) fun _ _ _ _ _ _ us hl => match us, hl with | [_, _, _], _ => rfl
  have FSI := fun_mk (st := sSetI) lSI cSI kSI
  have bSI := FSI.binds (ps := ["self", "at", "worth"]) fun _ _ _ _ _ _ us hl => match us, hl with | [_, _, _], _ => rfl
  have FSL := fun_mk (st := sSetAll) lSL cSL kSL
  have bSL := FSL.binds (ps := ["self", "advances"]) fun _ _ _ _ _ _ us hl => match us, hl with | [_, _], _ => rfl
  have FSV := fun_mk (st := sSetAdvs) lSV cSV kSV
  have FUns := fun_mk (st := sUnused) lUns cUns kUns
  have bUns := FUns.binds (ps := ["self", "glyph"]) fun _ _ _ _ _ _ us hl => match us, hl with | [_, _], _ => rfl
  have FTk := fun_mk (st := sTakeOut) lTk cTk kTk
  have bTk := FTk.binds (ps := ["self", "glyph"]) fun _ _ _ _ _ _ us hl => match us, hl with | [_, _], _ => rfl
  have FDr := fun_mk (st := sDrop) lDr cDr kDr
  have bDr := FDr.binds (ps := ["self", "glyph"]) fun _ _ _ _ _ _ us hl => match us, hl with | [_, _], _ => rfl
  have FID := fun_mk (st := sIsDeed) lID cID kID
  have bID := FID.binds (ps := ["value"]) fun _ _ _ _ _ _ us hl => match us, hl with | [_], _ => rfl
  have FDo := fun_mk (st := sDo) lDo cDo kDo
  have bDo := FDo.binds (ps := ["self", "deed"]) fun _ _ _ _ _ _ us hl => match us, hl with | [_, _], _ => rfl
  have FAp := fun_mk (st := sApply) lAp cAp kAp
  have bAp := FAp.binds (ps := ["self", "deeds"]) fun _ _ _ _ _ _ us hl => match us, hl with | [_, _], _ => rfl
  have FBk := fun_mk (st := sBack) lBk cBk kBk
  have bBk := FBk.binds (ps := ["self", "records"]) fun _ _ _ _ _ _ us hl => match us, hl with | [_, _], _ => rfl
  have FKr := fun_mk (st := sKerns) lKr cKr kKr
  have bKr := FKr.binds (ps := ["self"]) fun _ _ _ _ _ _ us hl => match us, hl with | [_], _ => rfl
  have FBla := fun_mk (st := sBlank) lBla cBla kBla
  have bBla := FBla.binds (ps := ["self"]) fun _ _ _ _ _ _ us hl => match us, hl with | [_], _ => rfl
  have FCh := fun_mk (st := sChanges) lCh cCh kCh
  have bCh := FCh.binds (ps := ["self"]) fun _ _ _ _ _ _ us hl => match us, hl with | [_], _ => rfl
  have FEv : FunD K "even" "Font.even" (defArgs sEven) (defBody sEven) (defScope sEven) [] [("blank", .int 250)] fEv _ := ⟨⟨ocEv, odEv, _, _, dcEv, pmEv, anEv, cdEv, ctEv, slEv, rfl, lEv, cEv, .inl ⟨rfl, rfl⟩, .inr ⟨KEv, rfl, fun q hq => by
    rw [List.mem_singleton.mp hq]
    exact ⟨_, kdEv, ⟨tKEv, rfl⟩⟩⟩⟩, kEv⟩
  obtain ⟨dsEv, vEv, bEv⟩ := FEv.binds0 (ps := ["cls", "letters", "advance", "blank"]) 3 (by simp) rfl (fun D doc pm an cdv ct us ks h1 h2 => match us, ks, h1, h2 with | [_, _, _], [_], _, _ => ⟨_, _, _, _, _, _, rfl, rfl, rfl⟩)
  obtain ⟨_, hbE⟩ := FEv.kbinds0 (ps := ["cls", "letters", "advance", "blank"]) 3 ["blank"] [] (fun us _ ws => us ++ ws) (by simp) (fun q hq => by cases hq) (fun r1 _ r3 => r1.append r3) (fun D doc pm an cdv ct us mv ws h1 h2 h3 => match us, mv, ws, h1, h2, h3 with | [_, _, _], [], [_], _, _, _ => rfl)
  have FB := fun_mk (st := sBag) lB cB kB
  have bB := FB.binds (ps := ["_law_script"]) fun _ _ _ _ _ _ us hl => match us, hl with | [_], _ => rfl
  have FT := fun_mk (st := sTake) lT cT kT
  have bT := FT.binds (ps := ["_law_bag_here", "_law_size"]) fun _ _ _ _ _ _ us hl => match us, hl with | [_, _], _ => rfl
  have FL := fun_mk (st := sLet) lL cL kL
  have bL := FL.binds (ps := ["_law_bag_here", "_law_many"]) fun _ _ _ _ _ _ us hl => match us, hl with | [_, _], _ => rfl
  have FIn := fun_mk (st := sInt) lIn cIn kIn
  have bIn := FIn.binds (ps := ["_law_actual"]) fun _ _ _ _ _ _ us hl => match us, hl with | [_], _ => rfl
  have FRk := fun_mk (st := sRank) lRk cRk kRk
  have bRk := FRk.binds (ps := ["_law_glyph"]) fun _ _ _ _ _ _ us hl => match us, hl with | [_], _ => rfl
  have FAg := fun_mk (st := sAgr) lAg cAg kAg
  have bAg := FAg.binds (ps := ["_law_font", "_law_face"]) fun _ _ _ _ _ _ us hl => match us, hl with | [_, _], _ => rfl
  have FMa := fun_mk (st := sMany) lMa cMa kMa
  have bMa := FMa.binds (ps := ["_law_font", "_law_way", "_law_row", "_law_advances"]) fun _ _ _ _ _ _ us hl => match us, hl with | [_, _, _, _], _ => rfl
  have FOn := fun_mk (st := sOnce) lOn cOn kOn
  have bOn := FOn.binds (ps := ["_law_font", "_law_way"]) fun _ _ _ _ _ _ us hl => match us, hl with | [_, _], _ => rfl
  have FFu := fun_mk (st := sFull) lFu cFu kFu
  have bFu := FFu.binds (ps := ["_law_number"]) fun _ _ _ _ _ _ us hl => match us, hl with | [_], _ => rfl
  have FZ := fun_mk (st := sLaw) lZ cZ kZ
  have TOI : OexC K CI := ⟨⟨xnmI, xqI, xNI, xbsI, _, xsnI, xsubI, xabI, xcolI, xddI, xm0I, xm1I, xm2I, xm3I, xm5I, xCI, (by show PySem.HandSPX.refsVE [.type "ValueError", .type "Exception", .type "BaseException", .type "object"] = true; decide +kernel)⟩, saI, exI, tyI, kpI⟩
  have REI : ErrC K mg "InvalidNumber" CI fE := ⟨PySem.W.mg_of X G aCI, TOI, aE, tE⟩
  have TOU : OexC K CU := ⟨⟨xnmU, xqU, xNU, xbsU, _, xsnU, xsubU, xabU, xcolU, xddU, xm0U, xm1U, xm2U, xm3U, xm5U, xCU, (by show PySem.HandSPX.refsVE [.type "ValueError", .type "Exception", .type "BaseException", .type "object"] = true; decide +kernel)⟩, saU, exU, tyU, kpU⟩
  have REU : ErrC K mg "UnknownGlyph" CU fEU := ⟨PySem.W.mg_of X G aCU, TOU, aEU, tEU⟩
  have TOT : OexC K CT := ⟨⟨xnmT, xqT, xNT, xbsT, _, xsnT, xsubT, xabT, xcolT, xddT, xm0T, xm1T, xm2T, xm3T, xm5T, xCT, (by show PySem.HandSPX.refsVE [.type "ValueError", .type "Exception", .type "BaseException", .type "object"] = true; decide +kernel)⟩, saT, exT, tyT, kpT⟩
  have RET : ErrC K mg "TooMany" CT fET := ⟨PySem.W.mg_of X G aCT, TOT, aET, tET⟩
  have TOG : OexC K CG := ⟨⟨xnmG, xqG, xNG, xbsG, _, xsnG, xsubG, xabG, xcolG, xddG, xm0G, xm1G, xm2G, xm3G, xm5G, xCG, (by show PySem.HandSPX.refsVE [.type "ValueError", .type "Exception", .type "BaseException", .type "object"] = true; decide +kernel)⟩, saG, exG, tyG, kpG⟩
  have REG : ErrC K mg "InvalidGlyph" CG fEG := ⟨PySem.W.mg_of X G aCG, TOG, aEG, tEG⟩
  have TOO : OexC K CO := ⟨⟨xnmO, xqO, xNO, xbsO, _, xsnO, xsubO, xabO, xcolO, xddO, xm0O, xm1O, xm2O, xm3O, xm5O, xCO, (by show PySem.HandSPX.refsVE [.type "ValueError", .type "Exception", .type "BaseException", .type "object"] = true; decide +kernel)⟩, saO, exO, tyO, kpO⟩
  have REO : ErrC K mg "Overlap" CO fEO := ⟨PySem.W.mg_of X G aCO, TOO, aEO, tEO⟩
  have mz : ∀ {x : Str}, PySem.W.nsIn K mainGlobals x = some none → mg x = none := fun z => PySem.W.mg_none_of X G z
  have CC : Cls K C := ⟨pg, hd, po, sa⟩
  have TF : TxF K mg C CI fE fW fBt fWr := ⟨CC, nA, nN, nB, nP, ⟨_, cAd, ⟨tAd, rfl⟩, gAd, by decide +kernel⟩, ⟨_, cUn, ⟨tUn, rfl⟩, gUn, by decide +kernel⟩, REI, ⟨PySem.W.mg_of X G aW, kW⟩, ⟨PySem.W.mg_of X G aBt, kBt⟩, ⟨PySem.W.mg_of X G aWr, kWr⟩, mz z_len⟩
  have TH : TxH K mg C fHas fLen CU fEU fPl := ⟨aHas, iHas, aLen, iLen, REU, mz z_isinstance, mz z_str, mz z_list, mz z_sorted, PySem.W.mg_of X G aPl⟩
  have FC : FontC K mg C (.type "type") := ⟨PySem.W.mg_of X G aC, ⟨crd, cga⟩, ⟨_, c6, ⟨t6, rfl⟩⟩⟩
  have hML : ∃ u, Con K C "MOST_LIGATURES" (.int 40) u := ⟨_, cLi, ⟨tLi, rfl⟩, gLi, by decide +kernel⟩
  have PLg : PropOf K C "ligatures" pL fLg := ⟨pLa, pLg, pLt, ⟨_, pLr⟩⟩
  have MQ : Mk K C fQ := ⟨mk, aQ, iQ, kc⟩
  have TOD : OexC K CD := ⟨⟨xnmD, xqD, xND, xbsD, _, xsnD, xsubD, xabD, xcolD, xddD, xm0D, xm1D, xm2D, xm3D, xm5D, xCD, (by show PySem.HandSPX.refsVE [.type "ValueError", .type "Exception", .type "BaseException", .type "object"] = true; decide +kernel)⟩, saD, exD, tyD, kpD⟩
  have RED : ErrC K mg "DeedRefused" CD fED := ⟨PySem.W.mg_of X G aCD, TOD, aED, tED⟩
  have XFI : XfC K CI := ⟨egAI, egGI, exI, ehDI⟩
  have XFU : XfC K CU := ⟨egAU, egGU, exU, ehDU⟩
  have XFT : XfC K CT := ⟨egAT, egGT, exT, ehDT⟩
  have XFG : XfC K CG := ⟨egAG, egGG, exG, ehDG⟩
  have XFD : XfC K CD := ⟨egAD, egGD, exD, ehDD⟩
  have PBl : PropOf K C "blank" pBla fBla := ⟨pBa, pBg, pBt, ⟨_, pBr⟩⟩
  have PCh : PropOf K C "changes" pCh fCh := ⟨pCa, pCg, pCt, ⟨_, pCr⟩⟩
  have SZ : SizesOk K w mg DS := ⟨PySem.W.mg_of X G aDS, ⟨_, _, lDS, kDS, sDS⟩, ⟨_, nDa⟩, ⟨_, nDb⟩⟩
  have XS : ∀ Ce ∈ [CG, CI, CU, CT], PySem.W.exmOne K (.ref Ce) (.ref CF) = some true := fun Ce h => by
    simp only [List.mem_cons, List.not_mem_nil, or_false] at h
    rcases h with rfl | rfl | rfl | rfl
    · exact (PySem.W.exm_ref exF ehDF tyF suG_F)
    · exact (PySem.W.exm_ref exF ehDF tyF suI_F)
    · exact (PySem.W.exm_ref exF ehDF tyF suU_F)
    · exact (PySem.W.exm_ref exF ehDF tyF suT_F)
  have TL : TxL15 K mg fB fT fL fAg fMa fFu := ⟨⟨PySem.W.mg_of X G aB, kB⟩, ⟨PySem.W.mg_of X G aT, kT⟩, ⟨PySem.W.mg_of X G aL, kL⟩, ⟨PySem.W.mg_of X G aAg, kAg⟩, ⟨PySem.W.mg_of X G aMa, kMa⟩, ⟨PySem.W.mg_of X G aFu, kFu⟩⟩
  exact ⟨PySem.W.fnOf "law" "law" (defArgs sLaw) (defBody sLaw) (defScope sLaw) .none kVZ dcZ pmZ anZ cdZ ctZ, fun s v => .of_eq rfl, fun base _ _ => by
    have GW : FnOk l.prog w K mg base CX0 1 fW _ ["value"] (spWhole K) := ok_whole FW (mz z_isinstance) (mz z_int) (mz z_bool)
    have GE : FnOk l.prog w K mg base CX0 1 fE _ ["self", "value"] (spEx1 CI "value") := ok_ei FE TOI noIvalue
    have GEU : FnOk l.prog w K mg base CX0 1 fEU _ ["self", "glyph"] (spEx1 CU "glyph") := ok_eu FEU TOU noUglyph
    have GET : FnOk l.prog w K mg base CX0 1 fET _ ["self", "limit"] (spEx1 CT "limit") := ok_et FET TOT noTlimit
    have GEG : FnOk l.prog w K mg base CX0 1 fEG _ ["self", "glyph"] (spEx1 CG "glyph") := ok_eg FEG TOG noGglyph
    have GEO : FnOk l.prog w K mg base CX0 1 fEO _ ["self", "left", "right"] (spEx2 CO "left" "right") := ok_eo FEO TOO noOleft noOright
    have GIB := ok_isB (P := l.prog) (w := w) (base := base) FIB TF GW bW
    have GBt := ok_between (P := l.prog) (w := w) (base := base) FBt TF ⟨PySem.W.mg_of X G aIB, kIB⟩ GIB bIB GE bE
    have GWrK : FnOk l.prog w K mg base CX0 1 fWr _ ["table", "key", "value"] spWriteK := ok_writeK FWr
    have GWrT : FnOk l.prog w K mg base CX0 1 fWr _ ["table", "key", "value"] spWriteT := ok_writeT FWr
    have KP : KeyStr l.prog w K mg base fPl kRank := key_place FPl bPl (mz z_len) (mz z_isinstance) (mz z_str)
    have KPP : KeyPair l.prog w K mg base fPP kPlace := key_pair FPP bPP (mz z_isinstance) (mz z_str)
    have GNm : FnOk l.prog w K mg base CX0 1 fNm _ ["value"] (spName K) := ok_name FNm FC (mz z_isinstance) (mz z_str) (mz z_len)
    have GHas := ok_has (P := l.prog) (w := w) (base := base) FHas TF TH
    have GKn := ok_known FKn TF TH GHas bHas GEU bEU
    have GAo := ok_advOf FAo TF GKn bKn ⟨aKn, iKn, kKn⟩
    have GGl := ok_glyphs FGl TF TH KP
    have GLg := ok_ligs FLg TF GGl bGl ⟨aGl, iGl, kGl⟩
    have GCL := ok_letters FCL TF GKn bKn ⟨aKn, iKn, kKn⟩
    have GCR := ok_room (fH := fHas) FCR TF TH hML RET GHas bHas PLg GLg bLg GET bET
    have GCK := ok_kok (P := l.prog) (w := w) (base := base) FCK TF
    have GWA := ok_wrA FWA TF GWrK bWr
    have GWK := ok_wrK FWK TF GWrT bWr
    have GPB := ok_putB FPB TF GBt bBt
    have GPA := ok_putA FPA TF ⟨PySem.W.mg_of X G aNm, kNm⟩ GNm bNm REG GEG bEG GBt bBt GCL bCL ⟨aCL, iCL, kCL⟩ GCR bCR ⟨aCR, iCR, kCR⟩ GCK bCK ⟨aCK, iCK, kCK⟩ GWA bWA ⟨aWA, iWA, kWA⟩
    have GPK := ok_putK FPK TF REO GEO bEO GBt bBt GKn bKn ⟨aKn, iKn, kKn⟩ GWK bWK ⟨aWK, iWK, kWK⟩
    have GQ := ok_font FQ TF TH (PySem.W.mg_of X G aBl) (PySem.W.mg_of X G aPP) KP KPP GPB bPB ⟨aPB, iPB, kPB⟩ GPA bPA ⟨aPA, iPA, kPA⟩ GPK bPK ⟨aPK, iPK, kPK⟩
    have GQX := ok_fontX (CT := CT) FQ TF TH (PySem.W.mg_of X G aBl) (PySem.W.mg_of X G aPP) KP KPP GPB bPB ⟨aPB, iPB, kPB⟩ GPA bPA ⟨aPA, iPA, kPA⟩ GPK bPK ⟨aPK, iPK, kPK⟩
    have GRm := ok_remember (P := l.prog) (w := w) (base := base) FRm TF
    have GSA := ok_setA FSA TF GPA bPA ⟨aPA, iPA, kPA⟩ GRm bRm ⟨aRm, iRm, kRm⟩
    have GSI := ok_setI FSI TF GSA bSA ⟨aSA, iSA, kSA⟩
    have GWKH : L2H.FnH l.prog w K mg base CX0 1 fWr _ ["table", "key", "value"] spWriteK := ok_writeKH FWr
    have GWTH : L2H.FnH l.prog w K mg base CX0 1 fWr _ ["table", "key", "value"] spWriteT := ok_writeTH FWr
    have GBk := ok_backH FBk TF GWKH GWTH bWr
    have GSL := ok_setAll FSL TF TH KP (PySem.W.mg_of X G aCF) XS GPA bPA ⟨aPA, iPA, kPA⟩ GBk bBk ⟨aBk, iBk, kBk⟩
    have G0 := ok_setAdvs (ks := ["a", "gg"]) (by decide) (by decide) binds_a_gg FSV TF GSL bSL ⟨aSL, iSL, kSL⟩
    have G1 := ok_setAdvs (ks := ["A", "a"]) (by decide) (by decide) binds_A_a FSV TF GSL bSL ⟨aSL, iSL, kSL⟩
    have G2 := ok_setAdvs (ks := ["ab", "b", "a"]) (by decide) (by decide) binds_ab_b_a FSV TF GSL bSL ⟨aSL, iSL, kSL⟩
    have G3 := ok_setAdvs (ks := ["a", "zz"]) (by decide) (by decide) binds_a_zz FSV TF GSL bSL ⟨aSL, iSL, kSL⟩
    have GUn := ok_unused (P := l.prog) (w := w) (base := base) FUns TF
    have GTk := ok_takeOut FTk TF TH GKn bKn ⟨aKn, iKn, kKn⟩ GUn bUns ⟨aUns, iUns, kUns⟩ GWA bWA ⟨aWA, iWA, kWA⟩
    have GDr := ok_drop FDr TF GTk bTk ⟨aTk, iTk, kTk⟩ GRm bRm ⟨aRm, iRm, kRm⟩
    have GID := ok_isDeed (P := l.prog) (base := base) FID SZ (mz z_isinstance) (mz z_tuple) (mz z_str) (mz z_len)
    have GDo := ok_do FDo TF GPA bPA ⟨aPA, iPA, kPA⟩ GPB bPB ⟨aPB, iPB, kPB⟩
    have GED : L2H.FnH l.prog w K mg base CX0 1 fED _ ["self", "index"] (spEx1 CD "index") := ok_eDH FED TOD noDindex
    have GAp := ok_apply FAp TF (mz z_enumerate) (PySem.W.mg_of X G aCF) (PySem.W.exm_ref exF ehDF tyF suT_F) exT tyT ⟨PySem.W.mg_of X G aID, kID⟩ GID bID GDo bDo ⟨aDo, iDo, kDo⟩ GBk bBk ⟨aBk, iBk, kBk⟩ RED GED bED
    have GKr := ok_kerns (P := l.prog) (w := w) (base := base) FKr TF TH
    have GBl := ok_blank (P := l.prog) (w := w) (base := base) FBla TF
    have GCh := ok_changes (P := l.prog) (w := w) (base := base) FCh TF
    have GLn := ok_len (P := l.prog) (w := w) (base := base) FLen TF
    have GIn : FnOk l.prog w K mg base CX0 1 fIn _ ["_law_actual"] (spWhole K) := ok_int FIn (mz z_isinstance) (mz z_int) (mz z_bool)
    have KR : KeyStr l.prog w K mg base fRk kRank := key_rank FRk bRk (mz z_len)
    have GAg := ok_agr FAg TF TH (PySem.W.mg_of X G aRk) KR GGl bGl ⟨aGl, iGl, kGl⟩ GKr bKr ⟨aKr, iKr, kKr⟩ GAo bAo ⟨aAo, iAo, kAo⟩ GLn bLen ⟨PySem.W.mg_of X G aIn, kIn⟩ GIn bIn PBl GBl bBla
    have GOn := ok_once FOn TF ⟨aSV, iSV, kSV⟩ G0 G1 G2 G3 RET REG REU XFT XFG XFI XFU noTlimit noGglyph noIvalue noUglyph (PySem.W.exm_ref exT ehDT tyT suT_T) (PySem.W.exm_ref exT ehDT tyT suG_T) (PySem.W.exm_ref exG ehDG tyG suG_G) (PySem.W.exm_ref exT ehDT tyT suI_T) (PySem.W.exm_ref exG ehDG tyG suI_G) (PySem.W.exm_ref exI ehDI tyI suI_I) (PySem.W.exm_ref exT ehDT tyT suU_T) (PySem.W.exm_ref exG ehDG tyG suU_G) (PySem.W.exm_ref exI ehDI tyI suU_I) (PySem.W.exm_ref exU ehDU tyU suU_U)
    have GMa := ok_many FMa TF GSA bSA ⟨aSA, iSA, kSA⟩ GSI bSI aSI iSI nqC GAp bAp ⟨aAp, iAp, kAp⟩ MQ GQX (PySem.W.mg_of X G aC) bQ RET RED XFT XFD noTlimit noDindex (PySem.W.exm_ref exT ehDT tyT suT_T) (PySem.W.exm_ref exT ehDT tyT suD_T) (PySem.W.exm_ref exD ehDD tyD suD_D)
    have GFu := ok_full (fun n h0 h1 => fullD h0 h1) FFu TF TH (mz z_range) (mz z_dict) MQ GQ (PySem.W.mg_of X G aC) hb3 ⟨PySem.W.mg_of X G aOn, kOn⟩ GOn bOn ⟨PySem.W.mg_of X G aAg, kAg⟩ GAg bAg PCh GCh bCh GLn bLen
    have GEv := ok_even FEv MQ GQ hb2
    have GT : FnOk l.prog w K mg base CX0 1 fT _ ["_law_bag_here", "_law_size"] spTake := ok_take FT (mz z_len) (mz z_int)
    have GL := ok_let FL ⟨PySem.W.mg_of X G aT, kT⟩ (mz z_range) GT bT
    exact ok_law FZ TL TF TH (PySem.W.mg_of X G aC) (mz z_range) (mz z_dict) (ok_bag FB (mz z_list)) bB GT bT GL bL GAg bAg GMa bMa GFu bFu GSA bSA ⟨aSA, iSA, kSA⟩ GDr bDr ⟨aDr, iDr, kDr⟩ GEv ⟨crd, cga⟩ ⟨cmA, ⟨_, cmR⟩, cmF⟩ hbE bEv vEv GLg bLg PLg GLn bLen GHas bHas ⟨c1, ⟨t1, rfl⟩⟩ ⟨c6, ⟨t6, rfl⟩⟩ ⟨c40, ⟨t40, rfl⟩⟩ ⟨c50, ⟨t50, rfl⟩⟩⟩
theorem walk {l : PySem.W.OpenLaw} {q : Program} {loose : List Str} {XP : (Str → Option Value) → Heap → Prop} {YP : World → Heap → Prop} {d : DefRec} {K : Params → PySem.W.Frag} (hn : l.most = some 63) (hdf : d.params.defaults = [])
    (hY : ∀ (w : World) (h : Heap), YP w h → (K w.params).In h)
    (F : ∀ (w : World) (mg : Str → Option Value) (fa : Addr) (h : Heap), (K w.params).In h → h.Ns mainGlobals mg → mg d.name = some (.ref fa) →
      ∃ fd : FuncData, (∀ (s : Shared) (u : Value), BindsTo s fd ⟨[u], []⟩ [("_law_script", u)]) ∧ ∀ base : Heap, (K w.params).In base → base.Ns mainGlobals mg → FnOk l.prog w (K w.params) mg base CX0 11 fa fd ["_law_script"] (spLaw (K w.params))) :
    PySem.W.WalkO q loose XP YP l.row.toRowW d [] (fun f vs => PySem.call f vs) :=
  L2.walk_of (n := 63) (k := 11) (x := "_law_script") (CX := fun _ => CX0) (sp := fun w => spLaw (K w.params)) hn (by decide) hdf ⟨rfl, by decide, by decide⟩ hY F (fun _ _ a ns hl _ hS => ⟨a, ns, rfl, hS, hl, fun _ => rfl⟩) fun _ _ _ _ _ z => z
end Toy
open PySem PySem.W PyProof.Rows
set_option maxRecDepth 100000 in
set_option maxHeartbeats 0 in
theorem PySem.Challenge.cw_fontgap_k15_limits_and_even_fonts_holds : PySem.Challenge.rw_fontgap_k15_limits_and_even_fonts.Holds := by
  w_on; o_law; k_head; (case hw => w_witness2)
  k_fill
  refine Toy.walk (l := PySem.Challenge.rw_fontgap_k15_limits_and_even_fonts) rfl rfl (fun w h Y => PySem.W.kIn_of Y) ?F
  case F =>
    intro w mg fa h KX G hmg
    refine' Toy.all_mk KX G hmg ?aC ?aCF ?aCI ?aCU ?aCT ?aCG ?aCO ?aCD ?aW ?lW ?cW ?kW ?aIB ?lIB ?cIB ?kIB ?aBt ?lBt ?cBt ?kBt ?aWr ?lWr ?cWr ?kWr ?aPl ?lPl ?cPl ?kPl ?aPP ?lPP ?cPP ?kPP ?aNm ?lNm ?cNm ?kNm ?aE ?tE ?lE ?cE ?kE ?aEU ?tEU ?lEU ?cEU ?kEU ?aET ?tET ?lET ?cET ?kET ?aEG ?tEG ?lEG ?cEG ?kEG ?aEO ?tEO ?lEO ?cEO ?kEO ?aQ ?iQ ?lQ ?cQ ?kQ ?dQ ?aHas ?iHas ?lHas ?cHas ?kHas ?aLen ?iLen ?lLen ?cLen ?kLen ?aGl ?iGl ?lGl ?cGl ?kGl ?aAo ?iAo ?lAo ?cAo ?kAo ?aPA ?iPA ?lPA ?cPA ?kPA ?aPK ?iPK ?lPK ?cPK ?kPK ?aPB ?iPB ?lPB ?cPB ?kPB ?aKn ?iKn ?lKn ?cKn ?kKn ?aCL ?iCL ?lCL ?cCL ?kCL ?aCR ?iCR ?lCR ?cCR ?kCR ?aCK ?iCK ?lCK ?cCK ?kCK ?aWA ?iWA ?lWA ?cWA ?kWA ?aWK ?iWK ?lWK ?cWK ?kWK ?pLa ?pLg ?pLt ?pLr ?lLg ?cLg ?kLg ?aED ?tED ?lED ?cED ?kED ?aRm ?iRm ?lRm ?cRm ?kRm ?aSA ?iSA ?lSA ?cSA ?kSA ?aSI ?iSI ?lSI ?cSI ?kSI ?aSL ?iSL ?lSL ?cSL ?kSL ?aSV ?iSV ?lSV ?cSV ?kSV ?aUns ?iUns ?lUns ?cUns ?kUns ?aTk ?iTk ?lTk ?cTk ?kTk ?aDr ?iDr ?lDr ?cDr ?kDr ?aID ?lID ?cID ?kID ?aDo ?iDo ?lDo ?cDo ?kDo ?aAp ?iAp ?lAp ?cAp ?kAp ?aBk ?iBk ?lBk ?cBk ?kBk ?aKr ?iKr ?lKr ?cKr ?kKr ?pBa ?pBg ?pBt ?pBr ?lBla ?cBla ?kBla ?pCa ?pCg ?pCt ?pCr ?lCh ?cCh ?kCh ?cmA ?cmR ?cmF ?lEv ?cEv ?kEv ?aB ?lB ?cB ?kB ?aT ?lT ?cT ?kT ?aL ?lL ?cL ?kL ?aIn ?lIn ?cIn ?kIn ?aRk ?lRk ?cRk ?kRk ?aAg ?lAg ?cAg ?kAg ?aMa ?lMa ?cMa ?kMa ?aOn ?lOn ?cOn ?kOn ?aFu ?lFu ?cFu ?kFu ?aZ ?lZ ?cZ ?kZ ?xCI ?saI ?exI ?tyI ?kpI ?noIvalue ?xCU ?saU ?exU ?tyU ?kpU ?noUglyph ?xCT ?saT ?exT ?tyT ?kpT ?noTlimit ?xCG ?saG ?exG ?tyG ?kpG ?noGglyph ?xCO ?saO ?exO ?tyO ?kpO ?noOleft ?noOright ?kdQ ?aBl ?pg ?hd ?po ?sa ?mk ?kc ?nA ?nN ?nB ?nP ?cAd ?gAd ?cUn ?gUn ?cLi ?gLi ?crd ?cga ?c6 ?xCD ?saD ?exD ?tyD ?kpD ?noDindex ?egAI ?egGI ?ehDI ?egAU ?egGU ?ehDU ?egAT ?egGT ?ehDT ?egAG ?egGG ?ehDG ?egAD ?egGD ?ehDD ?exF ?tyF ?ehDF ?suT_T ?suG_T ?suG_G ?suI_T ?suI_G ?suI_I ?suU_T ?suU_G ?suU_I ?suU_U ?suD_T ?suD_D ?suG_F ?suI_F ?suU_F ?suT_F ?nqC ?kdEv ?aDS ?lDS ?kDS ?sDS ?nDa ?nDb ?c1 ?c40 ?c50 ?z_isinstance ?z_int ?z_bool ?z_len ?z_list ?z_range ?z_sorted ?z_str ?z_dict ?z_tuple ?z_enumerate
    (case aC => k_is)
    (case aCF => k_is)
    (case aCI => k_is)
    (case aCU => k_is)
    (case aCT => k_is)
    (case aCG => k_is)
    (case aCO => k_is)
    (case aCD => k_is)
    (case aW => k_is)
    (case lW => k_is)
    (case cW => k_is)
    (case kW => k_is)
    (case aIB => k_is)
    (case lIB => k_is)
    (case cIB => k_is)
    (case kIB => k_is)
    (case aBt => k_is)
    (case lBt => k_is)
    (case cBt => k_is)
    (case kBt => k_is)
    (case aWr => k_is)
    (case lWr => k_is)
    (case cWr => k_is)
    (case kWr => k_is)
    (case aPl => k_is)
    (case lPl => k_is)
    (case cPl => k_is)
    (case kPl => k_is)
    (case aPP => k_is)
    (case lPP => k_is)
    (case cPP => k_is)
    (case kPP => k_is)
    (case aNm => k_is)
    (case lNm => k_is)
    (case cNm => k_is)
    (case kNm => k_is)
    (case aE => k_is)
    (case tE => k_is)
    (case lE => k_is)
    (case cE => k_is)
    (case kE => k_is)
    (case aEU => k_is)
    (case tEU => k_is)
    (case lEU => k_is)
    (case cEU => k_is)
    (case kEU => k_is)
    (case aET => k_is)
    (case tET => k_is)
    (case lET => k_is)
    (case cET => k_is)
    (case kET => k_is)
    (case aEG => k_is)
    (case tEG => k_is)
    (case lEG => k_is)
    (case cEG => k_is)
    (case kEG => k_is)
    (case aEO => k_is)
    (case tEO => k_is)
    (case lEO => k_is)
    (case cEO => k_is)
    (case kEO => k_is)
    (case aQ => k_is)
    (case iQ => k_is)
    (case lQ => k_is)
    (case cQ => k_is)
    (case kQ => k_is)
    (case dQ => k_is)
    (case aHas => k_is)
    (case iHas => k_is)
    (case lHas => k_is)
    (case cHas => k_is)
    (case kHas => k_is)
    (case aLen => k_is)
    (case iLen => k_is)
    (case lLen => k_is)
    (case cLen => k_is)
    (case kLen => k_is)
    (case aGl => k_is)
    (case iGl => k_is)
    (case lGl => k_is)
    (case cGl => k_is)
    (case kGl => k_is)
    (case aAo => k_is)
    (case iAo => k_is)
    (case lAo => k_is)
    (case cAo => k_is)
    (case kAo => k_is)
    (case aPA => k_is)
    (case iPA => k_is)
    (case lPA => k_is)
    (case cPA => k_is)
    (case kPA => k_is)
    (case aPK => k_is)
    (case iPK => k_is)
    (case lPK => k_is)
    (case cPK => k_is)
    (case kPK => k_is)
    (case aPB => k_is)
    (case iPB => k_is)
    (case lPB => k_is)
    (case cPB => k_is)
    (case kPB => k_is)
    (case aKn => k_is)
    (case iKn => k_is)
    (case lKn => k_is)
    (case cKn => k_is)
    (case kKn => k_is)
    (case aCL => k_is)
    (case iCL => k_is)
    (case lCL => k_is)
    (case cCL => k_is)
    (case kCL => k_is)
    (case aCR => k_is)
    (case iCR => k_is)
    (case lCR => k_is)
    (case cCR => k_is)
    (case kCR => k_is)
    (case aCK => k_is)
    (case iCK => k_is)
    (case lCK => k_is)
    (case cCK => k_is)
    (case kCK => k_is)
    (case aWA => k_is)
    (case iWA => k_is)
    (case lWA => k_is)
    (case cWA => k_is)
    (case kWA => k_is)
    (case aWK => k_is)
    (case iWK => k_is)
    (case lWK => k_is)
    (case cWK => k_is)
    (case kWK => k_is)
    (case pLa => k_is)
    (case pLg => k_is)
    (case pLt => k_is)
    (case pLr => k_is)
    (case lLg => k_is)
    (case cLg => k_is)
    (case kLg => k_is)
    (case aED => k_is)
    (case tED => k_is)
    (case lED => k_is)
    (case cED => k_is)
    (case kED => k_is)
    (case aRm => k_is)
    (case iRm => k_is)
    (case lRm => k_is)
    (case cRm => k_is)
    (case kRm => k_is)
    (case aSA => k_is)
    (case iSA => k_is)
    (case lSA => k_is)
    (case cSA => k_is)
    (case kSA => k_is)
    (case aSI => k_is)
    (case iSI => k_is)
    (case lSI => k_is)
    (case cSI => k_is)
    (case kSI => k_is)
    (case aSL => k_is)
    (case iSL => k_is)
    (case lSL => k_is)
    (case cSL => k_is)
    (case kSL => k_is)
    (case aSV => k_is)
    (case iSV => k_is)
    (case lSV => k_is)
    (case cSV => k_is)
    (case kSV => k_is)
    (case aUns => k_is)
    (case iUns => k_is)
    (case lUns => k_is)
    (case cUns => k_is)
    (case kUns => k_is)
    (case aTk => k_is)
    (case iTk => k_is)
    (case lTk => k_is)
    (case cTk => k_is)
    (case kTk => k_is)
    (case aDr => k_is)
    (case iDr => k_is)
    (case lDr => k_is)
    (case cDr => k_is)
    (case kDr => k_is)
    (case aID => k_is)
    (case lID => k_is)
    (case cID => k_is)
    (case kID => k_is)
    (case aDo => k_is)
    (case iDo => k_is)
    (case lDo => k_is)
    (case cDo => k_is)
    (case kDo => k_is)
    (case aAp => k_is)
    (case iAp => k_is)
    (case lAp => k_is)
    (case cAp => k_is)
    (case kAp => k_is)
    (case aBk => k_is)
    (case iBk => k_is)
    (case lBk => k_is)
    (case cBk => k_is)
    (case kBk => k_is)
    (case aKr => k_is)
    (case iKr => k_is)
    (case lKr => k_is)
    (case cKr => k_is)
    (case kKr => k_is)
    (case pBa => k_is)
    (case pBg => k_is)
    (case pBt => k_is)
    (case pBr => k_is)
    (case lBla => k_is)
    (case cBla => k_is)
    (case kBla => k_is)
    (case pCa => k_is)
    (case pCg => k_is)
    (case pCt => k_is)
    (case pCr => k_is)
    (case lCh => k_is)
    (case cCh => k_is)
    (case kCh => k_is)
    (case cmA => k_is)
    (case cmR => k_is)
    (case cmF => k_is)
    (case lEv => k_is)
    (case cEv => k_is)
    (case kEv => k_is)
    (case aB => k_is)
    (case lB => k_is)
    (case cB => k_is)
    (case kB => k_is)
    (case aT => k_is)
    (case lT => k_is)
    (case cT => k_is)
    (case kT => k_is)
    (case aL => k_is)
    (case lL => k_is)
    (case cL => k_is)
    (case kL => k_is)
    (case aIn => k_is)
    (case lIn => k_is)
    (case cIn => k_is)
    (case kIn => k_is)
    (case aRk => k_is)
    (case lRk => k_is)
    (case cRk => k_is)
    (case kRk => k_is)
    (case aAg => k_is)
    (case lAg => k_is)
    (case cAg => k_is)
    (case kAg => k_is)
    (case aMa => k_is)
    (case lMa => k_is)
    (case cMa => k_is)
    (case kMa => k_is)
    (case aOn => k_is)
    (case lOn => k_is)
    (case cOn => k_is)
    (case kOn => k_is)
    (case aFu => k_is)
    (case lFu => k_is)
    (case cFu => k_is)
    (case kFu => k_is)
    (case aZ => k_is)
    (case lZ => k_is)
    (case cZ => k_is)
    (case kZ => k_is)
    (case xCI => k_is)
    (case saI => k_is)
    (case exI => k_is)
    (case tyI => k_is)
    (case kpI => k_is)
    (case noIvalue => k_is)
    (case xCU => k_is)
    (case saU => k_is)
    (case exU => k_is)
    (case tyU => k_is)
    (case kpU => k_is)
    (case noUglyph => k_is)
    (case xCT => k_is)
    (case saT => k_is)
    (case exT => k_is)
    (case tyT => k_is)
    (case kpT => k_is)
    (case noTlimit => k_is)
    (case xCG => k_is)
    (case saG => k_is)
    (case exG => k_is)
    (case tyG => k_is)
    (case kpG => k_is)
    (case noGglyph => k_is)
    (case xCO => k_is)
    (case saO => k_is)
    (case exO => k_is)
    (case tyO => k_is)
    (case kpO => k_is)
    (case noOleft => k_is)
    (case noOright => k_is)
    (case kdQ => k_is)
    (case aBl => k_is)
    (case pg => k_is)
    (case hd => k_is)
    (case po => k_is)
    (case sa => k_is)
    (case mk => k_is)
    (case kc => k_is)
    (case nA => k_is)
    (case nN => k_is)
    (case nB => k_is)
    (case nP => k_is)
    (case cAd => k_is)
    (case gAd => k_is)
    (case cUn => k_is)
    (case gUn => k_is)
    (case cLi => k_is)
    (case gLi => k_is)
    (case crd => k_is)
    (case cga => k_is)
    (case c6 => k_is)
    (case xCD => k_is)
    (case saD => k_is)
    (case exD => k_is)
    (case tyD => k_is)
    (case kpD => k_is)
    (case noDindex => k_is)
    (case egAI => k_is)
    (case egGI => k_is)
    (case ehDI => k_is)
    (case egAU => k_is)
    (case egGU => k_is)
    (case ehDU => k_is)
    (case egAT => k_is)
    (case egGT => k_is)
    (case ehDT => k_is)
    (case egAG => k_is)
    (case egGG => k_is)
    (case ehDG => k_is)
    (case egAD => k_is)
    (case egGD => k_is)
    (case ehDD => k_is)
    (case exF => k_is)
    (case tyF => k_is)
    (case ehDF => k_is)
    (case suT_T => k_is)
    (case suG_T => k_is)
    (case suG_G => k_is)
    (case suI_T => k_is)
    (case suI_G => k_is)
    (case suI_I => k_is)
    (case suU_T => k_is)
    (case suU_G => k_is)
    (case suU_I => k_is)
    (case suU_U => k_is)
    (case suD_T => k_is)
    (case suD_D => k_is)
    (case suG_F => k_is)
    (case suI_F => k_is)
    (case suU_F => k_is)
    (case suT_F => k_is)
    (case nqC => k_is)
    (case kdEv => k_is)
    (case aDS => k_is)
    (case lDS => k_is)
    (case kDS => exact ⟨⟨_, _, rfl, rfl⟩, ⟨_, _, rfl, rfl⟩, ⟨_, _, rfl, rfl⟩, ⟨_, _, rfl, rfl⟩, trivial⟩)
    (case sDS => rfl)
    (case nDa => k_is)
    (case nDb => k_is)
    (case c1 => k_is)
    (case c40 => k_is)
    (case c50 => k_is)
    (case z_isinstance => k_is)
    (case z_int => k_is)
    (case z_bool => k_is)
    (case z_len => k_is)
    (case z_list => k_is)
    (case z_range => k_is)
    (case z_sorted => k_is)
    (case z_str => k_is)
    (case z_dict => k_is)
    (case z_tuple => k_is)
    (case z_enumerate => k_is)
