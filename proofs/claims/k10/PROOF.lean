import PyProof.Rows.All
import Wide.All
import OpenK.AllK
import Wide.FinOn
import HandS.ForMost
import HandS.Wide
import HandS.Zip
import HandS.Style
import HandS.TupAny
import HandS.Replace
import HandS.IsInst
import HandS.Codes
import HandS.Conv
import HandS.More
import HandS.Evl
import HandS.NoneIn
import HandS.Deep
import HandS.Flow
import PyProof.ReprRoads
import HandS.Walk
import PyProof.StrLawsRepr
import PyProof.Rows.RegStrFacts
import PyProof.P3Eq
import HandS.TupMul
import HandS.Dict
import KE.KRevSl
import HandS.WrittenGet
import HandS.ExcInit
import HandS.ExcField
import HandS.ExcIs
import HandS.ExcOwn
import HandS.WordsExc
import KE.KExcIs
import HandS.HotCalls
import KE.KEqNest
import HandS.RaiseMore
import HandS.ExcInitHot
import HandS.Ends
import PySem.Challenge.RW_scriptpicks_k10_errors_kept
set_option Elab.async false
set_option linter.all false
set_option maxRecDepth 100000
/-! rules of our own over the hand layer -/
namespace Own
open PySem PySem.Spec PyProof.Rows L2
section
variable {X : Cx}
theorem CallR.or {f : Value} {r r' : List V → Hp → VK → Prop} (h : CallR X f r) (h' : CallR X f r') : CallR X f (fun xs H Z => r xs H Z ∨ r' xs H Z) := by
  intro pk s τ H xs us Z I rs q
  rcases q with q | q
  · exact h pk s τ H xs us Z I rs q
  · exact h' pk s τ H xs us Z I rs q
theorem SlR.or {r r' : V → Option Int → Option Int → Hp → VK → Prop} (h : SlR X r) (h' : SlR X r') : SlR X (fun x lo hi H Z => r x lo hi H Z ∨ r' x lo hi H Z) := by
  intro pk s τ H x v vl vu lo hi sl Z I rx hst pl pu q
  rcases q with q | q
  · exact h pk s τ H x v vl vu lo hi sl Z I rx hst pl pu q
  · exact h' pk s τ H x v vl vu lo hi sl Z I rx hst pl pu q
theorem PI.or {tg iter : Expr} {w w' : TI} (h : PI X tg iter w) (h' : PI X tg iter w') : PI X tg iter (fun τ H R => w τ H R ∨ w' τ H R) :=
  ⟨fun pk s τ H R I q => q.elim (h.run pk s τ H R I) (h'.run pk s τ H R I)⟩
/-! ### unions: the reading chooses -/
def rAddI : R2 := rI0 fun i j => .int (i + j)
def rAddS : R2 := fun x y H Z => ∃ i j, x = .str i ∧ y = .str j ∧ i.length + j.length ≤ sizeLine ∧ Z (.str (i ++ j)) H
def rAdd (K : PySem.W.Frag) : R2 := fun x y H Z => rAddI x y H Z ∨ rAddS x y H Z ∨ rCat x y H Z ∨ rCatA K x y H Z
theorem opAdd : OpR X (binaryOp .Add) (rAdd X.K) := OpR.or op_add (OpR.or op_add_str (OpR.or op_cat op_catA))
def rMulI : R2 := rI CMul fun i j => .int (i * j)
def rMul : R2 := fun x y H Z => rMulI x y H Z ∨ rRep x y H Z
theorem opMul : OpR X (binaryOp .Mult) rMul := OpR.or op_mul op_rep
def rEqA (K : PySem.W.Frag) : R2 := fun x y H Z => rEq x y H Z ∨ rEqD K x y H Z
def rNeA (K : PySem.W.Frag) : R2 := fun x y H Z => rNe x y H Z ∨ rNeD K x y H Z
theorem opEq {k : Nat} (hr : Room k X.A) : OpR X (compareOp .Eq) (rEqA X.K) := OpR.or op_eq (op_eqD hr.units)
theorem opNe {k : Nat} (hr : Room k X.A) : OpR X (compareOp .NotEq) (rNeA X.K) := OpR.or op_ne (op_neD hr.units)
def rLtI : R2 := rI0 fun i j => .bl (decide (i < j))
def rLeI : R2 := rI0 fun i j => .bl (decide (i ≤ j))
def rGtI : R2 := rI0 fun i j => .bl (decide (j < i))
def rGeI : R2 := rI0 fun i j => .bl (decide (j ≤ i))
theorem opLt : OpR X (compareOp .Lt) rLtI := op_lt
theorem opLe : OpR X (compareOp .LtE) rLeI := op_le
theorem opGt : OpR X (compareOp .Gt) rGtI := op_gt
theorem opGe : OpR X (compareOp .GtE) rGeI := op_ge
def rInS : R2 := fun x y H Z => ∃ i j, x = .str i ∧ y = .str j ∧ Z (.bl (!(Builtin.Str.occurrences j i 0 j.length 1).isEmpty)) H
def rNotInS : R2 := fun x y H Z => ∃ i j, x = .str i ∧ y = .str j ∧ Z (.bl (!(!(Builtin.Str.occurrences j i 0 j.length 1).isEmpty))) H
def rInA (K : PySem.W.Frag) : R2 := fun x y H Z => rIn K false x y H Z ∨ rInS x y H Z
def rNotInA (K : PySem.W.Frag) : R2 := fun x y H Z => rIn K true x y H Z ∨ rNotInS x y H Z
theorem opIn : OpR X (compareOp .In) (rInA X.K) := OpR.or op_in_seq op_in_str
theorem opNotIn : OpR X (compareOp .NotIn) (rNotInA X.K) := OpR.or op_notIn_seq L2.op_notin_str
def rIxA (K : PySem.W.Frag) (w : World) : R2 := fun x y H Z => rIxL K x y H Z ∨ rIxT K x y H Z ∨ rIxS x y H Z ∨ rIxD K w x y H Z
theorem ixAny : IxR X (rIxA X.K X.w) := IxR.or ix_list (IxR.or ix_tup (IxR.or ix_str ix_kdict))
def rSlAny (K : PySem.W.Frag) : V → Option Int → Option Int → Hp → VK → Prop := fun x lo hi H Z => rSlL K x lo hi H Z ∨ rSlA K x lo hi H Z ∨ rSlS x lo hi H Z
theorem slAny : SlR X (rSlAny X.K) := SlR.or sl_list (SlR.or sl_tupA sl_str)
def iAny (K : PySem.W.Frag) (tl : TE) : TI := fun τ H R => iList K tl τ H R ∨ iTup K tl τ H R ∨ iStr tl τ H R
theorem piAny {tg l : Expr} {tl : TE} (hlen : PE X l tl) : PI X tg l (iAny X.K tl) := PI.or (pi_list hlen) (PI.or (pi_tup hlen) (pi_str hlen))
def rLenA (K : PySem.W.Frag) : List V → Hp → VK → Prop := fun xs H Z => (∃ p ys, xs = [.ref p] ∧ (SqL K H p ys ∨ SqT K H p ys) ∧ Z (.int ys.length) H) ∨ (∃ z, xs = [.str z] ∧ z.length ≤ sizeLine ∧ Z (.int z.length) H)
theorem callLen : CallR X (.builtin "len") (rLenA X.K) := CallR.or call_len_seq call_len_str
theorem pgetL : PGet X (rIxL X.K) := by
  intro pk s τ H x y v u Z I rx ry h
  obtain ⟨p, xs, i, z, rfl, rfl, hsq, hes, q⟩ := h
  cases rx
  obtain ⟨t, rfl⟩ := ry
  obtain ⟨gs, r, pl, hz⟩ := I.list hsq
  obtain ⟨j, h1, h2, h3, h4, h5⟩ := atI_get hes
  obtain ⟨w, ew, rw'⟩ := r.get h2
  have hlen := r.length
  have hn := line63
  have ready : EP X pk τ Z w s := ⟨z, H, I, rw', q⟩
  by_cases h0 : 0 ≤ i
  · have hj : i.toNat = j := by
      rw [seqIndex_of h0 h5] at h1
      exact Option.some.inj h1
    exact wpAny_getItem_list pl.isList h0 (by omega) (by rw [hj]; simpa using ew) ready
  · have hj : (i + (gs.toArray.size : Int)).toNat = j := by
      rw [seqIndex_neg (by omega) h4] at h1
      rw [List.size_toArray, ← hlen]
      exact Option.some.inj h1
    exact wpAny_getItem_list_neg pl.isList (by omega) (by rw [List.size_toArray] <;> omega) (by omega) (by rw [hj]; simpa using ew) ready
/-- repr of data -/
def rRepr (K : PySem.W.Frag) : List V → Hp → VK → Prop := fun xs H Z => ∃ a d, xs = [.ref a] ∧ Dp K H (.ref a) d ∧ d.showable = true ∧ d.hasDict = false ∧ d.depth ≤ 20 ∧ d.shown.length ≤ sizeLine ∧ Z (.str d.shown) H
theorem callRepr {k : Nat} (hg : X.A.guards = some []) (hr : Room k X.A) : CallR X (.builtin "repr") (rRepr X.K) := by
  intro pk s τ H xs us Z I r h
  obtain ⟨a, d, rfl, hd, hst, hn, hz, hlen, q⟩ := h
  rw [Vals.ref1 r]
  obtain ⟨as, rd⟩ := Dp.reads I d _ _ hd rfl
  have hu := hr.units
  exact repr_of_reads' rd hst (fun e => by rw [hn] at e; cases e) hg (by omega) (fun _ _ e => e) (fun h' u tk hkp => ⟨.str d.shown, H, I.kept (h' := h') (t' := tk) hkp, ⟨_, rfl⟩, q⟩) hlen
end
/-! ### defs that are called where no container is being shown -/
structure FnG (P : Program) (w : World) (K : PySem.W.Frag) (mg : Str → Option Value) (base : Heap) (k : Nat) (f : Addr) (fd : FuncData) (ps : List Str) (sp : Sp) : Prop where
  len : ∀ vs H Z EE, sp vs H Z EE → vs.length = ps.length
  run : ∀ (A : Around) (outer : List Env) (s : Shared) (H : Hp) (args : Args) (us : List Value) (vs : List V) (Z : VK) (EE : XK), Room k A → A.guards = some [] → Env0 P w K mg base A outer s H → BindsTo s fd args (ps.zip us) → Vals vs us → sp vs H Z EE →
    codeAny (model P w) A (.call (.ref f) args) (CR CX0 outer P w H s Z EE) s
structure CalG (P : Program) (w : World) (K : PySem.W.Frag) (mg : Str → Option Value) (base : Heap) (k : Nat) (x : Str) (sp : Sp) : Prop where
  ex : ∃ (f : Addr) (fd : FuncData) (ps : List Str), FnG P w K mg base k f fd ps sp ∧ mg x = some (.ref f) ∧ PySem.W.keepIn K (.ref f) = true ∧ Binds K fd ps []
structure Df (K : PySem.W.Frag) (mg : Str → Option Value) (x : Str) (st : Stmt) : Prop where
  ex : ∃ (f : Addr) (fd : FuncData), mg x = some (.ref f) ∧ Fun K x x st f fd
section
variable {P : Program} {w : World} {K : PySem.W.Frag} {mg : Str → Option Value} {base : Heap}
theorem CalG.imp {k : Nat} {x : Str} {sp sp' : Sp} (c : CalG P w K mg base k x sp) (h : ∀ vs H Z EE, sp' vs H Z EE → sp vs H Z EE) : CalG P w K mg base k x sp' := by
  obtain ⟨f, fd, ps, F, a, b, d⟩ := c.ex
  exact ⟨f, fd, ps, ⟨fun vs H Z EE q => F.len vs H Z EE (h _ _ _ _ q), fun A outer s H args us vs Z EE hr hg hes hbd hv hst => F.run A outer s H args us vs Z EE hr hg hes hbd hv (h _ _ _ _ hst)⟩, a, b, d⟩
theorem fn_mk {x : Str} {f : Addr} {fd : FuncData} {st : Stmt} {N ps : List Str} {k : Nat} {sp : Sp} (F : Fun K x x st f fd) (S : FnScope N ps (defScope st))
    (len : ∀ vs H Z EE, sp vs H Z EE → vs.length = ps.length)
    (hbody : ∀ (cdv : Value) (A : Around) (outer : List Env) (s : Shared) (H : Hp) (vs : List V) (Z : VK) (EE : XK), Room k (A.deeper (envOfC x (defScope st) s.heap.objs.size f cdv)) → (A.deeper (envOfC x (defScope st) s.heap.objs.size f cdv)).guards = some [] → sp vs H Z EE →
      ∃ t, PSs (cxOf CX0 P w K mg base N x (defScope st) f cdv A outer s H EE).nox (defBody st) t ∧ t { nx := fun _ H' => Z .non H', rt := Z } (start N vs) H) : FnG P w K mg base (k + 1) f fd ps sp := by
  obtain ⟨oc, od, kV, doc, pm, an, cdv, ct, sl, rfl, lkp, hcd⟩ := F.ex
  refine ⟨len, fun A outer s H args us vs Z EE hr hg e0 hbt r hsp => ?_⟩
  have body : ∀ (A : Around) (outer : List Env) (s : Shared) (H : Hp) (vs : List V) (Z : VK) (EE : XK), Room k (A.deeper (envOfC x (defScope st) s.heap.objs.size f cdv)) → A.guards = some [] → sp vs H Z EE →
      ∃ t, PSs (cxOf CX0 P w K mg base N x (defScope st) f cdv A outer s H EE) (defBody st) t ∧ t { nx := fun _ H' => Z .non H', rt := Z } (start N vs) H := fun A outer s H vs Z EE hr hg hsp => by
    obtain ⟨t, h, q⟩ := hbody cdv A outer s H vs Z EE hr hg hsp
    exact ⟨t, h.nox, q⟩
  have hlen := len _ _ _ _ hsp
  have KI : K.In s.heap := e0.mod.kin.keeps fun b o e => (e0.bs b o e).1
  have nlm : s.heap.NoLimit := e0.mod.nolimit.keeps fun b o e => (e0.bs b o e).1
  have hkind : ∀ y ∈ ps.zip us, (defScope st).names.lookup y.1 = some .local ∨ ((defScope st).names.lookup y.1 = some .cell ∧ ((cellsFrom (s.heap.objs.size + 1) (defScope st).names []).lookup y.1).isSome = true) := fun ⟨n, v⟩ hyy => by
    rcases S.par n (List.of_mem_zip hyy).1 with q | q
    · exact .inl q
    · exact .inr ⟨q, PySem.W.cellsFrom_some _ _ _ (.inl q)⟩
  refine codeAny_call_function hr.depth (KI _ _ lkp) rfl S.co S.gen rfl (PySem.W.codeRec_of KI hcd) (hbt _ _ _ _ ?_)
  refine wpAny_newFunctionEnv_cells S.kind hkind fun env hes st1 xx => ?_
  subst hes
  refine ⟨nlm.keeps xx.toInCall.keep, codeAny_func ?_⟩
  obtain ⟨t, ht, hsq⟩ := body A outer s H vs Z EE (hr.deeper _) hg hsp
  have I : Inv (cxOf CX0 P w K mg base N x (defScope st) f cdv A outer s H EE) [] (start N vs) H st1 := inv_start S hr.hd e0 hlen r xx
  refine wpAny_mono (ht.run [] st1 (start N vs) H _ I hsq) (fun fl s' hst => ?_) fun e s' hst => hst
  have ready : ∀ {τ' : L2.St} {H' : Hp} {v : V} {u : Value}, Inv (cxOf CX0 P w K mg base N x (defScope st) f cdv A outer s H EE) [] τ' H' s' → RelV v u → Z v H' → CE outer P w H s Z u s' :=
    fun {τ' H' v u} J rv q => ⟨v, H', J.os, J.bare, J.base, J.hok, rv, q⟩
  cases fl with
  | ret u =>
    obtain ⟨v, τ', H', J, rv, q⟩ := hst
    exact ready J rv q
  | next =>
    obtain ⟨τ', H', J, q⟩ := hst
    exact ready (v := V.non) (u := Value.none) J rfl q
  | brk =>
    obtain ⟨_, _, _, q⟩ := hst
    exact False.elim q
  | cont =>
    obtain ⟨_, _, _, q⟩ := hst
    exact False.elim q
theorem cal_mk {x : Str} {st : Stmt} {N ps : List Str} {k : Nat} {sp : Sp} (D : Df K mg x st) (S : FnScope N ps (defScope st))
    (hbd : ∀ (kV doc pm : Value) (an : Option Addr) (cdv ct : Value) (us : List Value), us.length = ps.length → bindArgs (PySem.W.fnOf x x (defArgs st) (defBody st) (defScope st) .none kV doc pm an cdv ct) ⟨us, []⟩ = pure (ps.zip us))
    (len : ∀ vs H Z EE, sp vs H Z EE → vs.length = ps.length)
    (hbody : ∀ (f : Addr) (cdv : Value) (A : Around) (outer : List Env) (s : Shared) (H : Hp) (vs : List V) (Z : VK) (EE : XK), Room k (A.deeper (envOfC x (defScope st) s.heap.objs.size f cdv)) → (A.deeper (envOfC x (defScope st) s.heap.objs.size f cdv)).guards = some [] → sp vs H Z EE →
      ∃ t, PSs (cxOf CX0 P w K mg base N x (defScope st) f cdv A outer s H EE).nox (defBody st) t ∧ t { nx := fun _ H' => Z .non H', rt := Z } (start N vs) H) : CalG P w K mg base (k + 1) x sp := by
  obtain ⟨f, fd, hmg, F⟩ := D.ex
  exact ⟨f, fd, ps, fn_mk F S len (hbody f), hmg, F.kp, F.binds hbd⟩
end
section
variable {X : Cx} {pk : List (Addr × Obj)} {τ : L2.St} {H : Hp} {s : Shared} {k j : Nat} {sp : Sp} {f : Addr} {fd : FuncData} {ps : List Str} {Z : VK} {us : List Value} {vs : List V} {x : Str} {p pos : Pos} {e : Expr} {es : List Expr} {t : TA}
theorem run_fnG (F : FnG X.prog X.w X.K X.mg X.base k f fd ps sp) (hr : Room k X.A) (hg : X.A.guards = some []) (hbd : Binds X.K fd ps [])
    (I : Inv X pk τ H s) (r : Vals vs us) (h : sp vs H Z E0) : wpAny (model X.prog X.w) X.A (call (.ref f) us) (EP X pk τ Z) X.xe s := by
  have hlen : us.length = ps.length := by rw [← r.length]; exact F.len _ _ _ _ h
  have e1 : us ++ [] = us := List.append_nil us
  refine wpAny_call (codeAny_mono (F.run X.A X.stack s H ⟨us, []⟩ us vs Z E0 hr hg I.env0 (by have q := hbd s us I.kIn (by rw [e1]; exact hlen); rw [e1] at q; exact q) r h) fun r s' hsq => ?_)
  cases r with
  | error e => exact (show False from hsq).elim
  | ok fl =>
    cases fl with
    | ret u => exact I.after hsq
    | next => exact False.elim hsq
    | brk => exact False.elim hsq
    | cont => exact False.elim hsq
theorem pe_cG (c : CalG X.prog X.w X.K X.mg X.base k x sp) (hr : Room j X.A) (hg0 : X.A.guards = some []) (hkp : k ≤ j) (hg : Gl X x) (ha : PA X (e :: es) t)
    (hdb : (x == ("__debug__" : Str)) = false := by decide) (hes : starEach (e :: es) X.env = (false, eval e X.env) :: starEach es X.env := by rfl) (hpl : (backTo pos (starEach es X.env)).any (·.1) = false := by rfl) :
    PE X (.Call (.Name x p) (e :: es) [] pos) (tCall sp [] E0 t) := by
  obtain ⟨f, fd, ps, F, hmg, kp, b⟩ := c.ex
  refine ⟨fun pk s τ H Z I h => ?_⟩
  refine wpAny_Call_Name_kw (ld_glob I hg hmg ?_ hdb)
  refine PySem.W.callWith_K (h₀ := X.base) I.ok.mod.kin kp (thn (ha.run pos pk s τ H _ I h) fun us st1 ⟨vs, H1, I1, r, q⟩ => ⟨I1.kIn, ?_⟩) hes hpl
  have q : sp (vs ++ []) H1 Z E0 := q
  rw [List.append_nil] at q
  exact run_fnG F (hr.mono hkp) hg0 b I1 r q
end
end Own

namespace Own
open PySem PySem.Spec PyProof.Rows L2 Evl
theorem up_old {H : Hp} {p q : Addr} {o u : HO} (hp : H p = none) (h : H q = some u) : upd H p o q = some u := by
  rw [upd_ne (ne_of_none h hp)]
  exact h
theorem gen1 {H H1 : Hp} {p : Addr} {o : HO} (hq : upd H p o = H1) (hp : H p = none) : Ex H H1 ∧ H1 p = some o := by
  subst hq
  exact ⟨Ex.new hp, upd_same⟩
/-! ### tuples never change -/
def TEx (H H' : Hp) : Prop := ∀ a xs, H a = some (.tup xs) → H' a = some (.tup xs)
theorem TEx.refl (H : Hp) : TEx H H := fun _ _ h => h
theorem TEx.trans {H H1 H2 : Hp} (a : TEx H H1) (b : TEx H1 H2) : TEx H H2 := fun x o h => b x o (a x o h)
theorem TEx.of {H H' : Hp} (e : Ex H H') : TEx H H' := fun a _ h => e a _ h
theorem TEx.lst {H : Hp} {D : Addr} {xs : List V} {o : HO} (h : H D = some (.lst xs)) : TEx H (upd H D o) := fun a ys q => by
  rw [upd_ne (fun z => by rw [z, h] at q; cases q)]
  exact q
/-- two tuples, zipped -/
theorem walk_zipT {K : PySem.W.Frag} {a b : Addr} {xs ys : List V} {n : Nat} (hn : n = min xs.length ys.length) :
    Walk (RZ.ItzT K a b) n (fun H => SqT K H a xs ∧ SqT K H b ys) (YPair (fun i => xs[i]?) (fun i => ys[i]?)) := by
  refine ⟨fun i H hi h => ?_, fun H h => ⟨xs, ys, h.1, h.2, by omega⟩, fun i H x H' hi h y => ?_⟩
  · exact ⟨xs, ys, xs[i], ys[i], h.1, h.2, List.getElem?_eq_getElem (by omega), List.getElem?_eq_getElem (by omega)⟩
  · obtain ⟨T, u, v, rfl, h1, h2, h3, h4⟩ := y
    exact ⟨T, u, v, rfl, h1, h2, h3 _ h.1, h4 _ h.2⟩
/-- what is left of a comprehension, of a for, behind its source -/
def LcRest (g : TG) (tt : TT) (te : TE) (vs : List Nat) (σ : L2.St) (Q : VK) : It → Hp → Prop := fun J H1 => tLc (fun _ _ R => R J H1) g tt te vs σ H1 Q
def tLcO (wi : TI) (g : TG) (tt : TT) (te : TE) (vs : List Nat) : TE := fun σ H Q => wi σ H (LcRest g tt te vs σ Q)
def ForRest (g : TG) (tb : TS) (D : Ends) : L2.St → It → Hp → Prop := fun σ J H1 => tFor (fun _ _ R => R J H1) g tb D σ H1
def tForO (wi : TI) (g : TG) (tb : TS) : TS := fun D σ H => wi σ H (ForRest g tb D σ)
theorem pe_lcO {X : Cx} {e : Expr} {wi : TI} {g : TG} {tt : TT} {te : TE} {vs : List Nat} (h : PE X e (tLc wi g tt te vs)) : PE X e (tLcO wi g tt te vs) := h
theorem ps_setLcO {X : Cx} {st : Stmt} {wi : TI} {g k : TG} {tt : TT} {te : TE} {vs : List Nat} (h : PS X st (tAsg (tLc wi g tt te vs) k)) : PS X st (tAsg (tLcO wi g tt te vs) k) := h
theorem ps_forO {X : Cx} {st : Stmt} {wi : TI} {g : TG} {tb : TS} (h : PS X st (tFor wi g tb)) : PS X st (tForO wi g tb) := h
/-! ### the unions within a comprehension -/
section
variable {X : Cx} {s : Shared} {H : Hp} {sc : Scope} {ce : Env} {fp : List Addr} {s' : Shared} {H' : Hp} {sc' : Scope} {ce' : Env} {fp' : List Addr}
theorem pg_tupB {es : List Expr} {k n : Nat} {pos : Pos} {t : TGs} (hc : X.calm = true) (h : PGs (X.blk s H sc ce fp) es t) (hn : (assignEach es (X.blk s H sc ce fp).env).length = n := by rfl)
    (hst : (assignEach es (X.blk s H sc ce fp).env).findIdx? (·.1) = none := by rfl) : PG (X.blk s H sc ce fp) (.Tuple es k pos) (gTup X.K n t) := pg_tup (X := X.blk s H sc ce fp) hc h hn hst
theorem opAddB : OpR (X.blk s H sc ce fp) (binaryOp .Add) (rAdd X.K) := opAdd
theorem opEqB {k : Nat} (hr : Room k X.A) : OpR (X.blk s H sc ce fp) (compareOp .Eq) (rEqA X.K) := opEq hr
theorem opNeB {k : Nat} (hr : Room k X.A) : OpR (X.blk s H sc ce fp) (compareOp .NotEq) (rNeA X.K) := opNe hr
theorem opInB : OpR (X.blk s H sc ce fp) (compareOp .In) (rInA X.K) := opIn
theorem opNotInB : OpR (X.blk s H sc ce fp) (compareOp .NotIn) (rNotInA X.K) := opNotIn
theorem ixAnyB : IxR (X.blk s H sc ce fp) (rIxA X.K X.w) := ixAny
theorem slAnyB : SlR (X.blk s H sc ce fp) (rSlAny X.K) := slAny
theorem callLenB : CallR (X.blk s H sc ce fp) (.builtin "len") (rLenA X.K) := callLen
theorem opAddBB : OpR ((X.blk s H sc ce fp).blk s' H' sc' ce' fp') (binaryOp .Add) (rAdd X.K) := opAdd
theorem opEqBB {k : Nat} (hr : Room k X.A) : OpR ((X.blk s H sc ce fp).blk s' H' sc' ce' fp') (compareOp .Eq) (rEqA X.K) := opEq hr
theorem opNeBB {k : Nat} (hr : Room k X.A) : OpR ((X.blk s H sc ce fp).blk s' H' sc' ce' fp') (compareOp .NotEq) (rNeA X.K) := opNe hr
theorem opInBB : OpR ((X.blk s H sc ce fp).blk s' H' sc' ce' fp') (compareOp .In) (rInA X.K) := opIn
theorem opNotInBB : OpR ((X.blk s H sc ce fp).blk s' H' sc' ce' fp') (compareOp .NotIn) (rNotInA X.K) := opNotIn
theorem ixAnyBB : IxR ((X.blk s H sc ce fp).blk s' H' sc' ce' fp') (rIxA X.K X.w) := ixAny
theorem slAnyBB : SlR ((X.blk s H sc ce fp).blk s' H' sc' ce' fp') (rSlAny X.K) := slAny
theorem callLenBB : CallR ((X.blk s H sc ce fp).blk s' H' sc' ce' fp') (.builtin "len") (rLenA X.K) := callLen
end
/-- a for: Pv by the turn, the slots and the heap -/
theorem frG {J : It} {n : Nat} {G : Hp → Prop} {Y : Nat → Hp → V → Hp → Prop} (w : Walk J n G Y) {g : TG} {tb : TS} {D : Ends} {σ : L2.St} {H : Hp} (Pv : Nat → L2.St → Hp → Prop) (h0 : Pv 0 σ H) (hG : ∀ i σ H, i ≤ n → Pv i σ H → G H)
    (hs : ∀ i x σ H H', i < n → Pv i σ H → Y i H x H' → g x σ H' fun σ2 H2 => tb { D with nx := Pv (i + 1), ct := Pv (i + 1), bk := D.nx } σ2 H2) (hd : ∀ σ H, Pv n σ H → D.nx σ H) : ForRest g tb D σ J H := for_it w Pv h0 hG hs hd
/-- a comprehension whose turns may give anything: Pa speaks of the turn, what has been given, and tuples -/
theorem lcG {J : It} {n : Nat} {G : Hp → Prop} {Y : Nat → Hp → V → Hp → Prop} (w : Walk J n G Y) {g : TG} {tt : TT} {te : TE} {vs : List Nat} {σ : L2.St} {H1 : Hp} {Q : VK} (hn : n ≤ 40000) (hG0 : G H1) (hGm : ∀ H H', Ex H H' → G H → G H') (hY : ∀ i H x H', Y i H x H' → Ex H H')
    (Pa : Nat → List V → Hp → Prop) (hm : ∀ i ys H H', TEx H H' → Pa i ys H → Pa i ys H') (p0 : Pa 0 [] H1)
    (hs : ∀ i x H H' ys, i < n → Ex H1 H → Y i H x H' → Pa i ys H' → ∀ (N : V → Hp → Prop) (N0 : Hp → Prop), (∀ y H4, Ex H' H4 → Pa (i + 1) (ys ++ [y]) H4 → N y H4) → (∀ H3, Ex H' H3 → Pa (i + 1) ys H3 → N0 H3) →
      g x (wipe σ vs) H' fun σ2 H2 => wipe σ2 vs = wipe σ vs ∧ tt σ2 H2 fun b H3 => if b = true then te σ2 H3 N else N0 H3)
    (k : ∀ D H2 ys, H1 D = none → Ex H1 H2 → H2 D = some (.lst ys) → ys.length ≤ n → Pa n ys H2 → Q (.ref D) H2) :
    LcRest g tt te vs σ Q J H1 := by
  intro D hD
  refine lc_it w (fun i H => ∃ ys, Ex H1 H ∧ H D = some (.lst ys) ∧ ys.length ≤ i ∧ Pa i ys H) ⟨[], Ex.new hD, upd_same, Nat.zero_le _, hm _ _ _ _ (TEx.of (Ex.new hD)) p0⟩ (fun i H hi ⟨ys, e, _⟩ => hGm _ _ e hG0) ?_ ?_
  · rintro i x H H' hi ⟨ys, e, hd, hl, hp⟩ hy
    have e' := hY _ _ _ _ hy
    refine hs i x H H' ys hi e hy (hm _ _ _ _ (TEx.of e') hp) _ _ (fun y H4 e4 p4 => ?_) (fun H3 e3 p3 => ?_)
    · have d4 := e4 _ _ (e' _ _ hd)
      refine ⟨ys, d4, sz_lt (by omega), ys ++ [y], Ex.mut ((e.trans e').trans e4) hD, upd_same, ?_, hm _ _ _ _ (TEx.lst d4) p4⟩
      rw [List.length_append]
      show ys.length + 1 ≤ i + 1
      omega
    · exact ⟨ys, (e.trans e').trans e3, e3 _ _ (e' _ _ hd), by omega, p3⟩
  · rintro H ⟨ys, e, hd, hl, hp⟩
    exact k D H ys hD e hd hl hp
theorem ex_eq {H H' : Hp} (h : H' = H) : Ex H H' := by
  subst h
  exact Ex.refl _
theorem yAt_ex {xs : List V} : ∀ i H x H', YAt xs i H x H' → Ex H H' := fun _ _ _ _ h => ex_eq h.1
theorem yFn_ex {f : Nat → V} : ∀ i H x H', YFn f i H x H' → Ex H H' := fun _ _ _ _ h => ex_eq h.1
theorem yPair_ex {xs ys : Nat → Option V} : ∀ i H x H', YPair xs ys i H x H' → Ex H H' := fun _ _ _ _ h => by
  obtain ⟨T, u, v, _, h1, rfl, _, _⟩ := h
  exact Ex.new h1
/-! ### texts by their signs -/
def cs (z : Str) : List Nat := z.cps.toList
theorem cs_ext {a b : Str} (h : cs a = cs b) : a = b := PyProof.Rows.ext_toList h
theorem cs_len (z : Str) : z.length = (cs z).length := by simp [cs, Str.length]
theorem cs_add (a b : Str) : cs (a ++ b) = cs a ++ cs b := TL.tl_append a b
theorem cs_one (c : Nat) : cs ⟨#[c]⟩ = [c] := rfl
theorem cut_from (xs : List V) (j : Nat) : cutV xs (some (j : Int)) none = xs.drop j := by
  unfold cutV
  rw [HT.sIx_nat, HT.sIx_none]
  by_cases h : j ≤ xs.length
  · rw [Nat.min_eq_left h]
    apply List.take_of_length_le
    rw [List.length_drop]
    exact Nat.le_refl _
  · rw [Nat.min_eq_right (by omega), Nat.sub_self, List.take_zero, List.drop_of_length_le (by omega)]
theorem joinL_one : ∀ l : List Nat, TL.joinL [] (l.map fun c => [c]) = l
  | [] => rfl
  | [c] => rfl
  | c :: d :: r => by
    show [c] ++ ([] ++ TL.joinL [] ((d :: r).map fun c => [c])) = c :: d :: r
    rw [joinL_one (d :: r)]
    rfl
def sgn (c : Nat) : Str := ⟨#[c]⟩
theorem sum_sgn : ∀ cr : List Nat, ((cr.map sgn).map (·.length)).sum = cr.length
  | [] => rfl
  | c :: r => by
    rw [List.map_cons, List.map_cons, List.sum_cons, sum_sgn r, List.length_cons]
    show 1 + r.length = r.length + 1
    omega
theorem join_sgn (l : List Nat) : Txt.join ("" : Str) (l.map sgn) = SX.S l := by
  have e : l.map sgn = (l.map fun c => [c]).map SX.S := by
    rw [List.map_map]
    rfl
  rw [e]
  have q := SX.join_S [] (l.map fun c => [c])
  rw [joinL_one] at q
  exact q
theorem in_strs (z : Str) : ∀ ns : List Str, inV (.str z) (ns.map V.str) = decide (z ∈ ns)
  | [] => rfl
  | n :: ns => by
    have ih := in_strs z ns
    unfold inV at ih ⊢
    rw [List.map_cons, List.any_cons, ih]
    show ((n == z) || decide (z ∈ ns)) = decide (z ∈ n :: ns)
    by_cases h : n = z
    · subst h
      simp
    · have h2 : ¬ z = n := fun e => h e.symm
      have h3 : (n == z) = false := beq_eq_false_iff_ne.mpr h
      rw [h3, Bool.false_or]
      simp [h2]
theorem flat_strs (ns : List Str) : (ns.map V.str).all flatV = true := by
  rw [List.all_eq_true]
  intro x hx
  obtain ⟨y, _, rfl⟩ := List.mem_map.mp hx
  rfl
theorem str_at {ns : List Str} {i : Nat} {x : V} (h : (ns.map V.str)[i]? = some x) : ∃ z, ns[i]? = some z ∧ x = .str z := by
  rw [List.getElem?_map] at h
  cases e : ns[i]? with
  | none => rw [e] at h; cases h
  | some z => rw [e] at h; exact ⟨z, rfl, (Option.some.inj h).symm⟩
end Own

namespace Own
open PySem PySem.Spec PyProof.Rows L2 Evl
theorem listText_le (ts : List Str) : (listText ts).length ≤ piled ts + 3 := by
  unfold listText
  rw [strLen_append]
  cases ts with
  | nil => decide
  | cons t r =>
    show (textFrom 1 (("[" : Str) ++ ("" : Str) ++ t) r).length + 1 ≤ _
    rw [textFrom_length_pos _ _ _ (by decide), piled_cons, strLen_append, strLen_append]
    show 1 + 0 + t.length + piled r + 1 ≤ _
    omega
theorem tupleText_le (ts : List Str) : (tupleText ts).length ≤ piled ts + 3 := by
  unfold tupleText
  rw [strLen_append, strLen_append]
  have e3 : (((if ts.length == 1 then ",)" else ")" : String) : Str)).length ≤ 2 := by split <;> decide
  have e1 : ((("(" : String) : Str)).length = 1 := rfl
  by_cases h : ts = []
  · subst h
    decide
  · have := join_length_add ts h
    omega
mutual
/-- no text of d is longer -/
def wt : PyData → Nat
  | .none => 4
  | .bool _ => 5
  | .int _ => 1921
  | .str x => 10 * x.length + 2
  | .list xs => wts xs + 3
  | .tuple xs => wts xs + 3
  | .dict _ => 0
def wts : List PyData → Nat
  | [] => 0
  | x :: xs => wt x + 2 + wts xs
end
mutual
theorem shown_le : ∀ d : PyData, d.canLay0 = true → d.showable = true → d.shown.length ≤ wt d
  | .none, _, _ => by decide
  | .bool b, _, _ => by cases b <;> decide
  | .int i, _, h => int_text_len_1921 (of_decide_eq_true h)
  | .str x, h, _ => by
    refine StrLaws.reprText_len x fun c hc => ?_
    have h2 : x.cps.all (· < 0x110000) = true := h
    rw [← Array.all_toList] at h2
    have q := of_decide_eq_true ((List.all_eq_true.mp h2) c hc)
    exact Nat.lt_trans q (by decide)
  | .list xs, h, h2 => by
    have q := shownAll_le xs h h2
    have z := listText_le (PyData.shownAll xs)
    show (listText (PyData.shownAll xs)).length ≤ wts xs + 3
    omega
  | .tuple xs, h, h2 => by
    have q := shownAll_le xs h h2
    have z := tupleText_le (PyData.shownAll xs)
    show (tupleText (PyData.shownAll xs)).length ≤ wts xs + 3
    omega
  | .dict _, h, _ => by cases h
theorem shownAll_le : ∀ ds : List PyData, PyData.canLayAll0 ds = true → PyData.showableAll ds = true → piled (PyData.shownAll ds) ≤ wts ds
  | [], _, _ => Nat.le_refl _
  | d :: ds, h, h2 => by
    have h' : (d.canLay0 && PyData.canLayAll0 ds) = true := h
    have h2' : (d.showable && PyData.showableAll ds) = true := h2
    rw [Bool.and_eq_true] at h' h2'
    have q1 := shown_le d h'.1 h2'.1
    have q2 := shownAll_le ds h'.2 h2'.2
    show piled (d.shown :: PyData.shownAll ds) ≤ wt d + 2 + wts ds
    rw [piled_cons]
    omega
end
/-- data that may be shown and compared -/
def fine (d : PyData) : Prop := d.canLay0 = true ∧ d.showable = true ∧ d.depth ≤ 20 ∧ wt d ≤ 16000000
theorem fine.noDict {d : PyData} (h : fine d) : d.hasDict = false := PyData.hasDict_of_canLay d h.1
theorem fine.shp {d : PyData} (h : fine d) : SeqAt.shaped d = true := by
  unfold SeqAt.shaped
  rw [h.1, Bool.true_and]
  exact decide_eq_true (Nat.le_trans h.2.2.1 (by decide))
theorem fine.len {d : PyData} (h : fine d) : d.shown.length ≤ sizeLine := Nat.le_trans (shown_le d h.1 h.2.1) (Nat.le_trans h.2.2.2 (by decide))
/-- repr of any data -/
def rReprA (K : PySem.W.Frag) : List V → Hp → VK → Prop := fun xs H Q => ∃ v d, xs = [v] ∧ Dp K H v d ∧ fine d ∧ Q (.str d.shown) H
theorem callReprA {X : Cx} {k : Nat} (hg : X.A.guards = some []) (hr : Room k X.A) : CallR X (.builtin "repr") (rReprA X.K) := by
  intro pk s τ H xs us Q I r h
  obtain ⟨v, d, rfl, hd, hf, q⟩ := h
  cases hd with
  | lst h1 h2 => exact callRepr hg hr pk s τ H _ us Q I r ⟨_, _, rfl, .lst h1 h2, hf.2.1, hf.noDict, hf.2.2.1, hf.len, q⟩
  | tup h1 h2 => exact callRepr hg hr pk s τ H _ us Q I r ⟨_, _, rfl, .tup h1 h2, hf.2.1, hf.noDict, hf.2.2.1, hf.len, q⟩
  | non =>
    obtain ⟨u, rfl, ru⟩ := vals1 r
    cases ru
    exact PySem.P.repr_of_none ⟨.str "None", H, I.tok _, ⟨_, rfl⟩, q⟩
  | bl b =>
    obtain ⟨u, rfl, ru⟩ := vals1 r
    cases ru
    exact PySem.P.repr_of_bool ⟨.str (if b then "True" else "False"), H, I.tok _, ⟨_, by cases b <;> rfl⟩, by cases b <;> exact q⟩
  | int i =>
    obtain ⟨u, rfl, t, rfl⟩ := vals1 r
    exact PySem.P.repr_of_int (of_decide_eq_true hf.2.1) ⟨.str (toString i), H, I.tok _, ⟨_, rfl⟩, q⟩
  | str x =>
    obtain ⟨u, rfl, t, rfl⟩ := vals1 r
    exact PySem.P.repr_of_str ⟨.str (reprText x), H, I.tok _, ⟨_, rfl⟩, q⟩ hf.len
def spAlike (K : PySem.W.Frag) : Sp := fun vs H Q _ => ∃ (x y : V) (d : PyData), vs = [x, y] ∧ Dp K H x d ∧ Dp K H y d ∧ fine d ∧ Q (.bl true) H
/-- bounds by parts -/
def fin (n W : Nat) (d : PyData) : Prop := d.canLay0 = true ∧ d.showable = true ∧ d.depth ≤ n ∧ wt d ≤ W
theorem fin.fine {n W : Nat} {d : PyData} (h : fin n W d) (h1 : n ≤ 20) (h2 : W ≤ 16000000) : fine d := ⟨h.1, h.2.1, Nat.le_trans h.2.2.1 h1, Nat.le_trans h.2.2.2 h2⟩
theorem fin.mono {n W n' W' : Nat} {d : PyData} (h : fin n W d) (h1 : n ≤ n') (h2 : W ≤ W') : fin n' W' d := ⟨h.1, h.2.1, Nat.le_trans h.2.2.1 h1, Nat.le_trans h.2.2.2 h2⟩
theorem fin_all {n W : Nat} : ∀ {ds : List PyData}, (∀ d ∈ ds, fin n W d) → PyData.canLayAll0 ds = true ∧ PyData.showableAll ds = true ∧ PyData.depthAll ds ≤ n ∧ wts ds ≤ ds.length * (W + 2)
  | [], _ => ⟨rfl, rfl, Nat.zero_le _, Nat.zero_le _⟩
  | d :: ds, h => by
    obtain ⟨a1, a2, a3, a4⟩ := h d List.mem_cons_self
    obtain ⟨b1, b2, b3, b4⟩ := fin_all fun x hx => h x (List.mem_cons_of_mem _ hx)
    refine ⟨?_, ?_, ?_, ?_⟩
    · show (d.canLay0 && PyData.canLayAll0 ds) = true
      rw [a1, b1]
      rfl
    · show (d.showable && PyData.showableAll ds) = true
      rw [a2, b2]
      rfl
    · show max d.depth (PyData.depthAll ds) ≤ n
      omega
    · show wt d + 2 + wts ds ≤ (ds.length + 1) * (W + 2)
      rw [Nat.add_mul]
      omega
theorem fin_list {n W m : Nat} {ds : List PyData} (h : ∀ d ∈ ds, fin n W d) (hm : ds.length ≤ m) : fin (n + 1) (m * (W + 2) + 3) (.list ds) := by
  obtain ⟨b1, b2, b3, b4⟩ := fin_all h
  refine ⟨b1, b2, Nat.succ_le_succ b3, ?_⟩
  show wts ds + 3 ≤ _
  have q := Nat.mul_le_mul_right (W + 2) hm
  omega
theorem fin_tup {n W m : Nat} {ds : List PyData} (h : ∀ d ∈ ds, fin n W d) (hm : ds.length ≤ m) : fin (n + 1) (m * (W + 2) + 3) (.tuple ds) := by
  obtain ⟨b1, b2, b3, b4⟩ := fin_all h
  refine ⟨b1, b2, Nat.succ_le_succ b3, ?_⟩
  show wts ds + 3 ≤ _
  have q := Nat.mul_le_mul_right (W + 2) hm
  omega
theorem fin_str {z : Str} {L : Nat} (h : (PyData.str z).canLay0 = true) (hl : z.length ≤ L) : fin 0 (10 * L + 2) (.str z) := by
  refine ⟨h, rfl, Nat.le_refl _, ?_⟩
  show 10 * z.length + 2 ≤ _
  omega
theorem fin_bool (b : Bool) : fin 0 5 (.bool b) := ⟨rfl, rfl, Nat.le_refl _, Nat.le_refl _⟩
theorem fin_none : fin 0 5 .none := ⟨rfl, rfl, Nat.le_refl _, by show 4 ≤ 5; decide⟩
theorem fin_int {i : Int} (h : i.natAbs.log2 < 1920) : fin 0 1921 (.int i) := ⟨rfl, decide_eq_true h, Nat.le_refl _, Nat.le_refl _⟩
/-- a text times 0 or 1 -/
def rMulS : R2 := fun x y H Q => ∃ (z : Str) (k : Bool), x = .str z ∧ y = .int (if k then 1 else 0) ∧ z.length ≤ 100000 ∧ Q (.str (if k then z else Str.empty)) H
theorem op_mulS {X : Cx} : OpR X (binaryOp .Mult) rMulS := by
  intro pk s τ H x y v u Q I rx ry h
  obtain ⟨z, k, rfl, rfl, hl, q⟩ := h
  obtain ⟨t, rfl⟩ := rx
  cases k with
  | false =>
    obtain ⟨t', rfl⟩ := ry
    exact PySem.P.mul_str_none (by decide) (by decide) ⟨.str _, H, I.tok _, ⟨_, rfl⟩, q⟩
  | true =>
    obtain ⟨t', rfl⟩ := ry
    have z : EP X pk τ Q (.str z t) s := ⟨.str _, H, I, ⟨_, rfl⟩, q⟩
    refine PySem.P.mul_str (by decide) (fun _ h => absurd h (by simp)) (fun _ h => absurd h (by simp)) ?_
    rw [if_neg (by decide), if_pos (by simp)]
    exact z
end Own

namespace Own
open PySem PySem.Spec PyProof.Rows L2 Evl
/-- a statement that is never reached -/
theorem ps_dead {X : Cx} {st : Stmt} : PS X st (fun _ _ _ => False) := ⟨fun _ _ _ _ _ _ z => z.elim⟩
/-- a class whose instances are made by an __init__ with sp -/
structure MakG (P : Program) (w : World) (K : PySem.W.Frag) (mg : Str → Option Value) (base : Heap) (k : Nat) (x : Str) (C : Addr) (sp : Sp) : Prop where
  at_ : mg x = some (.ref C)
  ex : ∃ (f : Addr) (fd : FuncData) (ps : List Str), FnG P w K mg base k f fd ps sp ∧ Mk K C f ∧ Binds K fd ps []
/-- a method with sp -/
structure MetG (P : Program) (w : World) (K : PySem.W.Frag) (mg : Str → Option Value) (base : Heap) (k : Nat) (C : Addr) (m : Str) (sp : Sp) : Prop where
  cl : Cls K C
  ex : ∃ (f : Addr) (fd : FuncData) (ps : List Str), FnG P w K mg base k f fd ps sp ∧ Meth K C m f ∧ Binds K fd ps []
section
variable {X : Cx} {pk : List (Addr × Obj)} {τ : L2.St} {H : Hp} {s : Shared} {k j : Nat} {sp : Sp} {f C : Addr} {fd : FuncData} {ps : List Str} {Z : VK} {us : List Value} {vs : List V} {x m : Str} {p pos apos : Pos} {e o : Expr} {es : List Expr} {t : TA} {ta : TE}
theorem run_mkG (M : Mk X.K C f) (F : FnG X.prog X.w X.K X.mg X.base k f fd ps sp) (hr : Room (k + 1) X.A) (hg : X.A.guards = some []) (hbd : Binds X.K fd ps []) (I : Inv X pk τ H s) (r : Vals vs us)
    (h : ∀ y d, H y = none → H d = none → d ≠ y → sp (.ref y :: vs) (upd (upd H d (.own y)) y (.ins C d [])) (fun v H2 => v = .non ∧ Z (.ref y) H2) E0) : wpAny (model X.prog X.w) X.A (call (.ref C) us) (EP X pk τ Z) X.xe s := by
  have q0 := h (s.heap.objs.size + 1) s.heap.objs.size (I.hok.fresh (Nat.le_succ _)) (I.hok.fresh (Nat.le_refl _)) (Nat.ne_of_lt (Nat.lt_succ_self _))
  have J := Inv.made (C := C) I
  obtain ⟨n, hn⟩ : ∃ n : Addr, s.heap.objs.size + 1 = n := ⟨_, rfl⟩
  have rr : Vals (V.ref (s.heap.objs.size + 1) :: vs) (Value.ref (s.heap.objs.size + 1) :: us) := .cons rfl r
  have hl : ((Value.ref (s.heap.objs.size + 1) :: us) ++ []).length = ps.length := by
    rw [List.append_nil, ← rr.length]
    exact F.len _ _ _ _ q0
  have hb := hbd _ (Value.ref (s.heap.objs.size + 1) :: us) J.kIn hl
  rw [List.append_nil] at hb
  have run := F.run (X.A.under (.builtin "type.__call__" ⟨.ref C :: us, []⟩)) X.stack _ _ ⟨Value.ref (s.heap.objs.size + 1) :: us, []⟩ _ _ _ E0 (hr.make C us []) hg (J.env0.make C us []) hb rr q0
  refine wpAny_call (make_map (f := f) I.kIn M.makes M.init (beq_iff_eq.mp M.fn) (codeAny_mono run fun res s' hsq => ?_))
  match res, hsq with
  | .error _, hsq => exact (show False from hsq).elim
  | .ok (.ret u), hsq =>
    obtain ⟨v, H4, J4, rv, ev, q4⟩ := J.after hsq
    subst ev
    exact ⟨rv, ⟨V.ref (s.heap.objs.size + 1), H4, J4, rfl, q4⟩⟩
  | .ok .next, hsq => exact False.elim hsq
  | .ok .brk, hsq => exact False.elim hsq
  | .ok .cont, hsq => exact False.elim hsq
theorem pe_mkG (c : MakG X.prog X.w X.K X.mg X.base k x C sp) (hr : Room j X.A) (hg0 : X.A.guards = some []) (hkp : k + 1 ≤ j) (hg : Gl X x) (ha : PA X (e :: es) t)
    (hdb : (x == ("__debug__" : Str)) = false := by decide) (hes : starEach (e :: es) X.env = (false, eval e X.env) :: starEach es X.env := by rfl) (hpl : (backTo pos (starEach es X.env)).any (·.1) = false := by rfl) :
    PE X (.Call (.Name x p) (e :: es) [] pos) (tMake C sp [] E0 t) := by
  obtain ⟨f, fd, ps, F, M, b⟩ := c.ex
  refine ⟨fun pk s τ H Z I h => ?_⟩
  refine wpAny_Call_Name_kw (ld_glob I hg c.at_ ?_ hdb)
  refine PySem.W.callWith_K (h₀ := X.base) I.ok.mod.kin M.kp (thn (ha.run pos pk s τ H _ I h) fun us st1 ⟨vs, H1, I1, r, q⟩ => ⟨I1.kIn, ?_⟩) hes hpl
  refine run_mkG M F (hr.mono hkp) hg0 b I1 r fun y d h1 h2 h3 => ?_
  have q := q y d h1 h2 h3
  rw [List.append_nil] at q
  exact q
theorem pe_mtG0 {pl : Sem Bool} (c : MetG X.prog X.w X.K X.mg X.base k C m sp) (he : PE X o ta) (hr : Room j X.A) (hg0 : X.A.guards = some []) (hkp : k ≤ j)
    (hte : eval (.Call (.Attribute o m apos) [] [] pos) X.env = (do
      let ov ← eval o X.env
      standAt apos.atName
      let (g, first) ← holding [ov] (getMethod ov m pl)
      callWith pos g first (backTo pos (starEach [] X.env)) (backToKw pos (keywordEach [] X.env))) := by rfl) :
    PE X (.Call (.Attribute o m apos) [] [] pos) (tMeth C m sp [] E0 ta tNil) := by
  obtain ⟨f, fd, ps, F, M, b⟩ := c.ex
  refine ⟨fun pk s τ H Z I h => PySem.W.methodCall_KW (pl := pl) (thn (he.run pk s τ H _ I h) fun u st1 ⟨y, H1, I1, ry, a, d, fs, ey, ea, l, q⟩ => ?_) hte⟩
  subst ey
  have eu : u = Value.ref a := ry
  subst eu
  refine getmeth_ok I1 ea c.cl M l (PySem.W.callWith_K0 (first := [.ref a]) I1.kIn M.kp ?_)
  exact run_fnG (us := [.ref a]) (vs := [.ref a]) F (hr.mono hkp) hg0 b I1 (.cons rfl .nil) q
theorem pe_mtG {pl : Sem Bool} (c : MetG X.prog X.w X.K X.mg X.base k C m sp) (he : PE X o ta) (hr : Room j X.A) (hg0 : X.A.guards = some []) (hkp : k ≤ j) (ha : PA X (e :: es) t)
    (hes : starEach (e :: es) X.env = (false, eval e X.env) :: starEach es X.env := by rfl) (hpl : (backTo pos (starEach es X.env)).any (·.1) = false := by rfl)
    (hte : eval (.Call (.Attribute o m apos) (e :: es) [] pos) X.env = (do
      let ov ← eval o X.env
      standAt apos.atName
      let (g, first) ← holding [ov] (getMethod ov m pl)
      callWith pos g first (backTo pos (starEach (e :: es) X.env)) (backToKw pos (keywordEach [] X.env))) := by rfl) :
    PE X (.Call (.Attribute o m apos) (e :: es) [] pos) (tMeth C m sp [] E0 ta t) := by
  obtain ⟨f, fd, ps, F, M, b⟩ := c.ex
  refine ⟨fun pk s τ H Z I h => PySem.W.methodCall_KW (pl := pl) (thn (he.run pk s τ H _ I h) fun u st1 ⟨y, H1, I1, ry, a, d, fs, ey, ea, l, q⟩ => ?_) hte⟩
  subst ey
  have eu : u = Value.ref a := ry
  subst eu
  refine getmeth_ok I1 ea c.cl M l ?_
  refine PySem.W.callWith_K (first := [.ref a]) (h₀ := X.base) I1.ok.mod.kin M.kp (thn (ha.run pos pk st1 τ H1 _ I1 q) fun us st2 ⟨vs, H2, I2, r, q2⟩ => ⟨I2.kIn, ?_⟩) hes hpl
  have q2 : sp (.ref a :: (vs ++ [])) H2 Z E0 := q2
  rw [List.append_nil] at q2
  exact run_fnG (us := .ref a :: us) (vs := .ref a :: vs) F (hr.mono hkp) hg0 b I2 (.cons rfl r) q2
end
end Own

namespace Own
open PySem PySem.Spec PyProof.Rows L2 Evl
/-! ### two sources in one comprehension -/
def Lc2Rest (g : TG) (tt : TT) (wi1 : TI) (g1 : TG) (tt1 : TT) (te : TE) (vs vs1 : List Nat) (σ : L2.St) (Q : VK) : It → Hp → Prop := fun J H1 => tLc2 (fun _ _ R => R J H1) g tt wi1 g1 tt1 te vs vs1 σ H1 Q
def tLc2O (wi : TI) (g : TG) (tt : TT) (wi1 : TI) (g1 : TG) (tt1 : TT) (te : TE) (vs vs1 : List Nat) : TE := fun σ H Q => wi σ H (Lc2Rest g tt wi1 g1 tt1 te vs vs1 σ Q)
theorem pe_lc2O {X : Cx} {e : Expr} {wi wi1 : TI} {g g1 : TG} {tt tt1 : TT} {te : TE} {vs vs1 : List Nat} (h : PE X e (tLc2 wi g tt wi1 g1 tt1 te vs vs1)) : PE X e (tLc2O wi g tt wi1 g1 tt1 te vs vs1) := h
theorem ps_setLc2O {X : Cx} {st : Stmt} {wi wi1 : TI} {g g1 k : TG} {tt tt1 : TT} {te : TE} {vs vs1 : List Nat} (h : PS X st (tAsg (tLc2 wi g tt wi1 g1 tt1 te vs vs1) k)) : PS X st (tAsg (tLc2O wi g tt wi1 g1 tt1 te vs vs1) k) := h
theorem piAnyB {X : Cx} {s : Shared} {H : Hp} {sc : Scope} {ce : Env} {fp : List Addr} {tg l : Expr} {tl : TE} (hl : PE (X.blk s H sc ce fp) l tl) : PI (X.blk s H sc ce fp) tg l (iAny X.K tl) := piAny hl
/-- what is left of the second source's loop -/
def InRest (D : Addr) (Nx : Hp → Prop) (g1 : TG) (tt1 : TT) (te : TE) (vs1 : List Nat) (σ2 : L2.St) : It → Hp → Prop := fun J1 H4 => ∃ W1 : Nat → Nat → Hp → Prop, (∃ m, W1 0 m H4) ∧ ∀ j k H, W1 j k H →
  (J1.stop j H ∧ Nx H) ∨ (J1.go j H ∧ ∃ Nx1 : Hp → Prop, (∀ H', Nx1 H' → ∃ k', k' < k ∧ W1 (j + 1) k' H') ∧ ∀ x H', J1.yld j H x H' → g1 x (wipe σ2 vs1) H' fun σ3 H5 => wipe σ3 vs1 = wipe σ2 vs1 ∧ tt1 σ3 H5 fun b H6 =>
    if b = true then te σ3 H6 fun y H7 => ∃ acc, H7 D = some (.lst acc) ∧ acc.length < sizeLine ∧ Nx1 (upd H7 D (.lst (acc ++ [y]))) else Nx1 H6)
theorem inG {J1 : It} {n1 : Nat} {G1 : Hp → Prop} {Y1 : Nat → Hp → V → Hp → Prop} (w1 : Walk J1 n1 G1 Y1) {D : Addr} {Nx : Hp → Prop} {g1 : TG} {tt1 : TT} {te : TE} {vs1 : List Nat} {σ2 : L2.St} {H1 H4 : Hp} {ys : List V}
    (hD : H1 D = none) (e0 : Ex H1 H4) (hd : H4 D = some (.lst ys)) (hG1 : ∀ H, Ex H1 H → TEx H4 H → G1 H) (hY1 : ∀ i H x H', Y1 i H x H' → Ex H H') (Pb : Nat → List V → Hp → Prop) (hm : ∀ j zs H H', TEx H H' → Pb j zs H → Pb j zs H') (hl : ∀ j zs H, Pb j zs H → zs.length ≤ 40000) (p0 : Pb 0 ys H4)
    (hs : ∀ j x H5 H6 zs, j < n1 → Ex H1 H5 → TEx H4 H5 → Y1 j H5 x H6 → Pb j zs H6 → ∀ (N : V → Hp → Prop) (N1 : Hp → Prop), (∀ y H7, Ex H6 H7 → Pb (j + 1) (zs ++ [y]) H7 → N y H7) → (∀ H7, Ex H6 H7 → Pb (j + 1) zs H7 → N1 H7) →
      g1 x (wipe σ2 vs1) H6 fun σ3 H7 => wipe σ3 vs1 = wipe σ2 vs1 ∧ tt1 σ3 H7 fun b H8 => if b = true then te σ3 H8 N else N1 H8)
    (hend : ∀ zs H, Ex H1 H → TEx H4 H → H D = some (.lst zs) → Pb n1 zs H → Nx H) : InRest D Nx g1 tt1 te vs1 σ2 J1 H4 := by
  refine ⟨fun j k H => k = n1 - j ∧ j ≤ n1 ∧ ∃ zs, Ex H1 H ∧ TEx H4 H ∧ H D = some (.lst zs) ∧ Pb j zs H, ⟨n1, by simp, Nat.zero_le _, ys, e0, TEx.refl _, hd, p0⟩, ?_⟩
  rintro j k H ⟨rfl, hj, zs, e, t, d, p⟩
  have hg := hG1 H e t
  by_cases hlt : j < n1
  · refine .inr ⟨w1.goes j H hlt hg, fun H' => ∃ zs, Ex H1 H' ∧ TEx H4 H' ∧ H' D = some (.lst zs) ∧ Pb (j + 1) zs H', fun H' q => ⟨n1 - (j + 1), by omega, rfl, hlt, q⟩, fun x H' y => ?_⟩
    have hy := w1.yields j H x H' hlt hg y
    have e' := hY1 _ _ _ _ hy
    refine hs j x H H' zs hlt e t hy (hm _ _ _ _ (TEx.of e') p) _ _ (fun v H7 e7 p7 => ?_) (fun H7 e7 p7 => ?_)
    · have d7 := e7 _ _ (e' _ _ d)
      have b := hl _ _ _ p
      exact ⟨zs, d7, sz_lt (by omega), zs ++ [v], Ex.mut ((e.trans e').trans e7) hD, (t.trans (TEx.of (e'.trans e7))).trans (TEx.lst d7), upd_same, hm _ _ _ _ (TEx.lst d7) p7⟩
    · exact ⟨zs, (e.trans e').trans e7, t.trans (TEx.of (e'.trans e7)), e7 _ _ (e' _ _ d), p7⟩
  · have ej : j = n1 := by omega
    subst ej
    exact .inl ⟨w1.stops H hg, hend zs H e t d p⟩
/-- a comprehension over two sources whose turns may give anything -/
theorem lc2G {J : It} {n : Nat} {G : Hp → Prop} {Y : Nat → Hp → V → Hp → Prop} (w : Walk J n G Y) {g : TG} {tt : TT} {wi1 : TI} {g1 : TG} {tt1 : TT} {te : TE} {vs vs1 : List Nat} {σ : L2.St} {H1 : Hp} {Q : VK} (hG0 : G H1) (hGm : ∀ H H', Ex H H' → G H → G H') (hY : ∀ i H x H', Y i H x H' → Ex H H')
    (Pa : Nat → List V → Hp → Prop) (hm : ∀ i ys H H', TEx H H' → Pa i ys H → Pa i ys H') (p0 : Pa 0 [] H1)
    (hs : ∀ i x H H' ys, i < n → Ex H1 H → Y i H x H' → Pa i ys H' → ∀ (D : Addr) (Nx : Hp → Prop), H1 D = none → H' D = some (.lst ys) → (∀ zs H3, Ex H1 H3 → H3 D = some (.lst zs) → Pa (i + 1) zs H3 → Nx H3) →
      g x (wipe σ vs) H' fun σ2 H2 => wipe σ2 vs = wipe σ vs ∧ tt σ2 H2 fun b H3 => if b = true then wi1 σ2 H3 (InRest D Nx g1 tt1 te vs1 σ2) else Nx H3)
    (k : ∀ D H2 ys, H1 D = none → Ex H1 H2 → H2 D = some (.lst ys) → Pa n ys H2 → Q (.ref D) H2) : Lc2Rest g tt wi1 g1 tt1 te vs vs1 σ Q J H1 := by
  intro D hD
  refine ⟨fun i m H => m = n - i ∧ i ≤ n ∧ ∃ ys, Ex H1 H ∧ H D = some (.lst ys) ∧ Pa i ys H, ⟨n, by simp, Nat.zero_le _, [], Ex.new hD, upd_same, hm _ _ _ _ (TEx.of (Ex.new hD)) p0⟩, ?_⟩
  rintro i m H ⟨rfl, hi, ys, e, d, p⟩
  have hg := hGm _ _ e hG0
  by_cases hlt : i < n
  · refine .inr ⟨w.goes i H hlt hg, fun H' => ∃ ys, Ex H1 H' ∧ H' D = some (.lst ys) ∧ Pa (i + 1) ys H', fun H' q => ⟨n - (i + 1), by omega, rfl, hlt, q⟩, fun x H' y => ?_⟩
    have hy := w.yields i H x H' hlt hg y
    have e' := hY _ _ _ _ hy
    exact hs i x H H' ys hlt e hy (hm _ _ _ _ (TEx.of e') p) D _ hD (e' _ _ d) fun zs H3 e3 d3 p3 => ⟨zs, e3, d3, p3⟩
  · have ej : i = n := by omega
    subst ej
    exact .inl ⟨w.stops H hg, k D H ys hD e d p⟩
/-! ### xs[::s], s being 1 or -1 -/
def tDirL (K : PySem.W.Frag) (te ts : TE) : TE := fun σ H Q => te σ H fun x H1 => tPart ts σ H1 fun o H2 => ∃ (a : Addr) (xs : List V) (i : Bool), x = .ref a ∧ SqL K H2 a xs ∧ o = some (if i = true then 1 else -1) ∧ ∀ p, H2 p = none → Q (.ref p) (upd H2 p (.lst (if i = true then xs else xs.reverse)))
theorem cut_all (xs : List V) : cutV xs none none = xs := by
  unfold cutV
  rw [HT.sIx_none, HT.sIx_none, List.drop_zero, Nat.sub_zero, List.take_length]
theorem pe_dirL {X : Cx} {e es : Expr} {te ts : TE} {p3 pos : Pos} (he : PE X e te) (hs : PE X es ts)
    (hsub : ∀ (a l : Addr), subscripted (.Slice none none (some es) p3) false (.ref a) (.ref l) = operate [.ref a, .ref l] (getItem (.ref a) (.ref l)) := by intro _ _; with_unfolding_all rfl) : PE X (.Subscript e (.Slice none none (some es) p3) pos) (tDirL X.K te ts) := by
  refine ⟨fun pins s σ H Q I h => ?_⟩
  refine Subscript_ (thn (he.run pins s σ H _ I h) fun v s1 ⟨x, H1, I1, r1, q1⟩ => ?_)
  refine wpAny_Slice (thn (po_none.run pins s1 σ H1 (fun o H2 => o = none ∧ H2 = H1) I1 ⟨rfl, rfl⟩) fun vl s2 ⟨l, H2, I2, pl, el, e2⟩ => ?_)
  subst el e2
  refine thn (po_none.run pins s2 σ H2 (fun o H3 => o = none ∧ H3 = H2) I2 ⟨rfl, rfl⟩) fun vu s3 ⟨u, H3, I3, pu, eu, e3⟩ => ?_
  subst eu e3
  have hst : PO X (some es) (tPart ts) := po_some hs
  refine thn (hst.run pins s3 σ H3 _ I3 q1) fun vs s4 ⟨o, H4, I4, ps, a, xs, ib, ex, hx, eo, q⟩ => ?_
  subst ex
  cases r1
  subst eo
  have I5 : Inv X pins σ H4 { s4 with heap := s4.heap.push { cls := .type "slice", data := .fields #[vl, vu, vs] } } := I4.kept (t' := s4.toks) fun b ob q => Heap.get?_push_of_some _ q
  obtain ⟨its, r, ht, hz⟩ := I5.list hx
  have hlen := r.length
  show wpAny (model X.prog X.w) X.A (subscriptTail e (.Slice none none (some es) p3) (.ref a) (.ref s4.heap.objs.size)) (EP X pins σ Q) X.xe { s4 with heap := s4.heap.push { cls := .type "slice", data := .fields #[vl, vu, vs] } }
  refine tail_any (ops := [.ref a, .ref s4.heap.objs.size]) ht.isList.typeIs (PySem.slot_list_getitem.lookup) ?_ (hsub _ _)
  cases ib with
  | true =>
    simp only [if_true] at q ps ⊢
    refine wpAny_getItem_list_slice ht.isList (Heap.IsSliceOf.new _ vl vu vs) pl pu ps (by decide) ?_ (by rw [List.size_toArray]; omega)
    rw [show slicePick its.toArray none none (some 1) = slicePick its.toArray none none none from rfl, slicePick_cut, HT.sIx_none, HT.sIx_none, List.drop_zero, Nat.sub_zero, List.take_length]
    exact ⟨.ref _, _, I5.laid (t' := s4.toks) (o := .lst xs) (fun b ob q => Heap.get?_push_of_some _ q) (Nat.le_refl _) ⟨hz, _, 0, r, Heap.get?_push_size _ rfl⟩, rfl, q _ (I5.hok.fresh (Nat.le_refl _))⟩
  | false =>
    simp only [Bool.false_eq_true, if_false] at q ps ⊢
    refine wpAny_getItem_list_slice ht.isList (Heap.IsSliceOf.new _ vl vu vs) pl pu ps (by decide) ?_ (by rw [List.size_toArray]; omega)
    rw [PySem.W.krv_pick]
    exact ⟨.ref _, _, I5.laid (t' := s4.toks) (o := .lst xs.reverse) (fun b ob q => Heap.get?_push_of_some _ q) (Nat.le_refl _) ⟨by rw [List.length_reverse]; exact hz, _, 0, r.reverse, Heap.get?_push_size _ rfl⟩, rfl, q _ (I5.hok.fresh (Nat.le_refl _))⟩
theorem ifT {b : Bool} {p q : Prop} (h : b = true) (x : p) : if b = true then p else q := by
  rw [h]
  exact iteT x
theorem ifF {b : Bool} {p q : Prop} (h : b = false) (x : q) : if b = true then p else q := by
  rw [h]
  exact iteF x
theorem cut_to (xs : List V) (j : Nat) : cutV xs none (some (j : Int)) = xs.take j := by
  unfold cutV
  rw [HT.sIx_nat, HT.sIx_none, List.drop_zero, Nat.sub_zero]
  by_cases h : j ≤ xs.length
  · rw [Nat.min_eq_left h]
  · rw [Nat.min_eq_right (by omega), List.take_of_length_le (Nat.le_refl _), List.take_of_length_le (by omega)]
/-! ### repr of a dict of texts and ints -/
def kvV (p : Str × Int) : Key × V := (Sum.inr p.1, .int p.2)
def kvP (p : Str × Int) : PyData × PyData := (.str p.1, .int p.2)
def dcD (kv : List (Str × Int)) : PyData := .dict (kv.map kvP)
theorem dc_reads {P : Program} {w : World} {h : Heap} : ∀ {kv : List (Str × Int)} {us : List (Key × Value)} {es : List DictEntry}, KV (kv.map kvV) us → Pairs (mixKind P w) es us →
    ReadsAll h (es.map (·.key)) ((kv.map kvP).map (·.1)) [] ∧ ReadsAll h (es.map (·.val)) ((kv.map kvP).map (·.2)) []
  | [], _, _, .nil, .nil => ⟨.nil, .nil⟩
  | p :: kv, u :: us, e :: es, .cons a b, .cons c d f => by
    obtain ⟨q1, q2⟩ := dc_reads b f
    obtain ⟨a1, t, a2⟩ := a
    have a1 : Sum.inr p.1 = u.1 := a1
    rcases keyIs_shape (show keyIs u.1 e.key = true from c) with ⟨i, t', e1, e2⟩ | ⟨x, t', e1, e2⟩
    · rw [← a1] at e1
      cases e1
    · rw [← a1] at e1
      cases e1
      refine ⟨?_, ?_⟩
      · show ReadsAll h (e.key :: es.map (·.key)) (PyData.str p.1 :: (kv.map kvP).map (·.1)) ([] ++ [])
        rw [e2]
        exact .cons (.str _ _) q1
      · show ReadsAll h (e.val :: es.map (·.val)) (PyData.int p.2 :: (kv.map kvP).map (·.2)) ([] ++ [])
        rw [d, a2]
        exact .cons (.int _ _) q2
def kvOk (p : Str × Int) : Prop := (PyData.str p.1).canLay0 = true ∧ p.1.length ≤ 100 ∧ p.2.natAbs.log2 < 1920
theorem dc_depth : ∀ kv : List (Str × Int), PyData.depthKv (kv.map kvP) = 0
  | [] => rfl
  | p :: kv => by
    show max (max 0 0) (PyData.depthKv (kv.map kvP)) = 0
    rw [dc_depth kv]
    rfl
theorem dc_show : ∀ {kv : List (Str × Int)}, (∀ p ∈ kv, kvOk p) → PyData.showableKv (kv.map kvP) = true ∧ ((PyData.shownKv (kv.map kvP)).map (·.length)).sum ≤ kv.length * 3000 ∧ (PyData.shownKv (kv.map kvP)).length = kv.length
  | [], _ => ⟨rfl, Nat.le_refl _, rfl⟩
  | p :: kv, h => by
    obtain ⟨a1, a2, a3⟩ := dc_show fun q hq => h q (List.mem_cons_of_mem _ hq)
    obtain ⟨b1, b2, b3⟩ := h p List.mem_cons_self
    have s1 := shown_le (.str p.1) b1 rfl
    have s2 := shown_le (.int p.2) rfl (decide_eq_true b3)
    have s1 : (PyData.shown (.str p.1)).length ≤ 10 * p.1.length + 2 := s1
    have s2 : (PyData.shown (.int p.2)).length ≤ 1921 := s2
    refine ⟨?_, ?_, ?_⟩
    · show ((PyData.str p.1).showable && (PyData.int p.2).showable && PyData.showableKv (kv.map kvP)) = true
      rw [a1, show (PyData.str p.1).showable = true from rfl, show (PyData.int p.2).showable = true from decide_eq_true b3]
      rfl
    · show ((PyData.shownKv ((PyData.str p.1, PyData.int p.2) :: kv.map kvP)).map (·.length)).sum ≤ (kv.length + 1) * 3000
      rw [PyData.shownKv_cons, List.map_cons, List.sum_cons, strLen_append, strLen_append]
      have : (": " : Str).length = 2 := rfl
      omega
    · show (PyData.shownKv ((PyData.str p.1, PyData.int p.2) :: kv.map kvP)).length = kv.length + 1
      rw [PyData.shownKv_cons, List.length_cons, a3]
def rReprK : List V → Hp → VK → Prop := fun xs H Q => ∃ (a : Addr) (kv : List (Str × Int)), xs = [.ref a] ∧ H a = some (.dK (kv.map kvV)) ∧ (∀ p ∈ kv, kvOk p) ∧ kv.length ≤ 1000 ∧ Q (.str (dcD kv).shown) H
theorem callReprK {X : Cx} {k : Nat} (hg : X.A.guards = some []) (hr : Room k X.A) : CallR X (.builtin "repr") rReprK := by
  intro pk s τ H xs us Q I r h
  obtain ⟨a, kv, rfl, ha, hok, hl, q⟩ := h
  rw [Vals.ref1 r]
  obtain ⟨hz, hsm, vs, rel, o, es, ep, ho, hex, hdat, hko, hp, hn⟩ := dk_of I.hok ha
  obtain ⟨r1, r2⟩ := dc_reads (h := s.heap) rel hp
  obtain ⟨s1, s2, s3⟩ := dc_show hok
  have rd : Reads s.heap (.ref a) (dcD kv) (a :: [] ++ []) := Reads.dict ho hex.1 hdat r1 r2
  have hu := hr.units
  have hlen : (dcD kv).shown.length ≤ sizeLine := by
    show (dictText (PyData.shownKv (kv.map kvP))).length ≤ sizeLine
    have z := dictText_len_le (PyData.shownKv (kv.map kvP))
    rw [s3] at z
    have := line63
    have z2 : (dictText (PyData.shownKv (kv.map kvP))).length ≤ 4000000 := by
      have := Nat.mul_le_mul_right 3000 hl
      omega
    exact Nat.le_trans z2 (by decide)
  have hdep : (dcD kv).depth = 1 := by
    show PyData.depthKv (kv.map kvP) + 1 = 1
    rw [dc_depth]
  refine repr_of_reads' rd s1 (fun _ hm => ?_) hg (by omega) (fun _ _ e => e) (fun h' u tk hkp => ⟨.str (dcD kv).shown, H, I.kept (h' := h') (t' := tk) hkp, ⟨_, rfl⟩, q⟩) hlen
  have hm : sysModules ∈ [a] := hm
  rw [List.mem_singleton] at hm
  rw [← hm] at hsm
  exact absurd hsm (by decide)
end Own

namespace Own
open PySem PySem.Spec PyProof.Rows L2 Evl
/-! ### values of all kinds -/
mutual
/-- data that is tracked; dicts of texts and ints may stand in it -/
inductive Da (H : Hp) : V → PyData → Prop
  | non : Da H .non .none
  | bl (b : Bool) : Da H (.bl b) (.bool b)
  | int (i : Int) : Da H (.int i) (.int i)
  | str (z : Str) : Da H (.str z) (.str z)
  | lst {a : Addr} {xs : List V} {ds : List PyData} : H a = some (.lst xs) → DaAll H xs ds → Da H (.ref a) (.list ds)
  | tup {a : Addr} {xs : List V} {ds : List PyData} : H a = some (.tup xs) → DaAll H xs ds → Da H (.ref a) (.tuple ds)
  | dct {a : Addr} {kv : List (Str × Int)} {ks : List (PyData × PyData)} : H a = some (.dK (kv.map kvV)) → ks = kv.map kvP → Da H (.ref a) (.dict ks)
inductive DaAll (H : Hp) : List V → List PyData → Prop
  | nil : DaAll H [] []
  | cons {v : V} {vs : List V} {d : PyData} {ds : List PyData} : Da H v d → DaAll H vs ds → DaAll H (v :: vs) (d :: ds)
end
mutual
theorem Da.ex {H H' : Hp} (e : Ex H H') : ∀ (d : PyData) {v : V}, Da H v d → Da H' v d
  | .none, _, h => by cases h; exact .non
  | .bool _, _, h => by cases h; exact .bl _
  | .int _, _, h => by cases h; exact .int _
  | .str _, _, h => by cases h; exact .str _
  | .list ds, _, h => by
    cases h with
    | lst h1 h2 => exact .lst (e _ _ h1) (DaAll.ex e ds h2)
  | .tuple ds, _, h => by
    cases h with
    | tup h1 h2 => exact .tup (e _ _ h1) (DaAll.ex e ds h2)
  | .dict _, _, h => by
    cases h with
    | dct h1 h2 => exact .dct (e _ _ h1) h2
theorem DaAll.ex {H H' : Hp} (e : Ex H H') : ∀ (ds : List PyData) {vs : List V}, DaAll H vs ds → DaAll H' vs ds
  | [], _, h => by cases h; exact .nil
  | d :: ds, _, h => by
    cases h with
    | cons h1 h2 => exact .cons (Da.ex e d h1) (DaAll.ex e ds h2)
end
theorem DaAll.len {H : Hp} : ∀ {vs : List V} {ds : List PyData}, DaAll H vs ds → vs.length = ds.length
  | _, _, .nil => rfl
  | _, _, .cons _ h => by rw [List.length_cons, List.length_cons, h.len]
theorem DaAll.at {H : Hp} : ∀ {vs : List V} {ds : List PyData} {i : Nat} {v : V}, DaAll H vs ds → vs[i]? = some v → ∃ d, ds[i]? = some d ∧ Da H v d
  | _, _, _, _, .nil, e => by simp at e
  | _, _, 0, _, .cons h _, e => by cases e; exact ⟨_, rfl, h⟩
  | _, _, i + 1, _, .cons _ h, e => DaAll.at (i := i) h e
theorem DaAll.at2 {H : Hp} : ∀ {vs : List V} {ds : List PyData} {i : Nat} {d : PyData}, DaAll H vs ds → ds[i]? = some d → ∃ v, vs[i]? = some v ∧ Da H v d
  | _, _, _, _, .nil, e => by simp at e
  | _, _, 0, _, .cons h _, e => by cases e; exact ⟨_, rfl, h⟩
  | _, _, i + 1, _, .cons _ h, e => DaAll.at2 (i := i) h e
theorem DaAll.app {H : Hp} : ∀ {vs ws : List V} {ds es : List PyData}, DaAll H vs ds → DaAll H ws es → DaAll H (vs ++ ws) (ds ++ es)
  | _, _, _, _, .nil, k => k
  | _, _, _, _, .cons h t, k => .cons h (t.app k)
theorem DaAll.take {H : Hp} : ∀ {vs : List V} {ds : List PyData} (n : Nat), DaAll H vs ds → DaAll H (vs.take n) (ds.take n)
  | _, _, 0, _ => .nil
  | _, _, _ + 1, .nil => .nil
  | _, _, n + 1, .cons h t => .cons h (t.take n)
theorem DaAll.drop {H : Hp} : ∀ {vs : List V} {ds : List PyData} (n : Nat), DaAll H vs ds → DaAll H (vs.drop n) (ds.drop n)
  | _, _, 0, h => h
  | _, _, _ + 1, .nil => .nil
  | _, _, n + 1, .cons _ t => t.drop n
theorem DaAll.put {H : Hp} {v : V} {d : PyData} (hv : Da H v d) : ∀ {vs : List V} {ds : List PyData} {i : Nat}, DaAll H vs ds → DaAll H (vs.set i v) (ds.set i d)
  | _, _, _, .nil => .nil
  | _, _, 0, .cons _ t => .cons hv t
  | _, _, i + 1, .cons h t => .cons h (DaAll.put hv (i := i) t)
theorem DaAll.snoc {H : Hp} {v : V} {d : PyData} {vs : List V} {ds : List PyData} (h : DaAll H vs ds) (hv : Da H v d) : DaAll H (vs ++ [v]) (ds ++ [d]) := h.app (.cons hv .nil)
/-! kinds -/
def tyD : PyData → String
  | .none => "NoneType"
  | .bool _ => "bool"
  | .int _ => "int"
  | .str _ => "str"
  | .list _ => "list"
  | .tuple _ => "tuple"
  | .dict _ => "dict"
theorem Da.ty {K : PySem.W.Frag} {H : Hp} {v : V} {d : PyData} (h : Da H v d) : TyX K H v (.type (tyD d)) := by
  cases h with
  | non => exact .base .non
  | bl b => exact .base (.bl b)
  | int i => exact .base (.int i)
  | str z => exact .base (.str z)
  | lst h1 h2 => exact .base (.lst h1)
  | tup h1 h2 => exact .base (.tup h1)
  | dct h1 h2 => exact .base (.dK h1)
def isStrD : PyData → Bool | .str _ => true | _ => false
def isTupD : PyData → Bool | .tuple _ => true | _ => false
def isLstD : PyData → Bool | .list _ => true | _ => false
def isBoolD : PyData → Bool | .bool _ => true | _ => false
def isIntD : PyData → Bool | .int _ => true | .bool _ => true | _ => false
theorem kit7 {T : String} {a b c e f g i : Bool} (h1 : kitB "NoneType" T = some a) (h2 : kitB "bool" T = some b) (h3 : kitB "int" T = some c) (h4 : kitB "str" T = some e) (h5 : kitB "list" T = some f) (h6 : kitB "tuple" T = some g) (h7 : kitB "dict" T = some i)
    {p : PyData → Bool} (q1 : p .none = a) (q2 : ∀ x, p (.bool x) = b) (q3 : ∀ x, p (.int x) = c) (q4 : ∀ x, p (.str x) = e) (q5 : ∀ x, p (.list x) = f) (q6 : ∀ x, p (.tuple x) = g) (q7 : ∀ x, p (.dict x) = i) : ∀ d, kitB (tyD d) T = some (p d)
  | .none => by rw [q1]; exact h1
  | .bool x => by rw [q2]; exact h2
  | .int x => by rw [q3]; exact h3
  | .str x => by rw [q4]; exact h4
  | .list x => by rw [q5]; exact h5
  | .tuple x => by rw [q6]; exact h6
  | .dict x => by rw [q7]; exact h7
theorem kit_str : ∀ d, kitB (tyD d) "str" = some (isStrD d) := kit7 (a := false) (b := false) (c := false) (e := true) (f := false) (g := false) (i := false) (by decide +kernel) (by decide +kernel) (by decide +kernel) (by decide +kernel) (by decide +kernel) (by decide +kernel) (by decide +kernel) rfl (fun _ => rfl) (fun _ => rfl) (fun _ => rfl) (fun _ => rfl) (fun _ => rfl) (fun _ => rfl)
theorem kit_tuple : ∀ d, kitB (tyD d) "tuple" = some (isTupD d) := kit7 (a := false) (b := false) (c := false) (e := false) (f := false) (g := true) (i := false) (by decide +kernel) (by decide +kernel) (by decide +kernel) (by decide +kernel) (by decide +kernel) (by decide +kernel) (by decide +kernel) rfl (fun _ => rfl) (fun _ => rfl) (fun _ => rfl) (fun _ => rfl) (fun _ => rfl) (fun _ => rfl)
theorem kit_list : ∀ d, kitB (tyD d) "list" = some (isLstD d) := kit7 (a := false) (b := false) (c := false) (e := false) (f := true) (g := false) (i := false) (by decide +kernel) (by decide +kernel) (by decide +kernel) (by decide +kernel) (by decide +kernel) (by decide +kernel) (by decide +kernel) rfl (fun _ => rfl) (fun _ => rfl) (fun _ => rfl) (fun _ => rfl) (fun _ => rfl) (fun _ => rfl)
theorem kit_bool : ∀ d, kitB (tyD d) "bool" = some (isBoolD d) := kit7 (a := false) (b := true) (c := false) (e := false) (f := false) (g := false) (i := false) (by decide +kernel) (by decide +kernel) (by decide +kernel) (by decide +kernel) (by decide +kernel) (by decide +kernel) (by decide +kernel) rfl (fun _ => rfl) (fun _ => rfl) (fun _ => rfl) (fun _ => rfl) (fun _ => rfl) (fun _ => rfl)
theorem kit_int : ∀ d, kitB (tyD d) "int" = some (isIntD d) := kit7 (a := false) (b := true) (c := true) (e := false) (f := false) (g := false) (i := false) (by decide +kernel) (by decide +kernel) (by decide +kernel) (by decide +kernel) (by decide +kernel) (by decide +kernel) (by decide +kernel) rfl (fun _ => rfl) (fun _ => rfl) (fun _ => rfl) (fun _ => rfl) (fun _ => rfl) (fun _ => rfl)
section
variable {K : PySem.W.Frag} {H : Hp} {v : V} {d : PyData} {Q : VK}
theorem isi_str (h : Da H v d) (q : Q (.bl (isStrD d)) H) : rIsi K [v, .ty "str"] H Q :=
  ⟨v, .ty "str", _, _, isStrD d, rfl, .ty _, h.ty, kit_ty (kit_str d), q⟩
theorem isi_tup (h : Da H v d) (q : Q (.bl (isTupD d)) H) : rIsi K [v, .ty "tuple"] H Q :=
  ⟨v, .ty "tuple", _, _, isTupD d, rfl, .ty _, h.ty, kit_ty (kit_tuple d), q⟩
theorem isi_lst (h : Da H v d) (q : Q (.bl (isLstD d)) H) : rIsi K [v, .ty "list"] H Q :=
  ⟨v, .ty "list", _, _, isLstD d, rfl, .ty _, h.ty, kit_ty (kit_list d), q⟩
theorem isi_bool (h : Da H v d) (q : Q (.bl (isBoolD d)) H) : rIsi K [v, .ty "bool"] H Q :=
  ⟨v, .ty "bool", _, _, isBoolD d, rfl, .ty _, h.ty, kit_ty (kit_bool d), q⟩
theorem isi_int (h : Da H v d) (q : Q (.bl (isIntD d)) H) : rIsi K [v, .ty "int"] H Q :=
  ⟨v, .ty "int", _, _, isIntD d, rfl, .ty _, h.ty, kit_ty (kit_int d), q⟩
theorem isi_two {a b : String} {r1 r2 : Bool} {tp : Addr} (h : Da H v d) (ht : H tp = some (.tup [.ty a, .ty b])) (h1 : PySem.W.kitOne K (.type (tyD d)) (.type a) = some r1) (h2 : PySem.W.kitOne K (.type (tyD d)) (.type b) = some r2) (q : Q (.bl (r1 || r2)) H) : rIsiT K [v, .ref tp] H Q := by
  refine ⟨v, tp, _, _, [.type a, .type b], r1 || r2, rfl, ht, .cons (.ty _) (.cons (.ty _) .nil), h.ty, ?_, q⟩
  refine kitAny_cons h1 (fun e => ?_) (fun e => by rw [e]; rfl)
  rw [e, Bool.false_or]
  exact kitAny_cons h2 (fun e => by rw [e]; exact kitAny_nil) (fun e => by rw [e])
theorem isi_tl {tp : Addr} (h : Da H v d) (ht : H tp = some (.tup [.ty "tuple", .ty "list"])) (q : Q (.bl (isTupD d || isLstD d)) H) : rIsiT K [v, .ref tp] H Q :=
  isi_two h ht (r1 := isTupD d) (r2 := isLstD d) (kit_ty (kit_tuple d)) (kit_ty (kit_list d)) q
theorem isi_lt {tp : Addr} (h : Da H v d) (ht : H tp = some (.tup [.ty "list", .ty "tuple"])) (q : Q (.bl (isLstD d || isTupD d)) H) : rIsiT K [v, .ref tp] H Q :=
  isi_two h ht (r1 := isLstD d) (r2 := isTupD d) (kit_ty (kit_list d)) (kit_ty (kit_tuple d)) q
end
/-! a list beside the empty one -/
def rEq0 (K : PySem.W.Frag) : R2 := fun x y H Q => ∃ (a b : Addr) (xs : List V), x = .ref a ∧ y = .ref b ∧ SqL K H a xs ∧ SqL K H b [] ∧ Q (.bl xs.isEmpty) H
def rNe0 (K : PySem.W.Frag) : R2 := fun x y H Q => ∃ (a b : Addr) (xs : List V), x = .ref a ∧ y = .ref b ∧ SqL K H a xs ∧ SqL K H b [] ∧ Q (.bl (!xs.isEmpty)) H
theorem op_eq0 {X : Cx} {k : Nat} (hr : Room k X.A) : OpR X (compareOp .Eq) (rEq0 X.K) := by
  intro pk s τ H x y v u Q I rx ry h
  obtain ⟨a, b, xs, rfl, rfl, h1, h2, q⟩ := h
  cases rx
  cases ry
  obtain ⟨its, r, pl, hz⟩ := I.list h1
  obtain ⟨its2, r2, pl2, hz2⟩ := I.list h2
  cases r2
  have hu : X.A.units < cLine := by
    have := hr.units
    omega
  have hlen := r.length
  cases xs with
  | nil =>
    cases r
    exact SeqAt.eq_listAt (e := fun _ => true) pl.isList pl2.isList rfl hu (fun j h1 => absurd h1 (by simp)) ⟨.bl true, H, I, rfl, q⟩
  | cons z zs =>
    refine SeqAt.eq_list_lengthsAt pl.isList pl2.isList ?_ hu ⟨.bl false, H, I, rfl, q⟩
    rw [List.length_cons] at hlen
    simp only [List.size_toArray, List.length_nil, bne_iff_ne, ne_eq]
    omega
theorem op_ne0 {X : Cx} {k : Nat} (hr : Room k X.A) : OpR X (compareOp .NotEq) (rNe0 X.K) := by
  intro pk s τ H x y v u Q I rx ry h
  obtain ⟨a, b, xs, rfl, rfl, h1, h2, q⟩ := h
  cases rx
  cases ry
  obtain ⟨its, r, pl, hz⟩ := I.list h1
  obtain ⟨its2, r2, pl2, hz2⟩ := I.list h2
  cases r2
  have hu : X.A.units < cLine := by
    have := hr.units
    omega
  have hlen := r.length
  cases xs with
  | nil =>
    cases r
    exact SeqAt.RcNeAt.lists (e := fun _ => true) pl.isList pl2.isList rfl hu (fun j h1 => absurd h1 (by simp)) _ _ _ _ ⟨.bl false, H, I, rfl, q⟩
  | cons z zs =>
    refine SeqAt.RcNeAt.lists_lengths pl.isList pl2.isList ?_ hu _ _ _ _ ⟨.bl true, H, I, rfl, q⟩
    rw [List.length_cons] at hlen
    simp only [List.size_toArray, List.length_nil, bne_iff_ne, ne_eq]
    omega
theorem op_eq0B {X : Cx} {k : Nat} {s : Shared} {H : Hp} {sc : Scope} {ce : Env} {fp : List Addr} (hr : Room k X.A) : OpR (X.blk s H sc ce fp) (compareOp .Eq) (rEq0 X.K) := op_eq0 hr
theorem op_ne0B {X : Cx} {k : Nat} {s : Shared} {H : Hp} {sc : Scope} {ce : Env} {fp : List Addr} (hr : Room k X.A) : OpR (X.blk s H sc ce fp) (compareOp .NotEq) (rNe0 X.K) := op_ne0 hr
/-! sizes -/
mutual
def gD : PyData → Bool
  | .none => true
  | .bool _ => true
  | .int i => decide (i.natAbs.log2 < 1920)
  | .str x => x.cps.all (· < 0x110000)
  | .list xs => gDs xs
  | .tuple xs => gDs xs
  | .dict ks => gDk ks
def gDs : List PyData → Bool
  | [] => true
  | x :: xs => gD x && gDs xs
def gDk : List (PyData × PyData) → Bool
  | [] => true
  | (k, v) :: r => gD k && (gD v && gDk r)
end
mutual
/-- no text of d is longer -/
def wd : PyData → Nat
  | .none => 5
  | .bool _ => 5
  | .int _ => 1921
  | .str x => 10 * x.length + 5
  | .list xs => wds xs + 3
  | .tuple xs => wds xs + 3
  | .dict ks => wdk ks + 3
def wds : List PyData → Nat
  | [] => 0
  | x :: xs => wd x + 2 + wds xs
def wdk : List (PyData × PyData) → Nat
  | [] => 0
  | (k, v) :: r => wd k + wd v + 4 + wdk r
end
theorem str_wd {x : Str} (h : x.cps.all (· < 0x110000) = true) : (PyData.shown (.str x)).length ≤ 10 * x.length + 5 := by
  have z : (PyData.shown (.str x)).length ≤ 10 * x.length + 2 := by
    refine StrLaws.reprText_len x fun c hc => ?_
    rw [← Array.all_toList] at h
    have q := of_decide_eq_true ((List.all_eq_true.mp h) c hc)
    exact Nat.lt_trans q (by decide)
  omega
mutual
theorem shownD : ∀ d : PyData, gD d = true → d.showable = true ∧ d.shown.length ≤ wd d
  | .none, _ => ⟨rfl, by decide⟩
  | .bool b, _ => ⟨rfl, by cases b <;> decide⟩
  | .int i, h => ⟨h, int_text_len_1921 (of_decide_eq_true h)⟩
  | .str x, h => ⟨rfl, str_wd h⟩
  | .list xs, h => by
    obtain ⟨q1, q2⟩ := shownDs xs h
    have z := listText_le (PyData.shownAll xs)
    refine ⟨q1, ?_⟩
    show (listText (PyData.shownAll xs)).length ≤ wds xs + 3
    omega
  | .tuple xs, h => by
    obtain ⟨q1, q2⟩ := shownDs xs h
    have z := tupleText_le (PyData.shownAll xs)
    refine ⟨q1, ?_⟩
    show (tupleText (PyData.shownAll xs)).length ≤ wds xs + 3
    omega
  | .dict ks, h => by
    obtain ⟨q1, q2⟩ := shownDk ks h
    refine ⟨q1, ?_⟩
    show (dictText (PyData.shownKv ks)).length ≤ wdk ks + 3
    have z := dictText_len_le (PyData.shownKv ks)
    omega
theorem shownDs : ∀ ds : List PyData, gDs ds = true → PyData.showableAll ds = true ∧ piled (PyData.shownAll ds) ≤ wds ds
  | [], _ => ⟨rfl, Nat.le_refl _⟩
  | d :: ds, h => by
    have h' : (gD d && gDs ds) = true := h
    rw [Bool.and_eq_true] at h'
    obtain ⟨a1, a2⟩ := shownD d h'.1
    obtain ⟨b1, b2⟩ := shownDs ds h'.2
    refine ⟨?_, ?_⟩
    · show (d.showable && PyData.showableAll ds) = true
      rw [a1, b1]
      rfl
    · show piled (d.shown :: PyData.shownAll ds) ≤ wd d + 2 + wds ds
      rw [piled_cons]
      omega
theorem shownDk : ∀ ks : List (PyData × PyData), gDk ks = true → PyData.showableKv ks = true ∧ ((PyData.shownKv ks).map (·.length)).sum + 2 * (PyData.shownKv ks).length ≤ wdk ks
  | [], _ => ⟨rfl, Nat.le_refl _⟩
  | (k, v) :: r, h => by
    have h' : (gD k && (gD v && gDk r)) = true := h
    rw [Bool.and_eq_true, Bool.and_eq_true] at h'
    obtain ⟨a1, a2⟩ := shownD k h'.1
    obtain ⟨b1, b2⟩ := shownD v h'.2.1
    obtain ⟨c1, c2⟩ := shownDk r h'.2.2
    refine ⟨?_, ?_⟩
    · show (k.showable && v.showable && PyData.showableKv r) = true
      rw [a1, b1, c1]
      rfl
    · rw [PyData.shownKv_cons, List.map_cons, List.sum_cons, List.length_cons, strLen_append, strLen_append]
      show _ ≤ wd k + wd v + 4 + wdk r
      have : (": " : Str).length = 2 := rfl
      omega
end
end Own

namespace Own
open PySem PySem.Spec PyProof.Rows L2 Evl
/-- the base knows the table of modules (so no tracked list lies there) -/
def SysAt (base : Heap) : Prop := ∃ mm, base.Ns sysModules mm
section
variable {X : Cx} {pins : List (Addr × Obj)} {σ : L2.St} {H : Hp} {s : Shared}
theorem not_sys (I : Inv X pins σ H s) (hs : SysAt X.base) {a : Addr} {o : Obj} {vs : Array Value} {n : Nat} (h : s.heap.get? a = some o) (hd : o.data = .seq vs n) : a ≠ sysModules := by
  intro e
  subst e
  obtain ⟨mm, o2, es, ep, h2, hd2, _⟩ := hs
  have h3 := I.bk _ _ h2
  rw [h] at h3
  cases h3
  rw [hd] at hd2
  cases hd2
mutual
theorem Da.reads (I : Inv X pins σ H s) (hs : SysAt X.base) : ∀ (d : PyData) (v : V) (u : Value), Da H v d → RelV v u → ∃ as, Reads s.heap u d as ∧ sysModules ∉ as
  | .none, _, _, h, r => by
    cases h
    cases r
    exact ⟨_, Reads.none, by simp⟩
  | .bool b, _, _, h, r => by
    cases h
    cases r
    exact ⟨_, Reads.bool b, by simp⟩
  | .int i, _, _, h, r => by
    cases h
    obtain ⟨t, rfl⟩ := r
    exact ⟨_, Reads.int i t, by simp⟩
  | .str x, _, _, h, r => by
    cases h
    obtain ⟨t, rfl⟩ := r
    exact ⟨_, Reads.str x t, by simp⟩
  | .list ds, _, _, h, r => by
    cases h with
    | lst hh ha =>
      cases r
      obtain ⟨its, rv, ⟨o, n, ho, hc, _, hd⟩, _⟩ := I.list (sq_of hh)
      obtain ⟨as, hr, hn⟩ := DaAll.reads I hs ds _ its ha rv
      refine ⟨_, Reads.list ho hc hd hr, ?_⟩
      rw [List.mem_cons, not_or]
      exact ⟨(not_sys I hs ho hd).symm, hn⟩
  | .tuple ds, _, _, h, r => by
    cases h with
    | tup hh ha =>
      cases r
      obtain ⟨its, rv, ⟨o, ho, hc, n, hd⟩, _⟩ := I.tuple (st_of hh)
      obtain ⟨as, hr, hn⟩ := DaAll.reads I hs ds _ its ha rv
      exact ⟨_, Reads.tuple ho hc hd hr, hn⟩
  | .dict ks, _, _, h, r => by
    cases h with
    | dct hh e =>
      cases r
      obtain ⟨hz, hsm, vs, rel, o, es, ep, ho, hex, hdat, hko, hp, hn⟩ := dk_of I.hok hh
      obtain ⟨r1, r2⟩ := dc_reads (h := s.heap) rel hp
      subst e
      refine ⟨_, Reads.dict ho hex.1 hdat r1 r2, ?_⟩
      intro hm
      have hm : sysModules ∈ [_] := hm
      rw [List.mem_singleton] at hm
      rw [← hm] at hsm
      exact absurd hsm (by decide)
theorem DaAll.reads (I : Inv X pins σ H s) (hs : SysAt X.base) : ∀ (ds : List PyData) (vs : List V) (us : List Value), DaAll H vs ds → Vals vs us → ∃ as, ReadsAll s.heap us ds as ∧ sysModules ∉ as
  | [], _, _, h, r => by
    cases h
    cases r
    exact ⟨_, ReadsAll.nil, by simp⟩
  | d :: ds, _, _, h, r => by
    cases h with
    | cons h1 h2 =>
      cases r with
      | cons r1 r2 =>
        obtain ⟨as, q1, n1⟩ := Da.reads I hs d _ _ h1 r1
        obtain ⟨bs, q2, n2⟩ := DaAll.reads I hs ds _ _ h2 r2
        refine ⟨_, ReadsAll.cons q1 q2, ?_⟩
        rw [List.mem_append, not_or]
        exact ⟨n1, n2⟩
end
end
/-- data that may be shown -/
def okD (n W : Nat) (d : PyData) : Prop := gD d = true ∧ d.depth ≤ n ∧ wd d ≤ W
theorem okD.mono {n W n' W' : Nat} {d : PyData} (h : okD n W d) (h1 : n ≤ n') (h2 : W ≤ W') : okD n' W' d := ⟨h.1, Nat.le_trans h.2.1 h1, Nat.le_trans h.2.2 h2⟩
def rReprX : List V → Hp → VK → Prop := fun xs H Q => ∃ v d, xs = [v] ∧ Da H v d ∧ okD 40 16000000 d ∧ Q (.str d.shown) H
theorem callReprX {X : Cx} {k : Nat} (hs : SysAt X.base) (hg : X.A.guards = some []) (hr : Room k X.A) : CallR X (.builtin "repr") rReprX := by
  intro pk s τ H xs us Q I r h
  obtain ⟨v, d, rfl, hd, ⟨g1, g2, g3⟩, q⟩ := h
  obtain ⟨s1, s2⟩ := shownD d g1
  have hlen : d.shown.length ≤ sizeLine := Nat.le_trans s2 (Nat.le_trans g3 (by decide))
  have hu := hr.units
  obtain ⟨u, eu, ru⟩ := vals1 r
  subst eu
  obtain ⟨as, rd, hn⟩ := Da.reads I hs d v u hd ru
  cases hd with
  | lst h1 h2 =>
    cases ru
    exact repr_of_reads' rd s1 (fun _ => hn) hg (by omega) (fun _ _ e => e) (fun h' u tk hkp => ⟨.str _, H, I.kept (h' := h') (t' := tk) hkp, ⟨_, rfl⟩, q⟩) hlen
  | tup h1 h2 =>
    cases ru
    exact repr_of_reads' rd s1 (fun _ => hn) hg (by omega) (fun _ _ e => e) (fun h' u tk hkp => ⟨.str _, H, I.kept (h' := h') (t' := tk) hkp, ⟨_, rfl⟩, q⟩) hlen
  | dct h1 h2 =>
    cases ru
    exact repr_of_reads' rd s1 (fun _ => hn) hg (by omega) (fun _ _ e => e) (fun h' u tk hkp => ⟨.str _, H, I.kept (h' := h') (t' := tk) hkp, ⟨_, rfl⟩, q⟩) hlen
  | non =>
    cases ru
    exact PySem.P.repr_of_none ⟨.str "None", H, I.tok _, ⟨_, rfl⟩, q⟩
  | bl b =>
    cases ru
    exact PySem.P.repr_of_bool ⟨.str (if b then "True" else "False"), H, I.tok _, ⟨_, by cases b <;> rfl⟩, by cases b <;> exact q⟩
  | int i =>
    obtain ⟨t, rfl⟩ := ru
    exact PySem.P.repr_of_int (of_decide_eq_true g1) ⟨.str (toString i), H, I.tok _, ⟨_, rfl⟩, q⟩
  | str x =>
    obtain ⟨t, rfl⟩ := ru
    exact PySem.P.repr_of_str ⟨.str (reprText x), H, I.tok _, ⟨_, rfl⟩, q⟩ hlen
/-! making and taking apart -/
theorem gDs_iff : ∀ {ds : List PyData}, gDs ds = true ↔ ∀ d ∈ ds, gD d = true
  | [] => ⟨fun _ d h => by (cases h), fun _ => rfl⟩
  | x :: xs => by
    show (gD x && gDs xs) = true ↔ _
    rw [Bool.and_eq_true, gDs_iff (ds := xs)]
    refine ⟨fun h d hd => ?_, fun h => ⟨h x List.mem_cons_self, fun d hd => h d (List.mem_cons_of_mem _ hd)⟩⟩
    rcases List.mem_cons.mp hd with e | hd
    · rw [e]
      exact h.1
    · exact h.2 d hd
theorem depthAll_le {n : Nat} : ∀ {ds : List PyData}, PyData.depthAll ds ≤ n ↔ ∀ d ∈ ds, d.depth ≤ n
  | [] => ⟨fun _ d h => by (cases h), fun _ => Nat.zero_le _⟩
  | x :: xs => by
    show max x.depth (PyData.depthAll xs) ≤ n ↔ _
    rw [Nat.max_le, depthAll_le (ds := xs)]
    refine ⟨fun h d hd => ?_, fun h => ⟨h x List.mem_cons_self, fun d hd => h d (List.mem_cons_of_mem _ hd)⟩⟩
    rcases List.mem_cons.mp hd with e | hd
    · rw [e]
      exact h.1
    · exact h.2 d hd
theorem wds_app : ∀ (xs ys : List PyData), wds (xs ++ ys) = wds xs + wds ys
  | [], ys => (Nat.zero_add _).symm
  | x :: xs, ys => by
    show wd x + 2 + wds (xs ++ ys) = wd x + 2 + wds xs + wds ys
    rw [wds_app xs ys]
    omega
theorem wd_mem {d : PyData} : ∀ {ds : List PyData}, d ∈ ds → wd d + 2 ≤ wds ds
  | x :: xs, h => by
    show _ ≤ wd x + 2 + wds xs
    rcases List.mem_cons.mp h with e | h
    · rw [e]
      omega
    · have := wd_mem h
      omega
theorem wds_take (n : Nat) (xs : List PyData) : wds (xs.take n) ≤ wds xs := by
  have h := wds_app (xs.take n) (xs.drop n)
  rw [List.take_append_drop] at h
  omega
theorem wds_drop (n : Nat) (xs : List PyData) : wds (xs.drop n) ≤ wds xs := by
  have h := wds_app (xs.take n) (xs.drop n)
  rw [List.take_append_drop] at h
  omega
theorem wd_pos : ∀ d : PyData, 3 ≤ wd d
  | .none => by show 3 ≤ 5; decide
  | .bool _ => by show 3 ≤ 5; decide
  | .int _ => by show 3 ≤ 1921; decide
  | .str x => by show 3 ≤ 10 * x.length + 5; omega
  | .list xs => by show 3 ≤ wds xs + 3; omega
  | .tuple xs => by show 3 ≤ wds xs + 3; omega
  | .dict ks => by show 3 ≤ wdk ks + 3; omega
theorem len_wds : ∀ ds : List PyData, 5 * ds.length ≤ wds ds
  | [] => Nat.le_refl _
  | x :: xs => by
    have := len_wds xs
    have := wd_pos x
    show 5 * (xs.length + 1) ≤ wd x + 2 + wds xs
    omega
end Own

namespace Own
open PySem PySem.Spec PyProof.Rows L2 Evl
/-! ### data that lies within A -/
theorem none_of {H H' : Hp} {l : Addr} (e : Ex H H') (h : H' l = none) : H l = none := by
  cases hx : H l with
  | none => rfl
  | some o => rw [e _ _ hx] at h; cases h
mutual
inductive DaA (A : Addr → Prop) (H : Hp) : V → PyData → Prop
  | non : DaA A H .non .none
  | bl (b : Bool) : DaA A H (.bl b) (.bool b)
  | int (i : Int) : DaA A H (.int i) (.int i)
  | str (z : Str) : DaA A H (.str z) (.str z)
  | lst {a : Addr} {xs : List V} {ds : List PyData} : A a → H a = some (.lst xs) → DaAA A H xs ds → DaA A H (.ref a) (.list ds)
  | tup {a : Addr} {xs : List V} {ds : List PyData} : A a → H a = some (.tup xs) → DaAA A H xs ds → DaA A H (.ref a) (.tuple ds)
  | dct {a : Addr} {kv : List (Str × Int)} {ks : List (PyData × PyData)} : A a → H a = some (.dK (kv.map kvV)) → ks = kv.map kvP → DaA A H (.ref a) (.dict ks)
inductive DaAA (A : Addr → Prop) (H : Hp) : List V → List PyData → Prop
  | nil : DaAA A H [] []
  | cons {v : V} {vs : List V} {d : PyData} {ds : List PyData} : DaA A H v d → DaAA A H vs ds → DaAA A H (v :: vs) (d :: ds)
end
mutual
theorem DaA.move {A A' : Addr → Prop} {H H' : Hp} (e : ∀ a o, A a → H a = some o → H' a = some o) (w : ∀ a, A a → A' a) : ∀ (d : PyData) {v : V}, DaA A H v d → DaA A' H' v d
  | .none, _, h => by cases h; exact .non
  | .bool _, _, h => by cases h; exact .bl _
  | .int _, _, h => by cases h; exact .int _
  | .str _, _, h => by cases h; exact .str _
  | .list ds, _, h => by
    cases h with
    | lst h0 h1 h2 => exact .lst (w _ h0) (e _ _ h0 h1) (DaAA.move e w ds h2)
  | .tuple ds, _, h => by
    cases h with
    | tup h0 h1 h2 => exact .tup (w _ h0) (e _ _ h0 h1) (DaAA.move e w ds h2)
  | .dict _, _, h => by
    cases h with
    | dct h0 h1 h2 => exact .dct (w _ h0) (e _ _ h0 h1) h2
theorem DaAA.move {A A' : Addr → Prop} {H H' : Hp} (e : ∀ a o, A a → H a = some o → H' a = some o) (w : ∀ a, A a → A' a) : ∀ (ds : List PyData) {vs : List V}, DaAA A H vs ds → DaAA A' H' vs ds
  | [], _, h => by cases h; exact .nil
  | d :: ds, _, h => by
    cases h with
    | cons h1 h2 => exact .cons (DaA.move e w d h1) (DaAA.move e w ds h2)
end
mutual
theorem DaA.da {A : Addr → Prop} {H : Hp} : ∀ (d : PyData) {v : V}, DaA A H v d → Da H v d
  | .none, _, h => by cases h; exact .non
  | .bool _, _, h => by cases h; exact .bl _
  | .int _, _, h => by cases h; exact .int _
  | .str _, _, h => by cases h; exact .str _
  | .list ds, _, h => by
    cases h with
    | lst h0 h1 h2 => exact .lst h1 (DaAA.da ds h2)
  | .tuple ds, _, h => by
    cases h with
    | tup h0 h1 h2 => exact .tup h1 (DaAA.da ds h2)
  | .dict _, _, h => by
    cases h with
    | dct h0 h1 h2 => exact .dct h1 h2
theorem DaAA.da {A : Addr → Prop} {H : Hp} : ∀ (ds : List PyData) {vs : List V}, DaAA A H vs ds → DaAll H vs ds
  | [], _, h => by cases h; exact .nil
  | d :: ds, _, h => by
    cases h with
    | cons h1 h2 => exact .cons (DaA.da d h1) (DaAA.da ds h2)
end
mutual
theorem Da.within {H : Hp} : ∀ (d : PyData) {v : V}, Da H v d → DaA (fun a => H a ≠ none) H v d
  | .none, _, h => by cases h; exact .non
  | .bool _, _, h => by cases h; exact .bl _
  | .int _, _, h => by cases h; exact .int _
  | .str _, _, h => by cases h; exact .str _
  | .list ds, _, h => by
    cases h with
    | lst h1 h2 => exact .lst (by rw [h1]; exact fun z => nomatch z) h1 (DaAll.within ds h2)
  | .tuple ds, _, h => by
    cases h with
    | tup h1 h2 => exact .tup (by rw [h1]; exact fun z => nomatch z) h1 (DaAll.within ds h2)
  | .dict _, _, h => by
    cases h with
    | dct h1 h2 => exact .dct (by rw [h1]; exact fun z => nomatch z) h1 h2
theorem DaAll.within {H : Hp} : ∀ (ds : List PyData) {vs : List V}, DaAll H vs ds → DaAA (fun a => H a ≠ none) H vs ds
  | [], _, h => by cases h; exact .nil
  | d :: ds, _, h => by
    cases h with
    | cons h1 h2 => exact .cons (Da.within d h1) (DaAll.within ds h2)
end
section
variable {A : Addr → Prop} {H : Hp}
theorem DaAA.len : ∀ {vs : List V} {ds : List PyData}, DaAA A H vs ds → vs.length = ds.length
  | _, _, .nil => rfl
  | _, _, .cons _ h => by rw [List.length_cons, List.length_cons, h.len]
theorem DaAA.at2 : ∀ {vs : List V} {ds : List PyData} {i : Nat} {d : PyData}, DaAA A H vs ds → ds[i]? = some d → ∃ v, vs[i]? = some v ∧ DaA A H v d
  | _, _, _, _, .nil, e => by simp at e
  | _, _, 0, _, .cons h _, e => by cases e; exact ⟨_, rfl, h⟩
  | _, _, i + 1, _, .cons _ h, e => DaAA.at2 (i := i) h e
theorem DaAA.at : ∀ {vs : List V} {ds : List PyData} {i : Nat} {v : V}, DaAA A H vs ds → vs[i]? = some v → ∃ d, ds[i]? = some d ∧ DaA A H v d
  | _, _, _, _, .nil, e => by simp at e
  | _, _, 0, _, .cons h _, e => by cases e; exact ⟨_, rfl, h⟩
  | _, _, i + 1, _, .cons _ h, e => DaAA.at (i := i) h e
theorem DaAA.app : ∀ {vs ws : List V} {ds es : List PyData}, DaAA A H vs ds → DaAA A H ws es → DaAA A H (vs ++ ws) (ds ++ es)
  | _, _, _, _, .nil, k => k
  | _, _, _, _, .cons h t, k => .cons h (t.app k)
theorem DaAA.take : ∀ {vs : List V} {ds : List PyData} (n : Nat), DaAA A H vs ds → DaAA A H (vs.take n) (ds.take n)
  | _, _, 0, _ => .nil
  | _, _, _ + 1, .nil => .nil
  | _, _, n + 1, .cons h t => .cons h (t.take n)
theorem DaAA.drop : ∀ {vs : List V} {ds : List PyData} (n : Nat), DaAA A H vs ds → DaAA A H (vs.drop n) (ds.drop n)
  | _, _, 0, h => h
  | _, _, _ + 1, .nil => .nil
  | _, _, n + 1, .cons _ t => t.drop n
theorem DaAA.put {v : V} {d : PyData} (hv : DaA A H v d) : ∀ {vs : List V} {ds : List PyData} {i : Nat}, DaAA A H vs ds → DaAA A H (vs.set i v) (ds.set i d)
  | _, _, _, .nil => .nil
  | _, _, 0, .cons _ t => .cons hv t
  | _, _, i + 1, .cons h t => .cons h (DaAA.put hv (i := i) t)
end
end Own

namespace Own
open PySem PySem.Spec PyProof.Rows L2 Evl
/-! ### a tuple that begins with a text, beside a tuple of one text -/
def rEqTs (K : PySem.W.Frag) : R2 := fun x y H Q => ∃ (a b : Addr) (z u : Str) (xs : List V), x = .ref a ∧ y = .ref b ∧ SqT K H a (.str z :: xs) ∧ SqT K H b [.str u] ∧ Q (.bl (decide (z = u) && xs.isEmpty)) H
theorem op_eqTs {X : Cx} {k : Nat} (hr : Room k X.A) : OpR X (compareOp .Eq) (rEqTs X.K) := by
  intro pk s τ H x y v v2 Q I rx ry h
  obtain ⟨a, b, z, u, xs, rfl, rfl, h1, h2, q⟩ := h
  cases rx
  cases ry
  obtain ⟨its, r, tp, hz⟩ := I.tuple h1
  obtain ⟨its2, r2, tp2, hz2⟩ := I.tuple h2
  cases r2 with
  | cons ru rn =>
    cases rn
    obtain ⟨tu, rfl⟩ := ru
    cases r with
    | @cons _ _ _ its0 rz rr =>
      obtain ⟨tz, rfl⟩ := rz
      have hu : X.A.units < cLine := by
        have := hr.units
        omega
      refine SeqAt.eq_tupleAt (e := fun _ => decide (z = u)) tp tp2 hu (fun j h1 h2 => ?_) ⟨.bl _, H, I, rfl, ?_⟩
      · have hj : j = 0 := by
          have : j < 1 := h2
          omega
        subst hj
        have e : (z == u) = decide (z = u) := by
          by_cases h : z = u
          · rw [h]
            simp
          · rw [decide_eq_false h]
            exact beq_eq_false_iff_ne.mpr h
        rw [← e]
        exact SeqAt.EqAt.str_str z tz u tu
      · have hm : min (Value.str z tz :: its0).toArray.size [Value.str u tu].toArray.size = 1 := by simp
        have hs : ((Value.str z tz :: its0).toArray.size == [Value.str u tu].toArray.size) = xs.isEmpty := by
          have hlen := rr.length
          cases xs with
          | nil => cases rr; rfl
          | cons x xs =>
            rw [List.length_cons] at hlen
            show ((its0.length + 1) == 1) = false
            exact beq_eq_false_iff_ne.mpr (by omega)
        rw [hm, hs]
        show Q (.bl ((decide (z = u) && true) && xs.isEmpty)) H
        rw [Bool.and_true]
        exact q
def rEqB (K : PySem.W.Frag) : R2 := fun x y H Z => rEqA K x y H Z ∨ rEqTs K x y H Z
theorem opEqT {X : Cx} {k : Nat} (hr : Room k X.A) : OpR X (compareOp .Eq) (rEqB X.K) := OpR.or (opEq hr) (op_eqTs hr)
end Own

namespace Own
open PySem PySem.Spec PyProof.Rows L2 Evl
/-! ### a tuple beside the empty one -/
def rEqT0 (K : PySem.W.Frag) : R2 := fun x y H Q => ∃ (a b : Addr) (xs : List V), x = .ref a ∧ y = .ref b ∧ SqT K H a xs ∧ SqT K H b [] ∧ Q (.bl xs.isEmpty) H
theorem op_eqT0 {X : Cx} {k : Nat} (hr : Room k X.A) : OpR X (compareOp .Eq) (rEqT0 X.K) := by
  intro pk s τ H x y v v2 Q I rx ry h
  obtain ⟨a, b, xs, rfl, rfl, h1, h2, q⟩ := h
  cases rx
  cases ry
  obtain ⟨its, r, tp, hz⟩ := I.tuple h1
  obtain ⟨its2, r2, tp2, hz2⟩ := I.tuple h2
  cases r2
  have hu : X.A.units < cLine := by
    have := hr.units
    omega
  refine SeqAt.eq_tupleAt (e := fun _ => true) tp tp2 hu (fun j h1 h2 => absurd h2 (by simp)) ⟨.bl _, H, I, rfl, ?_⟩
  have hm : min its.toArray.size ([] : List Value).toArray.size = 0 := by simp
  have hs : (its.toArray.size == ([] : List Value).toArray.size) = xs.isEmpty := by
    have hlen := r.length
    cases xs with
    | nil => cases r; rfl
    | cons x xs =>
      rw [List.length_cons] at hlen
      show (its.toArray.size == 0) = false
      rw [List.size_toArray]
      exact beq_eq_false_iff_ne.mpr (by omega)
  rw [hm, hs]
  exact q
/-! ### what a dict of the written part has of a text -/
def IsKD (K : PySem.W.Frag) (w : World) (a : Addr) : Prop := ∃ es n, K.lookup a = some ⟨.type "dict", none, .dict es n, #[]⟩ ∧ PySem.W.KeysLit w.params es.toList ∧ (a == sysModules) = false
def tKGet2 (K : PySem.W.Frag) (w : World) (td ty tx : TE) : TE := fun σ H Q => td σ H fun x H1 => ∃ a, x = .ref a ∧ IsKD K w a ∧ ty σ H1 fun y H2 => tx σ H2 fun z H3 => ∃ (k : Str) (v : V), y = .str k ∧ ((∃ u, PySem.W.nsIn K a k = some (some u) ∧ RelV v u) ∨ (PySem.W.nsIn K a k = some none ∧ v = z)) ∧ Q v H3
theorem pe_kget2 {X : Cx} {o e f : Expr} {apos cpos : Pos} {td ty tx : TE} (ho : PE X o td) (he : PE X e ty) (hf : PE X f tx) (m : M2 X o "get" apos e f cpos) : PE X (.Call (.Attribute o "get" apos) [e, f] [] cpos) (tKGet2 X.K X.w td ty tx) := by
  refine ⟨fun pins s σ H Q I h => ?_⟩
  refine wpAny_Call_method m.base m.few m.line PySem.F.plainAttrs_dict PySem.F.slot_dict_get PySem.F.type_dict_get (thn (ho.run pins s σ H _ I h) fun u s1 ⟨x, H1, I1, rx, a, ex, d, q1⟩ => ?_)
  subst ex
  obtain rfl : u = Value.ref a := rx
  obtain ⟨es, n, hl, hk, hd⟩ := d
  refine ⟨(PySem.W.mapOf_K (prog := X.prog) (w := X.w) I1.kIn hl hk).typeIs, fun b q => ?_, ?_⟩
  · cases q
    exact ⟨_, I1.kIn _ _ hl, rfl⟩
  rw [m.trees]
  refine Calls.callWith_builtin rfl (Calls.evalArgs_plain (Calls.spliced_cons (thn (he.run pins s1 σ H1 _ I1 q1) fun iv s2 ⟨y, H2, I2, ry, q2⟩ =>
    Calls.spliced_cons (thn (hf.run pins s2 σ H2 _ I2 q2) fun fv s3 ⟨z, H3, I3, rz, k, v, ey, g, q3⟩ => Calls.spliced_nil ?_))))
  subst ey
  obtain ⟨t, rfl⟩ := (show ∃ t, iv = Value.str k t from ry)
  have hm := PySem.W.mapOf_K (prog := X.prog) (w := X.w) I3.kIn hl hk
  refine call_meetsIn PySem.F.slot_dict_get hm.typeIs PySem.F.entry_dict_get (PySem.F.args_dict_get_3 _ _ _) (meets_dict_get_default (strKind X.prog X.w) a (strKind_is X.prog X.w k t) hd fv) ⟨_, hm, ?_⟩
  rcases g with ⟨u, hn, hv⟩ | ⟨hn, rfl⟩
  · rw [PySem.W.find_K hl hn]
    exact ⟨v, H3, I3.tok _, hv, q3⟩
  · rw [PySem.W.find_K hl hn]
    exact ⟨v, H3, I3.tok _, rz, q3⟩
/-! ### t[::-1], t being a tuple -/
theorem sliceApplied_rev {prog : Program} {w : World} {A : Around} {E : Value → Shared → Prop} {s : Shared} {sl : Addr} {vl vu vs : Value} {n : Nat} {Q : Int × Int × Nat → Shared → Prop} (hs : s.heap.IsSliceOf sl vl vu vs) (pl : IsPart vl none) (pu : IsPart vu none) (ps : IsPart vs (some (-1)))
    (h : Q ((n : Int) - 1, -1, n) s) : wpAny (model prog w) A (Builtin.Slice.sliceApplied (.ref sl) (pure (n : Int))) Q E s := by
  obtain ⟨os, hos, hcs, hds⟩ := id hs
  unfold Builtin.Slice.sliceApplied Builtin.Slice.sliceFields
  refine wpAny_bind (wpAny_bind (wpAny_field hos hds (x := vl) rfl (wpAny_bind (wpAny_field hos hds (x := vu) rfl (wpAny_bind (wpAny_field hos hds (x := vs) rfl (wpAny_pure ?_)))))))
  refine wpAny_bind (HT.slicePart_ ps ?_)
  show wpAny _ _ (if ((-1 : Int) == 0) = true then _ else _) _ _ s
  rw [if_neg (by decide)]
  refine wpAny_bind (HT.slicePart_ pl (wpAny_bind (HT.slicePart_ pu (wpAny_bind (wpAny_pure ?_)))))
  show wpAny _ _ (match Builtin.Slice.sliceAdjust none none (-1) (n : Int) with | (lo, hi) => pure (lo, (-1 : Int), Builtin.Slice.slicePlaces lo hi (-1))) _ _ s
  have e1 : Builtin.Slice.sliceAdjust none none (-1) (n : Int) = ((n : Int) - 1, -1) := rfl
  rw [e1]
  show wpAny _ _ (pure ((n : Int) - 1, (-1 : Int), Builtin.Slice.slicePlaces ((n : Int) - 1) (-1) (-1))) _ _ s
  have e2 : Builtin.Slice.slicePlaces ((n : Int) - 1) (-1) (-1) = n := by
    unfold Builtin.Slice.slicePlaces
    have h1 : ¬ ((-1 : Int) > 0) := by decide
    simp only [h1, if_false]
    split
    · rw [show (- -1 : Int) = 1 by decide, Int.ediv_one]
      omega
    · omega
  rw [e2]
  exact wpAny_pure h
theorem fm_congr {α β : Type} {f g : α → Option β} : ∀ {l : List α}, (∀ x ∈ l, f x = g x) → l.filterMap f = l.filterMap g
  | [], _ => rfl
  | x :: l, h => by
    rw [List.filterMap_cons, List.filterMap_cons, h x List.mem_cons_self, fm_congr fun y hy => h y (List.mem_cons_of_mem _ hy)]
theorem pick_rev (xs : Array Value) : ((List.range xs.size).filterMap fun (m : Nat) => xs[(((xs.size : Int) - 1) + (m : Int) * -1).toNat]?).toArray = xs.toList.reverse.toArray := by
  have e : ((List.range xs.size).filterMap fun (m : Nat) => xs[(((xs.size : Int) - 1) + (m : Int) * -1).toNat]?) = ((List.range xs.size).map fun k => xs.size - 1 - k).filterMap (xs[·]?) := by
    rw [List.filterMap_map]
    refine fm_congr fun m hm => ?_
    have := List.mem_range.mp hm
    show xs[_]? = xs[_]?
    rw [show (((xs.size : Int) - 1) + (m : Int) * -1).toNat = xs.size - 1 - m by omega]
  rw [e, PySem.W.krv_range, List.filterMap_reverse, PySem.W.krv_all]
theorem getItem_tuple_rev {prog : Program} {w : World} {A : Around} {E : Value → Shared → Prop} {s : Shared} {t sl : Addr} {items : Array Value} {vl vu vs : Value} {Q : Value → Shared → Prop} (ht : IsTup s.heap t items) (hs : s.heap.IsSliceOf sl vl vu vs) (pl : IsPart vl none) (pu : IsPart vu none) (ps : IsPart vs (some (-1)))
    (h : Q (.ref s.heap.objs.size) { s with heap := s.heap.push { cls := .type "tuple", data := .seq items.toList.reverse.toArray } })
    (hsz : items.size ≤ sizeLine) : wpAny (model prog w) A (getItem (.ref t) (.ref sl)) Q E s := by
  have htake : sizeOk (.seq items.toList.reverse.toArray) := by
    show items.toList.reverse.toArray.size ≤ sizeLine
    rw [List.size_toArray, List.length_reverse, Array.length_toList]
    exact hsz
  obtain ⟨os, hos, hcs, hds⟩ := id hs
  have hTs : s.TypeIs (.ref sl) "slice" := ⟨os, hos, hcs⟩
  unfold getItem
  try with_reducible refine wpAny_holding ?_
  first | refine wpAny_bind (wpAny_pure ?_) | skip
  refine wpAny_bind (wpAny_sequenceKey ht.typeIs (by decide) ?_)
  refine wpAny_bind (wpAny_callSpecial?_slot (name := Str.ofString "__getitem__") ht.typeIs PyProof.Rows.slot_tuple_getitem
    (wpAny_call_entry PyProof.Rows.slot_tuple_getitem ht.typeIs entry_tuple_getitem ?_ (args_tuple_getitem _ _)))
  show wpAny _ _ (Builtin.Tuple.tupleItemsOf (.ref t) >>= _) _ _ s
  refine wpAny_bind (tupleItemsOf_ ht ?_)
  refine wpAny_bind (wpAny_typeOf hTs ?_)
  rw [if_pos (by decide)]
  refine wpAny_bind (sliceApplied_rev hs pl pu ps ?_)
  have hno : ¬ ((((items.size : Int) - 1) == 0 && (-1 : Int) == 1 && items.size == items.size) = true) := by
    intro q
    rw [Bool.and_eq_true, Bool.and_eq_true] at q
    exact absurd (eq_of_beq q.1.2) (by decide)
  show wpAny _ _ (if (((items.size : Int) - 1) == 0 && (-1 : Int) == 1 && items.size == items.size) = true then _ else _) _ _ s
  rw [if_neg hno, pick_rev]
  first
    | exact wpAny_bind (m := Builtin.Tuple.tupleExact _) (wpAny_newObj_type (wpAny_pure ⟨_, rfl, wpAny_pure h⟩) htake)
    | exact wpAny_bind (m := Builtin.Tuple.tupleExact _) (wpAny_newObj_type (wpAny_bind (wpAny_pure (wpAny_pure ⟨_, rfl, wpAny_pure h⟩))) htake)
    | exact wpAny_bind (wpAny_bind (m := Builtin.Tuple.tupleExact _) (wpAny_newObj_type (wpAny_pure (wpAny_pure ⟨_, rfl, wpAny_pure h⟩)) htake))
    | exact wpAny_bind (wpAny_bind (m := Builtin.Tuple.tupleExact _) (wpAny_newObj_type (wpAny_pure ⟨_, rfl, wpAny_pure h⟩) htake))
def tRevT (K : PySem.W.Frag) (te ts : TE) : TE := fun σ H Q => te σ H fun x H1 => tPart ts σ H1 fun o H2 => ∃ (a : Addr) (xs : List V), x = .ref a ∧ SqT K H2 a xs ∧ o = some (-1) ∧ ∀ p, H2 p = none → Q (.ref p) (upd H2 p (.tup xs.reverse))
theorem pe_revT {X : Cx} {e es : Expr} {te ts : TE} {p3 pos : Pos} (he : PE X e te) (hs : PE X es ts)
    (hsub : ∀ (a l : Addr), subscripted (.Slice none none (some es) p3) false (.ref a) (.ref l) = operate [.ref a, .ref l] (getItem (.ref a) (.ref l)) := by intro _ _; with_unfolding_all rfl) : PE X (.Subscript e (.Slice none none (some es) p3) pos) (tRevT X.K te ts) := by
  refine ⟨fun pins s σ H Q I h => ?_⟩
  refine Subscript_ (thn (he.run pins s σ H _ I h) fun v s1 ⟨x, H1, I1, r1, q1⟩ => ?_)
  refine wpAny_Slice (thn (po_none.run pins s1 σ H1 (fun o H2 => o = none ∧ H2 = H1) I1 ⟨rfl, rfl⟩) fun vl s2 ⟨l, H2, I2, pl, el, e2⟩ => ?_)
  subst el e2
  refine thn (po_none.run pins s2 σ H2 (fun o H3 => o = none ∧ H3 = H2) I2 ⟨rfl, rfl⟩) fun vu s3 ⟨u, H3, I3, pu, eu, e3⟩ => ?_
  subst eu e3
  have hst : PO X (some es) (tPart ts) := po_some hs
  refine thn (hst.run pins s3 σ H3 _ I3 q1) fun vs s4 ⟨o, H4, I4, ps, a, xs, ex, hx, eo, q⟩ => ?_
  subst ex
  cases r1
  subst eo
  have I5 : Inv X pins σ H4 { s4 with heap := s4.heap.push { cls := .type "slice", data := .fields #[vl, vu, vs] } } := I4.kept (t' := s4.toks) fun b ob q => Heap.get?_push_of_some _ q
  obtain ⟨its, r, ht, hz⟩ := I5.tuple hx
  have hlen := r.length
  show wpAny (model X.prog X.w) X.A (subscriptTail e (.Slice none none (some es) p3) (.ref a) (.ref s4.heap.objs.size)) (EP X pins σ Q) X.xe { s4 with heap := s4.heap.push { cls := .type "slice", data := .fields #[vl, vu, vs] } }
  refine tail_any (ops := [.ref a, .ref s4.heap.objs.size]) ht.typeIs (PyProof.Rows.slot_tuple_getitem.lookup) ?_ (hsub _ _)
  refine getItem_tuple_rev ht (Heap.IsSliceOf.new _ vl vu vs) pl pu ps ?_ (by rw [List.size_toArray]; omega)
  refine ⟨.ref _, _, I5.laid (t' := s4.toks) (o := .tup xs.reverse) (fun b ob q => Heap.get?_push_of_some _ q) (Nat.le_refl _) ?_, rfl, q _ (I5.hok.fresh (Nat.le_refl _))⟩
  exact ⟨by rw [List.length_reverse]; exact hz, _, r.reverse, ⟨_, Heap.get?_push_size _ rfl, rfl, _, rfl⟩⟩
/-! ### parts of tuples, and tuples behind one another, whatever is the whole -/
theorem sl_toG {K : PySem.W.Frag} {H : Hp} {Z : VK} {p : Addr} {xs : List V} {j : Nat} (hp : H p = some (.tup xs)) (z : ∀ (t : Addr) (H' : Hp), Ex H H' → H' t = some (.tup (xs.take j)) → Z (.ref t) H') : rSlAny K (.ref p) none (some (j : Int)) H Z := by
  refine .inr (.inl ⟨p, _, rfl, st_of hp, fun hz => ?_, fun hz t ht => ?_⟩)
  · have h1 := hz.2
    rw [HT.sIx_nat] at h1
    refine z p H (Ex.refl _) ?_
    rw [List.take_of_length_le (by omega)]
    exact hp
  · rw [cut_to]
    generalize hq2 : upd H t _ = H2
    obtain ⟨e2, h2⟩ := gen1 hq2 ht
    exact z t _ e2 h2
theorem sl_fromG {K : PySem.W.Frag} {H : Hp} {Z : VK} {p : Addr} {xs : List V} {j : Nat} (hp : H p = some (.tup xs)) (z : ∀ (t : Addr) (H' : Hp), Ex H H' → H' t = some (.tup (xs.drop j)) → Z (.ref t) H') : rSlAny K (.ref p) (some (j : Int)) none H Z := by
  refine .inr (.inl ⟨p, _, rfl, st_of hp, fun hz => ?_, fun hz t ht => ?_⟩)
  · have h1 := hz.1
    rw [HT.sIx_nat] at h1
    refine z p H (Ex.refl _) ?_
    have : j = 0 ∨ xs.length = 0 := by omega
    rcases this with rfl | h
    · exact hp
    · rw [List.drop_of_length_le (by omega)]
      rw [List.length_eq_zero_iff.mp h] at hp
      exact hp
  · rw [cut_from]
    generalize hq2 : upd H t _ = H2
    obtain ⟨e2, h2⟩ := gen1 hq2 ht
    exact z t _ e2 h2
theorem cat_G {K : PySem.W.Frag} {H : Hp} {Z : VK} {a b : Addr} {xs ys : List V} (ha : H a = some (.tup xs)) (hb : H b = some (.tup ys)) (hl : xs.length + ys.length ≤ 1000) (z : ∀ (t : Addr) (H' : Hp), Ex H H' → H' t = some (.tup (xs ++ ys)) → Z (.ref t) H') : rAdd K (.ref a) (.ref b) H Z := by
  refine .inr (.inr (.inr ⟨a, b, xs, ys, rfl, rfl, st_of ha, st_of hb, Nat.le_trans hl (by show 1000 ≤ sizeLine; decide), fun e => ?_, fun _ e => ?_, fun _ _ t ht => ?_⟩))
  · refine z b H (Ex.refl _) ?_
    rw [e, List.nil_append]
    exact hb
  · refine z a H (Ex.refl _) ?_
    rw [e, List.append_nil]
    exact ha
  · generalize hq2 : upd H t _ = H2
    obtain ⟨e2, h2⟩ := gen1 hq2 ht
    exact z t _ e2 h2
def rMulT (K : PySem.W.Frag) : R2 := fun x y H Z => rMul x y H Z ∨ rRepT K x y H Z
theorem opMulT {X : Cx} : OpR X (binaryOp .Mult) (rMulT X.K) := OpR.or opMul op_repT
theorem flat_one {α : Type} (x : α) : ∀ n : Nat, (List.replicate n [x]).flatten = List.replicate n x
  | 0 => rfl
  | n + 1 => by
    rw [List.replicate_succ, List.flatten_cons, flat_one x n]
    rfl
theorem DaAll.rep {H : Hp} {v : V} {d : PyData} (h : Da H v d) : ∀ n : Nat, DaAll H (List.replicate n v) (List.replicate n d)
  | 0 => .nil
  | n + 1 => .cons h (DaAll.rep h n)
end Own

namespace Own
open PySem PySem.Spec PyProof.Rows L2 Evl
/-! ### methods: the name and the long name -/
section
variable {P : Program} {w : World} {K : PySem.W.Frag} {mg : Str → Option Value} {base : Heap}
theorem fn_mkQ {x q : Str} {f : Addr} {fd : FuncData} {st : Stmt} {N ps : List Str} {k : Nat} {sp : Sp} (F : Fun K x q st f fd) (S : FnScope N ps (defScope st))
    (len : ∀ vs H Z EE, sp vs H Z EE → vs.length = ps.length)
    (hbody : ∀ (cdv : Value) (A : Around) (outer : List Env) (s : Shared) (H : Hp) (vs : List V) (Z : VK) (EE : XK), Room k (A.deeper (envOfC q (defScope st) s.heap.objs.size f cdv)) → (A.deeper (envOfC q (defScope st) s.heap.objs.size f cdv)).guards = some [] → sp vs H Z EE →
      ∃ t, PSs (cxOf CX0 P w K mg base N q (defScope st) f cdv A outer s H EE).nox (defBody st) t ∧ t { nx := fun _ H' => Z .non H', rt := Z } (start N vs) H) : FnG P w K mg base (k + 1) f fd ps sp := by
  obtain ⟨oc, od, kV, doc, pm, an, cdv, ct, sl, rfl, lkp, hcd⟩ := F.ex
  refine ⟨len, fun A outer s H args us vs Z EE hr hg e0 hbt r hsp => ?_⟩
  have body : ∀ (A : Around) (outer : List Env) (s : Shared) (H : Hp) (vs : List V) (Z : VK) (EE : XK), Room k (A.deeper (envOfC q (defScope st) s.heap.objs.size f cdv)) → A.guards = some [] → sp vs H Z EE →
      ∃ t, PSs (cxOf CX0 P w K mg base N q (defScope st) f cdv A outer s H EE) (defBody st) t ∧ t { nx := fun _ H' => Z .non H', rt := Z } (start N vs) H := fun A outer s H vs Z EE hr hg hsp => by
    obtain ⟨t, h, qq⟩ := hbody cdv A outer s H vs Z EE hr hg hsp
    exact ⟨t, h.nox, qq⟩
  have hlen := len _ _ _ _ hsp
  have KI : K.In s.heap := e0.mod.kin.keeps fun b o e => (e0.bs b o e).1
  have nlm : s.heap.NoLimit := e0.mod.nolimit.keeps fun b o e => (e0.bs b o e).1
  have hkind : ∀ y ∈ ps.zip us, (defScope st).names.lookup y.1 = some .local ∨ ((defScope st).names.lookup y.1 = some .cell ∧ ((cellsFrom (s.heap.objs.size + 1) (defScope st).names []).lookup y.1).isSome = true) := fun ⟨n, v⟩ hyy => by
    rcases S.par n (List.of_mem_zip hyy).1 with qq | qq
    · exact .inl qq
    · exact .inr ⟨qq, PySem.W.cellsFrom_some _ _ _ (.inl qq)⟩
  refine codeAny_call_function hr.depth (KI _ _ lkp) rfl S.co S.gen rfl (PySem.W.codeRec_of KI hcd) (hbt _ _ _ _ ?_)
  refine wpAny_newFunctionEnv_cells S.kind hkind fun env hes st1 xx => ?_
  subst hes
  refine ⟨nlm.keeps xx.toInCall.keep, codeAny_func ?_⟩
  obtain ⟨t, ht, hsq⟩ := body A outer s H vs Z EE (hr.deeper _) hg hsp
  have I : Inv (cxOf CX0 P w K mg base N q (defScope st) f cdv A outer s H EE) [] (start N vs) H st1 := inv_start S hr.hd e0 hlen r xx
  refine wpAny_mono (ht.run [] st1 (start N vs) H _ I hsq) (fun fl s' hst => ?_) fun e s' hst => hst
  have ready : ∀ {τ' : L2.St} {H' : Hp} {v : V} {u : Value}, Inv (cxOf CX0 P w K mg base N q (defScope st) f cdv A outer s H EE) [] τ' H' s' → RelV v u → Z v H' → CE outer P w H s Z u s' :=
    fun {τ' H' v u} J rv qq => ⟨v, H', J.os, J.bare, J.base, J.hok, rv, qq⟩
  cases fl with
  | ret u =>
    obtain ⟨v, τ', H', J, rv, qq⟩ := hst
    exact ready J rv qq
  | next =>
    obtain ⟨τ', H', J, qq⟩ := hst
    exact ready (v := V.non) (u := Value.none) J rfl qq
  | brk =>
    obtain ⟨_, _, _, qq⟩ := hst
    exact False.elim qq
  | cont =>
    obtain ⟨_, _, _, qq⟩ := hst
    exact False.elim qq
end
/-- the type of a value beside an own object -/
inductive TyE (H : Hp) : V → Value → Prop where
  | non : TyE H .non (.type "NoneType")
  | int (i : Int) : TyE H (.int i) (.type "int")
  | lst {a : Addr} {xs : List V} (e : H a = some (.lst xs)) : TyE H (.ref a) (.type "list")
  | tup {a : Addr} {xs : List V} (e : H a = some (.tup xs)) : TyE H (.ref a) (.type "tuple")
  | ins {a C d : Addr} {fs : List (Str × V)} (e : H a = some (.ins C d fs)) : TyE H (.ref a) (.ref C)
section
variable {X : Cx} {pk : List (Addr × Obj)} {τ : L2.St} {H : Hp} {s : Shared} {M : Model} {v : V} {u tb : Value} {k j : Nat} {C : Addr} {sp : Sp}
theorem TyE.looks (I : Inv X pk τ H s) (r : RelV v u) (t : TyE H v tb) : PySem.W.Looks M s.heap (typeOf u) tb := by
  cases t with
  | non => cases (show u = Value.none from r); exact .now
  | int i => obtain ⟨t, q⟩ := (show ∃ t, u = Value.int i t from r); cases q; exact .now
  | @lst a xs ea =>
    cases (show u = Value.ref a from r)
    obtain ⟨_, _, n, _, h1⟩ := (show ObjOk X.prog X.w H s.heap a (.lst xs) from I.hok a _ ea)
    exact (PySem.W.Looks.ld h1).andThen .now
  | @tup a xs ea =>
    cases (show u = Value.ref a from r)
    obtain ⟨_, _, _, p⟩ := (show ObjOk X.prog X.w H s.heap a (.tup xs) from I.hok a _ ea)
    obtain ⟨o, h1, h2, _⟩ := p
    exact h2 ▸ (PySem.W.Looks.ld h1).andThen .now
  | @ins a C d fs ea =>
    cases (show u = Value.ref a from r)
    obtain ⟨mA, J, _⟩ := ins_get I.hok ea
    obtain ⟨od, J, _⟩ := J.look
    exact J.type
def rOwn (K : PySem.W.Frag) (C : Addr) (sp : Sp) : R2 := fun x y H Q => ∃ (a d : Addr) (fs : List (Str × V)) (tb : Value), x = .ref a ∧ H a = some (.ins C d fs) ∧ TyE H y tb ∧ PySem.W.notFirst K C tb = true ∧ sp [x, y] H (fun v H' => (∃ b, v = .bl b) ∧ Q v H') E0
theorem op_own (c : MetG X.prog X.w X.K X.mg X.base k C "__eq__" sp) (hr : Room j X.A) (hg0 : X.A.guards = some []) (hkp : k ≤ j) : OpR X (compareOp .Eq) (rOwn X.K C sp) := by
  intro pins s σ H x y u v Q I rx ry hq
  obtain ⟨f, fd, ps, F, M, b⟩ := c.ex
  obtain ⟨a, d, fs, tb, rfl, ha, ht, hn, q⟩ := hq
  cases rx
  show wpAny (model X.prog X.w) X.A (richCompare .Eq (.ref a) v) (EP X pins σ Q) X.xe s
  obtain ⟨mA, J, _⟩ := ins_get I.hok ha
  obtain ⟨od, J, _⟩ := J.look
  obtain ⟨m, hF⟩ := I.fr
  refine PySem.W.cmp_K (op := .Eq) (tb := tb) hr.units0 hF I.ok.mod.kin J (ht.looks I ry) hn M.at_ M.fn ?_
  refine wpAny_mono (run_fnG (us := [.ref a, v]) (vs := [.ref a, y]) F (hr.mono hkp) hg0 b I (.cons rfl (.cons ry .nil)) q) (fun w s' z => ?_) (fun _ _ e => e)
  obtain ⟨z, H', I', rz, ⟨bb, eb⟩, q'⟩ := z
  subst eb
  cases rz
  exact ⟨.bl bb, H', I', rfl, q'⟩
end
section
variable {prog : Program} {w : World} {A : Around} {E : Value → Shared → Prop} {s : Shared} {K : PySem.W.Frag} {x C L f : Addr} {h₀ : Heap} {m : Str → Option Value} {ox : Obj} {od : Option Obj} {b tb : Value}
theorem ifBound_B {M : Model} {name : Str} {id : String} {args : List Value} {Q : Option Value → Shared → Prop} (X : K.In s.heap) (I : PySem.W.InstAt s.heap x ox C od) (hs : PySem.W.findIn K (.ref C) name = some (some (.builtin id)))
    (hbd : ∀ self, bindSpecial (.builtin id) self = pure (.builtin id, [self]))
    (h : wpAny M A (call (.builtin id) (.ref x :: args)) (fun v => Q (some v)) E s) : wpAny M A (callSpecialIfBound? (.ref x) name args) Q E s := by
  simp only [callSpecialIfBound?, bindSpecialIfBound?]
  refine wpAny_holding (wpAny_bind (wpAny_bind (wpAny_bind (I.type.here ((PySem.W.looks_findIn X hs).here ?_)))))
  simp only [hbd]
  refine wpAny_bind (wpAny_askSetting (wpAny_ite ?_))
  have fin : wpAny M A (call (.builtin id) ([.ref x] ++ args) >>= fun v => pure (some v)) Q E s := wpAny_bind (wpAny_mono h (fun v s' h' => wpAny_pure h') fun _ _ h' => h')
  split
  · exact wpAny_bind (wpAny_pure (wpAny_pure fin))
  · exact wpAny_tryCatch (wpAny_bind (wpAny_pure (wpAny_pure fin)))
theorem ne_entry {Q : Fin → Shared → Prop} (X : K.In s.heap) (I : PySem.W.InstAt s.heap x ox C od) (hs : PySem.W.findIn K (.ref C) "__eq__" = some (some (.ref f))) (hf : PySem.W.isFn K (.ref f) = true) (hu : A.units < cLine)
    (hcall : wpAny (model prog w) A (call (.ref f) [.ref x, b]) (fun v s' => ∃ r, v = .bool r ∧ Q (.done (.ret (.bool (!r)))) s') E s) :
    wpAny (model prog w) A (Builtin.«object.__ne__» ⟨[.ref x, b], []⟩) Q E s := by
  obtain ⟨h, g, d, t, os⟩ := s
  unfold Builtin.«object.__ne__»
  repeat (first
    | with_reducible refine wpAny_cRoomFor hu ?_
    | (refine wpAny_bind (m := callSpecialIfBound? (.ref x) (Str.ofString "__eq__") [b])
        (PySem.W.ifBound_K X I hs hf (wpAny_mono hcall (fun r s' hr => by
          obtain ⟨b, rfl, hq⟩ := hr
          repeat (first | exact hq | exact wpAny_pure hq | exact wpAny_truthy_bool hq | (refine wpAny_bind (m := truthy (.bool _)) (wpAny_truthy_bool ?_)) | wp_step)) fun _ _ e => e)))
    | wp_step)
theorem ne_K {Q : Value → Shared → Prop} (hu : A.units + 1 < cLine) (F : Fr h₀ L s.heap m) (X₀ : K.In h₀) (I : PySem.W.InstAt s.heap x ox C od) (hb : PySem.W.Looks (model prog w) s.heap (typeOf b) tb) (hn : PySem.W.notFirst K C tb = true)
    (hne : PySem.W.findIn K (.ref C) "__ne__" = some (some (.builtin "object.__ne__"))) (hob : PySem.W.subIn K (.ref C) (.type "object") = some true)
    (hs : PySem.W.findIn K (.ref C) "__eq__" = some (some (.ref f))) (hf : PySem.W.isFn K (.ref f) = true)
    (h : wpAny (model prog w) A.in1 (call (.ref f) [.ref x, b]) (fun v s' => ∃ r, v = .bool r ∧ Q (.bool (!r)) s') E s) : wpAny (model prog w) A (richCompare .NotEq (.ref x) b) Q E s := by
  have X := X₀.keeps F.keep
  have one : wpAny (model prog w) A (tryCompare (.ref x) (cmpInfo .NotEq).2.1 b) (fun r s' => ∃ v, r = some v ∧ Q v s') E s := by
    unfold tryCompare
    refine wpAny_bind (ifBound_B X I (name := (cmpInfo .NotEq).2.1) hne (fun self => PySem.F.cmp_object.ne.bind self) (wpAny_call (codeAny_call_builtin PySem.F.cmp_object.ne.plain PySem.F.cmpEntry_ne
      (PySem.W.check_slot PySem.F.cmpKind_ne PySem.F.cmpSplit_ne (I.type.andThen (PySem.W.looks_subIn X hob)) (PySem.F.cmpArgs_ne _ _) (ne_entry (A := A.in1) X I hs hf (Nat.lt_of_succ_le hu) (wpAny_mono h (fun v s' hv => ?_) fun _ _ e => e))))))
    obtain ⟨r, rfl, q⟩ := hv
    first | exact ⟨r, rfl, ⟨_, rfl, q⟩⟩ | exact ⟨r, rfl, wpAny_pure ⟨_, rfl, q⟩⟩ | exact ⟨r, rfl, wpAny_pure (wpAny_pure ⟨_, rfl, q⟩)⟩
  unfold richCompare
  simp only [oneThing_ref]
  refine wpAny_holding (wpAny_bind (wpAny_cRoomFor (Nat.lt_of_succ_lt hu) ?_))
  refine wpAny_bind (I.type.here (wpAny_bind (hb.here ?_)))
  split
  · rename_i q
    have e : PySem.W.subIn K tb (.ref C) = some false := by
      rcases Bool.or_eq_true_iff.mp hn with e | e
      · rw [beq_iff_eq.mp e] at q; simp at q
      · exact beq_iff_eq.mp e
    refine wpAny_bind ((PySem.W.looks_subIn X e).here ?_)
    simp only [Bool.false_eq_true, if_false]
    refine wpAny_bind (wpAny_mono one (fun r s' z => ?_) fun _ _ e => e)
    obtain ⟨v, rfl, hq⟩ := z
    exact wpAny_pure hq
  · refine wpAny_bind (wpAny_pure ?_)
    simp only [Bool.false_eq_true, if_false]
    refine wpAny_bind (wpAny_mono one (fun r s' z => ?_) fun _ _ e => e)
    obtain ⟨v, rfl, hq⟩ := z
    exact wpAny_pure hq
end
/-- what of the text != by an own == wants -/
structure NeOwn (K : PySem.W.Frag) (C : Addr) : Prop where
  ne : PySem.W.findIn K (.ref C) "__ne__" = some (some (.builtin "object.__ne__"))
  ob : PySem.W.subIn K (.ref C) (.type "object") = some true
section
variable {X : Cx} {k j : Nat} {C : Addr} {sp : Sp}
def rOwnN (K : PySem.W.Frag) (C : Addr) (sp : Sp) : R2 := fun x y H Q => ∃ (a d : Addr) (fs : List (Str × V)) (tb : Value), x = .ref a ∧ H a = some (.ins C d fs) ∧ TyE H y tb ∧ PySem.W.notFirst K C tb = true ∧ sp [x, y] H (fun v H' => ∃ b, v = .bl b ∧ Q (.bl (!b)) H') E0
theorem op_ownN (c : MetG X.prog X.w X.K X.mg X.base k C "__eq__" sp) (N : NeOwn X.K C) (hr : Room j X.A) (hg0 : X.A.guards = some []) (hkp : k + 1 ≤ j) : OpR X (compareOp .NotEq) (rOwnN X.K C sp) := by
  intro pins s σ H x y u v Q I rx ry hq
  obtain ⟨f, fd, ps, F, M, b⟩ := c.ex
  obtain ⟨a, d, fs, tb, rfl, ha, ht, hn, q⟩ := hq
  cases rx
  show wpAny (model X.prog X.w) X.A (richCompare .NotEq (.ref a) v) (EP X pins σ Q) X.xe s
  obtain ⟨mA, J, _⟩ := ins_get I.hok ha
  obtain ⟨od, J, _⟩ := J.look
  obtain ⟨m, hF⟩ := I.fr
  have r1 : Room (k + 1) X.A := hr.mono hkp
  refine ne_K (tb := tb) (by have z := r1.un; omega) hF I.ok.mod.kin J (ht.looks I ry) hn N.ne N.ob M.at_ M.fn ?_
  have hq' : sp [.ref a, y] H (fun v H' => ∃ b, v = .bl b ∧ Q (.bl (!b)) H') E0 := q
  have hlen : [Value.ref a, v].length = ps.length := F.len _ _ _ _ hq'
  refine wpAny_call (codeAny_mono (F.run X.A.in1 X.stack s H ⟨[.ref a, v], []⟩ [.ref a, v] [.ref a, y] _ E0 r1.in1 hg0 I.env0.in1 (by have q := b s [.ref a, v] I.kIn hlen; exact q) (.cons rfl (.cons ry .nil)) hq') fun r s' hsq => ?_)
  cases r with
  | error e => exact (show False from hsq).elim
  | ok fl =>
    cases fl with
    | ret u =>
      obtain ⟨z, H', I', rz, bb, eb, q'⟩ := I.after hsq
      subst eb
      cases rz
      exact ⟨bb, rfl, .bl (!bb), H', I', rfl, q'⟩
    | next => exact False.elim hsq
    | brk => exact False.elim hsq
    | cont => exact False.elim hsq
end
end Own

namespace Own
open PySem PySem.Spec PyProof.Rows L2 Evl
/-! ### defs that may raise, called where no container is being shown -/
structure FnX (P : Program) (w : World) (K : PySem.W.Frag) (mg : Str → Option Value) (base : Heap) (k : Nat) (f : Addr) (fd : FuncData) (ps : List Str) (sp : Sp) : Prop where
  len : ∀ vs H Z EE, sp vs H Z EE → vs.length = ps.length
  run : ∀ (A : Around) (outer : List Env) (s : Shared) (H : Hp) (args : Args) (us : List Value) (vs : List V) (Z : VK) (EE : XK), Room k A → A.guards = some [] → Env0 P w K mg base A outer s H → BindsTo s fd args (ps.zip us) → Vals vs us → sp vs H Z EE →
    codeAny (model P w) A (.call (.ref f) args) (CR (L2.CX P w) outer P w H s Z EE) s
section
variable {P : Program} {w : World} {K : PySem.W.Frag} {mg : Str → Option Value} {base : Heap}
theorem fn_mkX {x q : Str} {f : Addr} {fd : FuncData} {st : Stmt} {N ps : List Str} {k : Nat} {sp : Sp} (F : Fun K x q st f fd) (S : FnScope N ps (defScope st))
    (len : ∀ vs H Z EE, sp vs H Z EE → vs.length = ps.length)
    (hbody : ∀ (cdv : Value) (A : Around) (outer : List Env) (s : Shared) (H : Hp) (vs : List V) (Z : VK) (EE : XK), Room k (A.deeper (envOfC q (defScope st) s.heap.objs.size f cdv)) → (A.deeper (envOfC q (defScope st) s.heap.objs.size f cdv)).guards = some [] → sp vs H Z EE →
      ∃ t, PSs (cxOf (L2.CX P w) P w K mg base N q (defScope st) f cdv A outer s H EE) (defBody st) t ∧ t { nx := fun _ H' => Z .non H', rt := Z } (start N vs) H) : FnX P w K mg base (k + 1) f fd ps sp := by
  obtain ⟨oc, od, kV, doc, pm, an, cdv, ct, sl, rfl, lkp, hcd⟩ := F.ex
  refine ⟨len, fun A outer s H args us vs Z EE hr hg e0 hbt r hsp => ?_⟩
  have body : ∀ (A : Around) (outer : List Env) (s : Shared) (H : Hp) (vs : List V) (Z : VK) (EE : XK), Room k (A.deeper (envOfC q (defScope st) s.heap.objs.size f cdv)) → A.guards = some [] → sp vs H Z EE →
      ∃ t, PSs (cxOf (L2.CX P w) P w K mg base N q (defScope st) f cdv A outer s H EE) (defBody st) t ∧ t { nx := fun _ H' => Z .non H', rt := Z } (start N vs) H := fun A outer s H vs Z EE hr hg hsp => by
    obtain ⟨t, h, qq⟩ := hbody cdv A outer s H vs Z EE hr hg hsp
    exact ⟨t, h, qq⟩
  have hlen := len _ _ _ _ hsp
  have KI : K.In s.heap := e0.mod.kin.keeps fun b o e => (e0.bs b o e).1
  have nlm : s.heap.NoLimit := e0.mod.nolimit.keeps fun b o e => (e0.bs b o e).1
  have hkind : ∀ y ∈ ps.zip us, (defScope st).names.lookup y.1 = some .local ∨ ((defScope st).names.lookup y.1 = some .cell ∧ ((cellsFrom (s.heap.objs.size + 1) (defScope st).names []).lookup y.1).isSome = true) := fun ⟨n, v⟩ hyy => by
    rcases S.par n (List.of_mem_zip hyy).1 with qq | qq
    · exact .inl qq
    · exact .inr ⟨qq, PySem.W.cellsFrom_some _ _ _ (.inl qq)⟩
  refine codeAny_call_function hr.depth (KI _ _ lkp) rfl S.co S.gen rfl (PySem.W.codeRec_of KI hcd) (hbt _ _ _ _ ?_)
  refine wpAny_newFunctionEnv_cells S.kind hkind fun env hes st1 xx => ?_
  subst hes
  refine ⟨nlm.keeps xx.toInCall.keep, codeAny_func ?_⟩
  obtain ⟨t, ht, hsq⟩ := body A outer s H vs Z EE (hr.deeper _) hg hsp
  have I : Inv (cxOf (L2.CX P w) P w K mg base N q (defScope st) f cdv A outer s H EE) [] (start N vs) H st1 := inv_start S hr.hd e0 hlen r xx
  refine wpAny_mono (ht.run [] st1 (start N vs) H _ I hsq) (fun fl s' hst => ?_) fun e s' hst => hst
  have ready : ∀ {τ' : L2.St} {H' : Hp} {v : V} {u : Value}, Inv (cxOf (L2.CX P w) P w K mg base N q (defScope st) f cdv A outer s H EE) [] τ' H' s' → RelV v u → Z v H' → CE outer P w H s Z u s' :=
    fun {τ' H' v u} J rv qq => ⟨v, H', J.os, J.bare, J.base, J.hok, rv, qq⟩
  cases fl with
  | ret u =>
    obtain ⟨v, τ', H', J, rv, qq⟩ := hst
    exact ready J rv qq
  | next =>
    obtain ⟨τ', H', J, qq⟩ := hst
    exact ready (v := V.non) (u := Value.none) J rfl qq
  | brk =>
    obtain ⟨_, _, _, qq⟩ := hst
    exact False.elim qq
  | cont =>
    obtain ⟨_, _, _, qq⟩ := hst
    exact False.elim qq
end
/-- a class whose instances are made by an __init__ with sp that may raise -/
structure MakX (P : Program) (w : World) (K : PySem.W.Frag) (mg : Str → Option Value) (base : Heap) (k : Nat) (x : Str) (C : Addr) (sp : Sp) : Prop where
  at_ : mg x = some (.ref C)
  ex : ∃ (f : Addr) (fd : FuncData) (ps : List Str), FnX P w K mg base k f fd ps sp ∧ Mk K C f ∧ Binds K fd ps []
/-- a method with sp that may raise -/
structure MetX (P : Program) (w : World) (K : PySem.W.Frag) (mg : Str → Option Value) (base : Heap) (k : Nat) (C : Addr) (m : Str) (sp : Sp) : Prop where
  cl : Cls K C
  ex : ∃ (f : Addr) (fd : FuncData) (ps : List Str), FnX P w K mg base k f fd ps sp ∧ Meth K C m f ∧ Binds K fd ps []
/-- a def with sp that may raise -/
structure CalX (P : Program) (w : World) (K : PySem.W.Frag) (mg : Str → Option Value) (base : Heap) (k : Nat) (x : Str) (sp : Sp) : Prop where
  ex : ∃ (f : Addr) (fd : FuncData) (ps : List Str), FnX P w K mg base k f fd ps sp ∧ mg x = some (.ref f) ∧ PySem.W.keepIn K (.ref f) = true ∧ Binds K fd ps []
def tMakeX (C : Addr) (sp : Sp) (E : L2.St → XK) (t : TA) : TE := fun σ H Q => t σ H fun vs H1 => ∀ x dx, H1 x = none → H1 dx = none → dx ≠ x → sp (.ref x :: vs) (upd (upd H1 dx (.own x)) x (.ins C dx [])) (fun v H2 => v = .non ∧ Q (.ref x) H2) (E σ)
def tMethX (C : Addr) (m : Str) (sp : Sp) (E : L2.St → XK) (ta : TE) (t : TA) : TE := fun σ H Q => ta σ H fun x H1 => ∃ a d fs, x = .ref a ∧ H1 a = some (.ins C d fs) ∧ fs.lookup m = none ∧ t σ H1 fun vs H2 => sp (.ref a :: vs) H2 Q (E σ)
section
variable {X : Cx} {pk : List (Addr × Obj)} {τ : L2.St} {H : Hp} {s : Shared} {k j : Nat} {sp : Sp} {f C : Addr} {fd : FuncData} {ps : List Str} {Z : VK} {us : List Value} {vs : List V} {x m : Str} {p pos apos : Pos} {e o : Expr} {es : List Expr} {t : TA} {ta : TE} {E : L2.St → XK}
theorem run_fnX (F : FnX X.prog X.w X.K X.mg X.base k f fd ps sp) (hr : Room k X.A) (hg : X.A.guards = some []) (hbd : Binds X.K fd ps []) (hx : PassesAt (L2.CX X.prog X.w) X τ (E τ))
    (I : Inv X pk τ H s) (r : Vals vs us) (h : sp vs H Z (E τ)) : wpAny (model X.prog X.w) X.A (call (.ref f) us) (EP X pk τ Z) X.xe s := by
  have hlen : us.length = ps.length := by rw [← r.length]; exact F.len _ _ _ _ h
  refine wpAny_call (codeAny_mono (F.run X.A X.stack s H ⟨us, []⟩ us vs Z (E τ) hr hg I.env0 (by have q := hbd s us I.kIn (by rw [List.append_nil]; exact hlen); rw [List.append_nil] at q; exact q) r h) fun r s' hsq => ?_)
  cases r with
  | error e => exact hx pk H s e s' I hsq
  | ok fl =>
    cases fl with
    | ret u => exact I.after hsq
    | next => exact False.elim hsq
    | brk => exact False.elim hsq
    | cont => exact False.elim hsq
theorem run_mkX (M : Mk X.K C f) (F : FnX X.prog X.w X.K X.mg X.base k f fd ps sp) (hr : Room (k + 1) X.A) (hg : X.A.guards = some []) (hbd : Binds X.K fd ps []) (hx : PassesAt (L2.CX X.prog X.w) X τ (E τ)) (I : Inv X pk τ H s) (r : Vals vs us)
    (h : ∀ y d, H y = none → H d = none → d ≠ y → sp (.ref y :: vs) (upd (upd H d (.own y)) y (.ins C d [])) (fun v H2 => v = .non ∧ Z (.ref y) H2) (E τ)) : wpAny (model X.prog X.w) X.A (call (.ref C) us) (EP X pk τ Z) X.xe s := by
  have q0 := h (s.heap.objs.size + 1) s.heap.objs.size (I.hok.fresh (Nat.le_succ _)) (I.hok.fresh (Nat.le_refl _)) (Nat.ne_of_lt (Nat.lt_succ_self _))
  have J := Inv.made (C := C) I
  have rr : Vals (V.ref (s.heap.objs.size + 1) :: vs) (Value.ref (s.heap.objs.size + 1) :: us) := .cons rfl r
  have hl : ((Value.ref (s.heap.objs.size + 1) :: us) ++ []).length = ps.length := by
    rw [List.append_nil, ← rr.length]
    exact F.len _ _ _ _ q0
  have hb := hbd _ (Value.ref (s.heap.objs.size + 1) :: us) J.kIn hl
  rw [List.append_nil] at hb
  have run := F.run (X.A.under (.builtin "type.__call__" ⟨.ref C :: us, []⟩)) X.stack _ _ ⟨Value.ref (s.heap.objs.size + 1) :: us, []⟩ _ _ _ (E τ) (hr.make C us []) hg (J.env0.make C us []) hb rr q0
  refine wpAny_call (make_map (f := f) I.kIn M.makes M.init (beq_iff_eq.mp M.fn) (codeAny_mono run fun res s' hsq => ?_))
  match res, hsq with
  | .error e, hsq => exact hx pk _ _ e s' J hsq
  | .ok (.ret u), hsq =>
    obtain ⟨v, H4, J4, rv, ev, q4⟩ := J.after hsq
    subst ev
    exact ⟨rv, ⟨V.ref (s.heap.objs.size + 1), H4, J4, rfl, q4⟩⟩
  | .ok .next, hsq => exact False.elim hsq
  | .ok .brk, hsq => exact False.elim hsq
  | .ok .cont, hsq => exact False.elim hsq
theorem pe_mkX (c : MakX X.prog X.w X.K X.mg X.base k x C sp) (hr : Room j X.A) (hg0 : X.A.guards = some []) (hkp : k + 1 ≤ j) (hx : ∀ σ, PassesAt (L2.CX X.prog X.w) X σ (E σ)) (hg : Gl X x) (ha : PA X (e :: es) t)
    (hdb : (x == ("__debug__" : Str)) = false := by decide) (hes : starEach (e :: es) X.env = (false, eval e X.env) :: starEach es X.env := by rfl) (hpl : (backTo pos (starEach es X.env)).any (·.1) = false := by rfl) :
    PE X (.Call (.Name x p) (e :: es) [] pos) (tMakeX C sp E t) := by
  obtain ⟨f, fd, ps, F, M, b⟩ := c.ex
  refine ⟨fun pk s τ H Z I h => ?_⟩
  refine wpAny_Call_Name_kw (ld_glob I hg c.at_ ?_ hdb)
  refine PySem.W.callWith_K (h₀ := X.base) I.ok.mod.kin M.kp (thn (ha.run pos pk s τ H _ I h) fun us st1 ⟨vs, H1, I1, r, q⟩ => ⟨I1.kIn, ?_⟩) hes hpl
  exact run_mkX M F (hr.mono hkp) hg0 b (hx τ) I1 r q
theorem pe_cX (c : CalX X.prog X.w X.K X.mg X.base k x sp) (hr : Room j X.A) (hg0 : X.A.guards = some []) (hkp : k ≤ j) (hx : ∀ σ, PassesAt (L2.CX X.prog X.w) X σ (E σ)) (hg : Gl X x) (ha : PA X (e :: es) t)
    (hdb : (x == ("__debug__" : Str)) = false := by decide) (hes : starEach (e :: es) X.env = (false, eval e X.env) :: starEach es X.env := by rfl) (hpl : (backTo pos (starEach es X.env)).any (·.1) = false := by rfl) :
    PE X (.Call (.Name x p) (e :: es) [] pos) (tCallS sp E t) := by
  obtain ⟨f, fd, ps, F, hmg, kp, b⟩ := c.ex
  refine ⟨fun pk s τ H Z I h => ?_⟩
  refine wpAny_Call_Name_kw (ld_glob I hg hmg ?_ hdb)
  refine PySem.W.callWith_K (h₀ := X.base) I.ok.mod.kin kp (thn (ha.run pos pk s τ H _ I h) fun us st1 ⟨vs, H1, I1, r, q⟩ => ⟨I1.kIn, ?_⟩) hes hpl
  exact run_fnX F (hr.mono hkp) hg0 b (hx τ) I1 r q
theorem pe_mtX {pl : Sem Bool} (c : MetX X.prog X.w X.K X.mg X.base k C m sp) (he : PE X o ta) (hr : Room j X.A) (hg0 : X.A.guards = some []) (hkp : k ≤ j) (hx : ∀ σ, PassesAt (L2.CX X.prog X.w) X σ (E σ)) (ha : PA X (e :: es) t)
    (hes : starEach (e :: es) X.env = (false, eval e X.env) :: starEach es X.env := by rfl) (hpl : (backTo pos (starEach es X.env)).any (·.1) = false := by rfl)
    (hte : eval (.Call (.Attribute o m apos) (e :: es) [] pos) X.env = (do
      let ov ← eval o X.env
      standAt apos.atName
      let (g, first) ← holding [ov] (getMethod ov m pl)
      callWith pos g first (backTo pos (starEach (e :: es) X.env)) (backToKw pos (keywordEach [] X.env))) := by rfl) :
    PE X (.Call (.Attribute o m apos) (e :: es) [] pos) (tMethX C m sp E ta t) := by
  obtain ⟨f, fd, ps, F, M, b⟩ := c.ex
  refine ⟨fun pk s τ H Z I h => PySem.W.methodCall_KW (pl := pl) (thn (he.run pk s τ H _ I h) fun u st1 ⟨y, H1, I1, ry, a, d, fs, ey, ea, l, q⟩ => ?_) hte⟩
  subst ey
  have eu : u = Value.ref a := ry
  subst eu
  refine getmeth_ok I1 ea c.cl M l ?_
  refine PySem.W.callWith_K (first := [.ref a]) (h₀ := X.base) I1.ok.mod.kin M.kp (thn (ha.run pos pk st1 τ H1 _ I1 q) fun us st2 ⟨vs, H2, I2, r, q2⟩ => ⟨I2.kIn, ?_⟩) hes hpl
  exact run_fnX (us := .ref a :: us) (vs := .ref a :: vs) F (hr.mono hkp) hg0 b (hx τ) I2 (.cons rfl r) q2
end
/-- isinstance of the caught error of an own class, whatever its dict: what the class must say -/
structure ExcD (K : PySem.W.Frag) (D : Addr) : Prop where
  hc : (PySem.W.clsIn K D).isSome = true
  hg : PySem.W.findIn K (.ref D) "__getattribute__" = some (some (.builtin "BaseException.__getattribute__"))
  hk : PySem.W.findIn K (.ref D) "__getattr__" = some none
  hs : PySem.W.subIn K (.ref D) (.type "BaseException") = some true
  ha : PySem.W.findIn K (.ref D) "__class__" = some (some (.builtin "object.__class__"))
  hn : PySem.W.specialIn K (.builtin "object.__class__") "__get__" = some (some (.builtin "getset_descriptor.__get__"))
  ht : PySem.W.takesIn K (.builtin "object.__class__") = some true
  hm : PySem.W.mroIn K D (.type "object") = some true
theorem call_isD {X : Cx} {a D : Addr} {oe : Obj} {cls : Value} {d : Option Addr} {pn : List (Addr × Obj)} (hcls : cls = .ref D) (dd : Addr) (fs : List (Str × V)) (hd : d = some dd) (C : ExcD X.K D) (hz : Zc cls d oe) (hf : ∃ vs, oe.data = .fields vs) :
    CallR (X.suite a ((a, oe) :: pn)) (.builtin "isinstance") (fun xs H Q => H dd = some (.xd fs) ∧ rIsE X.K D a xs H Q) := by
  intro pins s σ H xs us Q I r h
  subst hcls hd
  obtain ⟨hx, c, cv, b, rfl, hcv, e, q⟩ := h
  cases r with
  | cons rx rr =>
    cases rr with
    | cons rt rr =>
      cases rr
      cases rx
      have ec := hcv _ rt
      subst ec
      obtain ⟨hget, _⟩ := I.pin (a, oe) (List.mem_append.mpr (.inl List.mem_cons_self))
      obtain ⟨vs, hv⟩ := hf
      have hx : ObjOk X.prog X.w H s.heap dd (.xd fs) := I.hok dd _ hx
      obtain ⟨mA, hns, hr⟩ := hx
      obtain ⟨od, ho, hl⟩ := lookIn_ns hns
      have J : PySem.W.InstAt s.heap a oe D (some od) := ⟨hget, hz.1, by unfold PySem.W.notCls; rw [hv] <;> rfl, by rw [hz.2]; exact ho⟩
      exact PySem.W.kia_one (PySem.W.kitx_exc C.hc C.hg C.hk C.hs C.ha C.hn C.ht C.hm) I.kIn J e (fun z => nomatch z) fun tk => ⟨.bl b, H, I.kept (t' := tk) fun _ _ z => z, rfl, q⟩
end Own

namespace Own
open PySem PySem.Spec PyProof.Rows L2 Evl L2H
/-! ### comprehensions where an exception is handled -/
abbrev hctx (X : Cx) (st : Shared) (G : Hp) (sco : Scope) (cen : Env) (fa : List Addr) : Cx := { X.blk st G sco cen fa with pn := X.pn }
section
variable {X : Cx} {st st' : Shared} {G G' : Hp} {sco : Scope} {cen : Env} {fa : List Addr} {τ τ' : L2.St} {pk pk' : List (Addr × Obj)}
theorem ok_hot (o : (X.blk st G sco cen fa).Ok) : (hctx X st G sco cen fa).Ok := ⟨o.mod, o.kind, o.glob, o.blt, o.above, o.inj, o.has, o.cab, o.hd, o.frames, o.stk, o.exf, o.bs, o.bsz, o.noex, o.exfs, o.funs, o.frf⟩
theorem ok_cool (o : (hctx X st G sco cen fa).Ok) : (X.blk st G sco cen fa).Ok := ⟨o.mod, o.kind, o.glob, o.blt, o.above, o.inj, o.has, o.cab, o.hd, o.frames, o.stk, o.exf, o.bs, o.bsz, o.noex, o.exfs, o.funs, o.frf⟩
theorem inv_hot (I0 : Inv X pk τ G st) (I : Inv (X.blk st G sco cen fa) [] τ' G' st') (hfa : ∀ b ∈ fa, ∀ p ∈ X.pn ++ pk, p.1 ≠ b) : Inv (hctx X st G sco cen fa) [] τ' G' st' := by
  refine ⟨ok_hot I.ok, I.os, I.bare, I.base, I.loc, I.cell, I.free, I.freeC, fun p hp => ?_, I.hok, I.len⟩
  have hp : p ∈ X.pn := by simpa using hp
  have hp2 := List.mem_append_left pk hp
  obtain ⟨z1, z2, z3, z4, z5⟩ := I0.pin p hp2
  have nf : p.1 ∉ frs X.stack := fun hm => (List.mem_cons.mp (I0.stkSub p.1 hm)).elim z3 z4
  have ne : p.1 ∉ fa := fun hm => hfa p.1 hm p hp2 rfl
  exact ⟨I.base.keep p.1 p.2 z1 z2 nf ne, I.base.free p.1 p.2 z1 z2 ne, Nat.ne_of_lt (Nat.lt_of_lt_of_le (Heap.lt_size z1) I.ok.above), nf, z5⟩
theorem inv_cool (I : Inv (hctx X st G sco cen fa) pk' τ' G' st') : Inv (X.blk st G sco cen fa) pk' τ' G' st' :=
  ⟨ok_cool I.ok, I.os, I.bare, I.base, I.loc, I.cell, I.free, I.freeC, fun p hp => I.pin p (List.mem_append_right _ (by simpa using hp)), I.hok, I.len⟩
theorem hotC_h (c : HotC X) : HotC (hctx X st G sco cen fa) := c
theorem pe_lcH {elt tg src : Expr} {conds : List Expr} {own : List (Str × Nat)} {pos : Pos} {wi : TI} {g : TG} {tt : TT} {te : TE} (hot : HotC X) (nd : X.N.Nodup) (hi : PIH X tg src wi) (ok : BlkOk X.N X.env.scope sco own)
    (hg : ∀ (s1 : Shared) (H1 : Hp) (c1 : Addr) (l1 : List (Str × Addr)) (b1 : List Addr), PG (X.blk s1 H1 sco (compEnvC sco l1 c1 X.env) b1) tg g)
    (ht : ∀ (s1 : Shared) (H1 : Hp) (c1 : Addr) (l1 : List (Str × Addr)) (b1 : List Addr), PTs (X.blk s1 H1 sco (compEnvC sco l1 c1 X.env) b1) conds tt)
    (he : ∀ (s1 : Shared) (H1 : Hp) (c1 : Addr) (l1 : List (Str × Addr)) (b1 : List Addr), PE (X.blk s1 H1 sco (compEnvC sco l1 c1 X.env) b1) elt te) (hsrc : ∀ x, foldedSetIterable src X.env x = pure x := by intro _; rfl) :
    PE X (.ListComp elt [⟨tg, src, conds, 0⟩] sco pos) (tLc wi g tt te (own.map (·.2))) := by
  refine ⟨fun pk s0 τ H0 Q I0 h0 => ?_⟩
  rw [eval_ListComp]
  have hcl : ∀ y ∈ sco.names, y.2 = .free → ∃ c, X.env.cells.lookup y.1 = some c := fun y hy e => (ok.free y hy e).elim (fun z => I0.ok.has _ (.inl z)) (fun z => I0.ok.has _ (.inr z))
  refine wpAny_comprehension_free (use := none) rfl hsrc (closure_ok hcl) ok.kind (fun y hy e => by rw [ok.uniq y hy, e]) (thn (hi.run pk s0 τ H0 _ I0 h0) fun xv sA hxv => thn hxv fun itv sB hB => ?_)
  obtain ⟨it, fa, tn, J, HB, e, IB, T, tB, fB, q⟩ := hB
  subst e
  refine wpAny_newObj_type (newEnv_comp ?_) (by show 0 ≤ sizeLine; decide)
  generalize hL : sB.heap.objs.size = L
  have nL : HB L = none := IB.hok.fresh (Nat.le_of_eq hL)
  obtain ⟨W, ⟨mm, wm⟩, turn⟩ := q L nL
  generalize hsC : ({ sB with heap := sB.heap.push { cls := .type "list", data := .seq ([] : List Value).toArray } } : Shared) = sC
  have IC : Inv X pk τ (upd HB L (.lst [])) sC := by
    rw [← hsC]
    refine IB.laid (t' := sB.toks) (fun _ _ z => Heap.get?_push_of_some _ z) (Nat.le_of_eq hL) ⟨Nat.zero_le _, [], 0, .nil, ?_⟩
    rw [← hL]
    exact Heap.get?_push_size _ rfl
  have hpC : sC.heap = sB.heap.push { cls := .type "list", data := .seq ([] : List Value).toArray } := by rw [← hsC]
  have below : ∀ b ∈ fa, b < sB.heap.objs.size := fun b hb => let ⟨_, z, _⟩ := T.obj _ _ tB b hb; Heap.lt_size z
  have fC : ∀ b ∈ fa, FpOk X pk (upd HB L (.lst [])) b ∧ b < sC.heap.objs.size := fun b hb => by
    have lt := below b hb
    refine ⟨⟨?_, (fB b hb).2⟩, by rw [hpC, Heap.size_push]; exact Nat.lt_succ_of_lt lt⟩
    rw [upd_ne (by rw [← hL]; exact Nat.ne_of_lt lt)]
    exact (fB b hb).1
  have tC : tn 0 sC.heap := T.keep _ _ _ tB fun b _ o z => by rw [hpC]; exact Heap.get?_push_of_some _ z
  have ID := block_start IC ok nd fC
  have Pg := hg sC (upd HB L (.lst [])) sC.heap.objs.size (cellsFrom (sC.heap.objs.size + 1) sco.names (cloFrom X.env.cells sco.names [])) fa
  have Pt := ht sC (upd HB L (.lst [])) sC.heap.objs.size (cellsFrom (sC.heap.objs.size + 1) sco.names (cloFrom X.env.cells sco.names [])) fa
  have Pe := he sC (upd HB L (.lst [])) sC.heap.objs.size (cellsFrom (sC.heap.objs.size + 1) sco.names (cloFrom X.env.cells sco.names [])) fa
  show codeAny _ _ (.compStart (.ListComp elt [⟨tg, src, conds, 0⟩] sco pos) 0 (.ref it) (.ref L) (compEnvC sco (cellsFrom (sC.heap.objs.size + 1) sco.names (cloFrom X.env.cells sco.names [])) sC.heap.objs.size X.env)) (compPost (model X.prog X.w) X.A X.xe none _ (.ref L) sC.heap.objs.size) { sC with heap := pushCells (sC.heap.push { cls := .type "dict", data := .dict #[] }) sco.names }
  have nofa : ∀ b ∈ fa, (upd HB L (.lst [])) b = none := fun b hb => (fC b hb).1.1
  have pinfa : ∀ b ∈ fa, ∀ p ∈ X.pn ++ pk, p.1 ≠ b := fun b hb => (fC b hb).1.2.2.2.2.2
  generalize hcen : compEnvC sco (cellsFrom (sC.heap.objs.size + 1) sco.names (cloFrom X.env.cells sco.names [])) sC.heap.objs.size X.env = cen at ID Pg Pt Pe ⊢
  have lcen : cen.locals = sC.heap.objs.size := by subst hcen; rfl
  generalize hHC : upd HB L (.lst []) = HC at IC ID Pg Pt Pe wm nofa fC
  generalize hsD : ({ sC with heap := pushCells (sC.heap.push { cls := .type "dict", data := .dict #[] }) sco.names } : Shared) = sD at ID ⊢
  have tD : tn 0 sD.heap := T.keep _ _ _ tC fun b _ o z => by rw [← hsD]; exact pushCells_keeps _ _ _ _ (Heap.get?_push_of_some _ z)
  have still : ∀ {τ' : L2.St} {H' : Hp} {s' : Shared}, Inv (X.blk sC HC sco cen fa) [] τ' H' s' → (∀ b ∈ fa, H' b = none) → ∀ b ∈ fa, FpOk (X.blk sC HC sco cen fa) [] H' b := fun {τ' H' s'} I' hn b hb =>
    ⟨hn b hb, (I'.ok.exf b hb).1, I'.ok.exfs b hb, .inl hb, fun x c z => (I'.ok.exf b hb).2 x c z, fun p hp => absurd (show p ∈ ([] : List (Addr × Obj)) ++ [] from hp) (by simp)⟩
  have stillH : ∀ {τ' : L2.St} {H' : Hp} {s' : Shared}, Inv (X.blk sC HC sco cen fa) [] τ' H' s' → (∀ b ∈ fa, H' b = none) → ∀ b ∈ fa, FpOk (hctx X sC HC sco cen fa) [] H' b := fun {τ' H' s'} I' hn b hb =>
    ⟨hn b hb, (I'.ok.exf b hb).1, I'.ok.exfs b hb, .inl hb, fun x c z => (I'.ok.exf b hb).2 x c z, fun p hp => pinfa b hb p (List.mem_append_left _ (by simpa using hp))⟩
  have run : codeAny (model X.prog X.w) X.A (.compLoop (.ListComp elt [⟨tg, src, conds, 0⟩] sco pos) 0 (.ref it) (.ref L) cen) (compPost (model X.prog X.w) X.A X.xe none (EP X pk τ Q) (.ref L) sC.heap.objs.size) sD := by
    refine compLoop_any (fun n s' => ∃ i H', Inv (X.blk sC HC sco cen fa) [] (wipe τ (own.map (·.2))) H' s' ∧ tn i s'.heap ∧ (∀ b ∈ fa, H' b = none) ∧ W i n H') ?_ mm ⟨0, HC, ID, tD, nofa, wm⟩
    rintro n sE ⟨i, HE, IE, tE, nE, wE⟩
    rcases turn i n HE wE with ⟨stop, qq⟩ | ⟨go, Nx, hNx, step⟩
    · have td := T.done (hctx X sC HC sco cen fa) rfl rfl rfl (hotC_h hot) i [] sE _ HE (fun _ _ => False) (inv_hot IC IE pinfa) (stillH IE nE) tE stop
      refine thnF td fun r sF ⟨hr, IFh⟩ => ?_
      have IF := inv_cool IFh
      subst hr
      have IX : Inv X pk τ HE sF := IC.call' (ch := fa) IF.os IF.base IF.hok IF.bare fun b hb => ⟨(fC b hb).1.2.2.2.1, (fC b hb).1.2.1, (fC b hb).1.2.2.2.2.1, (fC b hb).1.2.2.2.2.2⟩
      have nC : HE sC.heap.objs.size = none := by
        have z : HE cen.locals = none := IF.free
        rw [lcen] at z
        exact z
      obtain ⟨m, hn, _⟩ := IF.loc
      have hn : sF.heap.Ns cen.locals m := hn
      rw [lcen] at hn
      refine ⟨m, hn, fun h'' sb => ?_⟩
      obtain ⟨_, f1, f2, f3, f4, f5⟩ := IC.fpOk (Nat.le_refl _) nC
      exact ⟨.ref L, HE, IX.turned (t' := sF.toks) (fun b o hb z => (sb.2 b hb).trans z) nC f1 f3 f4 f5, rfl, qq⟩
    · have ti := T.item (hctx X sC HC sco cen fa) rfl rfl rfl (hotC_h hot) i [] sE _ HE (fun _ _ => False) (inv_hot IC IE pinfa) (stillH IE nE) tE go
      refine thnF ti fun r sF ⟨u, hr, hF⟩ => ?_
      subst hr
      refine thnF hF fun _ sG ⟨x, HG, IGh, rG, yG, tG, nG⟩ => ?_
      have IG := inv_cool IGh
      have IG' := IG.pinned (still IG nG) (T.obj _ _ tG)
      refine thnF (Pg.run _ sG _ HG x u _ IG' rG (step x HG yG)) fun _ sK ⟨τK, HK, IK, wK, qK⟩ => ?_
      refine thnF (Pt.run _ sK τK HK _ IK qK) fun b sM ⟨HM, IM, qM⟩ => ?_
      have last : ∀ {s' : Shared} {H' : Hp}, Inv (X.blk sC HC sco cen fa) ([] ++ pinsAt fa sG.heap) τK H' s' → Nx H' → ∃ m, m < n ∧ ∃ i H', Inv (X.blk sC HC sco cen fa) [] (wipe τ (own.map (·.2))) H' s' ∧ tn i s'.heap ∧ (∀ b ∈ fa, H' b = none) ∧ W i m H' := fun {s' H'} I' nx => by
        obtain ⟨m', hm, w'⟩ := hNx H' nx
        have kept : ∀ b ∈ fa, ∀ o, sG.heap.get? b = some o → s'.heap.get? b = some o ∧ H' b = none := fun b hb o z =>
          let y := I'.pin (b, o) (List.mem_append_right _ (List.mem_append_right _ (mem_pinsAt hb z)))
          ⟨y.1, y.2.1⟩
        have hlen : (wipe τ (own.map (·.2))).length = τK.length := by rw [← wK, wipe_length]
        refine ⟨m', hm, i + 1, H', (I'.unpinned (pins := [])).weak hlen (fun j v z => ?_), T.keep _ _ _ tG fun b hb o z => (kept b hb o z).1, fun b hb => ?_, w'⟩
        · rw [← wK] at z
          exact (wipe_some z).1
        · obtain ⟨o, z, _⟩ := T.obj _ _ tG b hb
          exact (kept b hb o z).2
      cases b with
      | false =>
        rw [if_neg Bool.false_ne_true] at qM
        exact last IM qM
      | true =>
        rw [if_pos rfl] at qM
        refine thnF (Pe.run _ sM τK HM _ IM qM) fun z sN ⟨yv, HN, IN, rN, acc, hLN, hz, nx⟩ => ?_
        exact app_ok (X := X.blk sC HC sco cen fa) IN hLN hz rN fun sO IO => last IO nx
  exact codeAny_compStart_list run (T.self X.A 0 _ _ _ tD run)
end
end Own

namespace Own
open PySem PySem.Spec PyProof.Rows L2 Evl L2H
/-! ### defs that are called with the error in hand, in its except suite: what they keep speaks of the error's object -/
abbrev SpP := Addr × Obj → Sp
structure FnP (P : Program) (w : World) (K : PySem.W.Frag) (mg : Str → Option Value) (base : Heap) (k : Nat) (f : Addr) (fd : FuncData) (ps : List Str) (sp : SpP) : Prop where
  len : ∀ ob vs H Z EE, sp ob vs H Z EE → vs.length = ps.length
  run : ∀ (A : Around) (outer : List Env) (s : Shared) (H : Hp) (args : Args) (us : List Value) (vs : List V) (Z : VK) (EE : XK) (ob : Addr × Obj), RoomH k A → Hot1 A ob → PinOk outer H s ob → Env0 P w K mg base A outer s H → BindsTo s fd args (ps.zip us) → Vals vs us → sp ob vs H Z EE →
    codeAny (model P w) A (.call (.ref f) args) (CR CX0 outer P w H s Z EE) s
section
variable {P : Program} {w : World} {K : PySem.W.Frag} {mg : Str → Option Value} {base : Heap}
theorem fn_mkP {x q : Str} {f : Addr} {fd : FuncData} {st : Stmt} {N ps : List Str} {k : Nat} {sp : SpP} (F : Fun K x q st f fd) (S : FnScope N ps (defScope st))
    (len : ∀ ob vs H Z EE, sp ob vs H Z EE → vs.length = ps.length)
    (hbody : ∀ (cdv : Value) (A : Around) (outer : List Env) (s : Shared) (H : Hp) (vs : List V) (Z : VK) (EE : XK) (ob : Addr × Obj), Hot1 A ob → RoomH k (A.deeper (envOfC q (defScope st) s.heap.objs.size f cdv)) → sp ob vs H Z EE →
      ∃ t, PSs (cxH CX0 P w K mg base N q (defScope st) f cdv A outer s H EE ob) (defBody st) t ∧ t { nx := fun _ H' => Z .non H', rt := Z } (start N vs) H) : FnP P w K mg base (k + 1) f fd ps sp := by
  obtain ⟨oc, od, kV, doc, pm, an, cdv, ct, sl, rfl, lkp, hcd⟩ := F.ex
  refine ⟨len, fun A outer s H args us vs Z EE ob hr hot hpi e0 hbt r hsp => ?_⟩
  have hlen := len _ _ _ _ _ hsp
  have KI : K.In s.heap := e0.mod.kin.keeps fun b o e => (e0.bs b o e).1
  have nlm : s.heap.NoLimit := e0.mod.nolimit.keeps fun b o e => (e0.bs b o e).1
  have hkind : ∀ y ∈ ps.zip us, (defScope st).names.lookup y.1 = some .local ∨ ((defScope st).names.lookup y.1 = some .cell ∧ ((cellsFrom (s.heap.objs.size + 1) (defScope st).names []).lookup y.1).isSome = true) := fun ⟨n, v⟩ hyy => by
    rcases S.par n (List.of_mem_zip hyy).1 with qq | qq
    · exact .inl qq
    · exact .inr ⟨qq, PySem.W.cellsFrom_some _ _ _ (.inl qq)⟩
  refine codeAny_call_function hr.depth (KI _ _ lkp) rfl S.co S.gen rfl (PySem.W.codeRec_of KI hcd) (hbt _ _ _ _ ?_)
  refine wpAny_newFunctionEnv_cells S.kind hkind fun env hes st1 xx => ?_
  subst hes
  refine ⟨nlm.keeps xx.toInCall.keep, codeAny_func ?_⟩
  obtain ⟨t, ht, hsq⟩ := hbody cdv A outer s H vs Z EE ob hot (hr.deeper _) hsp
  have I : Inv (cxH CX0 P w K mg base N q (defScope st) f cdv A outer s H EE ob) [] (start N vs) H st1 := inv_startH S hpi e0 hlen r xx
  refine wpAny_mono (ht.run [] st1 (start N vs) H _ I hsq) (fun fl s' hst => ?_) fun e s' hst => hst
  have ready : ∀ {τ' : L2.St} {H' : Hp} {v : V} {u : Value}, Inv (cxH CX0 P w K mg base N q (defScope st) f cdv A outer s H EE ob) [] τ' H' s' → RelV v u → Z v H' → CE outer P w H s Z u s' :=
    fun {τ' H' v u} J rv qq => ⟨v, H', J.os, J.bare, J.base, J.hok, rv, qq⟩
  cases fl with
  | ret u =>
    obtain ⟨v, τ', H', J, rv, qq⟩ := hst
    exact ready J rv qq
  | next =>
    obtain ⟨τ', H', J, qq⟩ := hst
    exact ready (v := V.non) (u := Value.none) J rfl qq
  | brk =>
    obtain ⟨_, _, _, qq⟩ := hst
    exact False.elim qq
  | cont =>
    obtain ⟨_, _, _, qq⟩ := hst
    exact False.elim qq
end
structure CalP (P : Program) (w : World) (K : PySem.W.Frag) (mg : Str → Option Value) (base : Heap) (k : Nat) (x : Str) (sp : SpP) : Prop where
  ex : ∃ (f : Addr) (fd : FuncData) (ps : List Str), FnP P w K mg base k f fd ps sp ∧ mg x = some (.ref f) ∧ PySem.W.keepIn K (.ref f) = true ∧ Binds K fd ps []
def tCallP (sp : Sp) (t : TA) : TE := fun σ H Q => t σ H fun vs H1 => sp vs H1 Q (fun _ _ _ => False)
section
variable {X : Cx} {pk : List (Addr × Obj)} {τ : L2.St} {H : Hp} {s : Shared} {k j : Nat} {sp : SpP} {f : Addr} {fd : FuncData} {ps : List Str} {Z : VK} {us : List Value} {vs : List V} {x m : Str} {p pos : Pos} {e : Expr} {es : List Expr} {t : TA} {ob : Addr × Obj}
theorem run_fnP (F : FnP X.prog X.w X.K X.mg X.base k f fd ps sp) (hr : RoomH k X.A) (hot : Hot1 X.A ob) (hob : ob ∈ X.pn) (hbd : Binds X.K fd ps [])
    (I : Inv X pk τ H s) (r : Vals vs us) (h : sp ob vs H Z (fun _ _ _ => False)) : wpAny (model X.prog X.w) X.A (call (.ref f) us) (EP X pk τ Z) X.xe s := by
  have hlen : us.length = ps.length := by rw [← r.length]; exact F.len _ _ _ _ _ h
  obtain ⟨z1, z2, z3, z4, z5⟩ := I.pin ob (List.mem_append_left _ hob)
  have hpi : PinOk X.stack H s ob := ⟨z1, z2, fun hm => (List.mem_cons.mp (I.stkSub ob.1 hm)).elim z3 z4, z5⟩
  refine wpAny_call (codeAny_mono (F.run X.A X.stack s H ⟨us, []⟩ us vs Z _ ob hr hot hpi I.env0 (by have q := hbd s us I.kIn (by rw [List.append_nil]; exact hlen); rw [List.append_nil] at q; exact q) r h) fun r s' hsq => ?_)
  cases r with
  | error e => exact absurd hsq (by intro q; exact q.elim)
  | ok fl =>
    cases fl with
    | ret u => exact I.after hsq
    | next => exact False.elim hsq
    | brk => exact False.elim hsq
    | cont => exact False.elim hsq
theorem pe_cP (c : CalP X.prog X.w X.K X.mg X.base k x sp) (hr : RoomH k X.A) (hot : Hot1 X.A ob) (hob : ob ∈ X.pn) (hg : Gl X x) (ha : PA X (e :: es) t)
    (hdb : (x == ("__debug__" : Str)) = false := by decide) (hes : starEach (e :: es) X.env = (false, eval e X.env) :: starEach es X.env := by rfl) (hpl : (backTo pos (starEach es X.env)).any (·.1) = false := by rfl) :
    PE X (.Call (.Name x p) (e :: es) [] pos) (tCallP (sp ob) t) := by
  obtain ⟨f, fd, ps, F, hmg, kp, b⟩ := c.ex
  refine ⟨fun pk s τ H Z I h => ?_⟩
  refine wpAny_Call_Name_kw (ld_glob I hg hmg ?_ hdb)
  refine PySem.W.callWith_K (h₀ := X.base) I.ok.mod.kin kp (thn (ha.run pos pk s τ H _ I h) fun us st1 ⟨vs, H1, I1, r, q⟩ => ⟨I1.kIn, ?_⟩) hes hpl
  exact run_fnP F hr hot hob b I1 r q
end
/-! ### the error in hand -/
/-- what is known of the error's object -/
structure ErO (ob : Addr × Obj) (D : Addr) (d : Option Addr) : Prop where
  cls : ob.2.cls = .ref D
  dct : ob.2.dict = d
  dat : ∃ vs, ob.2.data = .fields vs
/-- its fields, where it has some -/
def ErD (H : Hp) (d : Option Addr) : Prop := d = none ∨ ∃ dd fs, d = some dd ∧ H dd = some (.xd fs)
theorem inst_of {X : Cx} {pk : List (Addr × Obj)} {τ : L2.St} {H : Hp} {s : Shared} {ob : Addr × Obj} {D : Addr} {d : Option Addr} (I : Inv X pk τ H s) (hob : ob ∈ X.pn) (O : ErO ob D d) (hd : ErD H d) : ∃ od, PySem.W.InstAt s.heap ob.1 ob.2 D od := by
  obtain ⟨hget, _⟩ := I.pin ob (List.mem_append_left _ hob)
  obtain ⟨h1, h2, vs, h3⟩ := O
  rcases hd with rfl | ⟨dd, fs, rfl, hx⟩
  · refine ⟨none, hget, h1, by unfold PySem.W.notCls; rw [h3] <;> rfl, by rw [h2]; trivial⟩
  · have hx : ObjOk X.prog X.w H s.heap dd (.xd fs) := I.hok dd _ hx
    obtain ⟨mA, hns, hr⟩ := hx
    obtain ⟨od, ho, hl⟩ := lookIn_ns hns
    exact ⟨some od, hget, h1, by unfold PySem.W.notCls; rw [h3] <;> rfl, by rw [h2]; exact ho⟩
theorem call_isP {X : Cx} {ob : Addr × Obj} {D : Addr} {d : Option Addr} (C : ExcC X.K D) (hob : ob ∈ X.pn) (O : ErO ob D d) : CallR X (.builtin "isinstance") (fun xs H Q => ErD H d ∧ rIsE X.K D ob.1 xs H Q) := by
  intro pk s τ H xs us Q I r h
  obtain ⟨hd, c, cv, b, rfl, hcv, e, q⟩ := h
  cases r with
  | cons rx rr =>
    cases rr with
    | cons rt rr =>
      cases rr
      cases rx
      have ec := hcv _ rt
      subst ec
      obtain ⟨od, J⟩ := inst_of I hob O hd
      have hc : (PySem.W.clsIn X.K D).isSome = true := by
        obtain ⟨cd, hc, _⟩ := PySem.W.any_some C.hd
        rw [hc]
        rfl
      have fin : ∀ tk, EP X pk τ Q (.bool b) { s with toks := tk } := fun tk => ⟨.bl b, H, I.kept (t' := tk) fun _ _ z => z, rfl, q⟩
      cases od with
      | none => exact PySem.W.kia_one (PySem.W.handS_kitx_exc C.hg C.hk C.hs C.hd C.ha C.hn C.ht C.hm) I.kIn J e (fun z => nomatch z) fin
      | some od => exact PySem.W.kia_one (PySem.W.kitx_exc hc C.hg C.hk C.hs C.ha C.hn C.ht C.hm) I.kIn J e (fun z => nomatch z) fin
theorem pe_xfP {X : Cx} {ob : Addr × Obj} {D : Addr} {d : Option Addr} {e : Expr} {te : TE} {pos : Pos} {n : Str} (C : ExcC X.K D) (hno : PySem.W.findIn X.K (.ref D) n = some none) (hob : ob ∈ X.pn) (O : ErO ob D d) (he : PE X e te)
    (hb : attributeBase e n X.env (eval e X.env) = eval e X.env := by rfl) : PE X (.Attribute e n pos) (tXf ob.1 (.ref D) d D n te) := by
  refine ⟨fun pk s τ H Q I h => ?_⟩
  refine attr_of hb (thn (he.run pk s τ H _ I h) fun u sA hh => ?_)
  obtain ⟨x, HA, IA, rx, ex, _, dd, fs, v, ed, ea, l, q⟩ := hh
  subst ex
  obtain rfl : u = Value.ref ob.1 := rx
  obtain ⟨hget, _⟩ := IA.pin ob (List.mem_append_left _ hob)
  obtain ⟨h1, h2, vs, h3⟩ := O
  have hx : ObjOk X.prog X.w HA sA.heap dd (.xd fs) := IA.hok dd _ ea
  obtain ⟨mA, hns, hr⟩ := hx
  obtain ⟨od, ho, hl⟩ := lookIn_ns hns
  obtain ⟨u, hu, ru⟩ := RelO.some_of (v := v) (o := mA n) (by rw [← l]; exact hr n)
  have J : PySem.W.InstAt sA.heap ob.1 ob.2 D (some od) := ⟨hget, h1, by unfold PySem.W.notCls; rw [h3] <;> rfl, by rw [h2, ed]; exact ho⟩
  exact HandSPX.exc_get IA.kIn J C.hg C.hk C.hs (PySem.W.findObj_own C.hd hno rfl (by rw [hl, hu])) (handed_of ru) ⟨v, HA, IA.tok _, ru, q⟩
/-! ### lists of the very same things are equal -/
def plV : V → Bool | .non => true | .bl _ => true | .int _ => true | .str _ => true | .ref _ => true | _ => false
def rEqS (K : PySem.W.Frag) : R2 := fun x y H Q => ∃ (a b : Addr) (xs : List V), x = .ref a ∧ y = .ref b ∧ SqL K H a xs ∧ SqL K H b xs ∧ xs.all plV = true ∧ Q (.bl true) H
theorem same_at {P : Program} {w : World} {s : Shared} {v : V} {u u' : Value} (h : plV v = true) (r : RelV v u) (r' : RelV v u') : PySem.W.EqTree P w s 0 u u' true := by
  cases v with
  | non => cases r; cases r'; exact .same
  | bl b => cases r; cases r'; exact .same
  | ref a => cases r; cases r'; exact .same
  | int i =>
    obtain ⟨t, rfl⟩ := r
    obtain ⟨t', rfl⟩ := r'
    refine .leaf fun A _ => ?_
    have z := PySem.SeqAt.EqAt.int_int (A := A) (s := s) i t i t'
    rw [beq_self_eq_true] at z
    exact z
  | str i =>
    obtain ⟨t, rfl⟩ := r
    obtain ⟨t', rfl⟩ := r'
    refine .leaf fun A _ => ?_
    have z := PySem.SeqAt.EqAt.str_str (A := A) (s := s) i t i t'
    rw [beq_self_eq_true] at z
    exact z
  | _ => cases h
theorem op_eqS {X : Cx} (hu : X.A.units + 64 < cLine) : OpR X (compareOp .Eq) (rEqS X.K) := by
  intro pk s τ H x y v u Q I rx ry h
  obtain ⟨a, b, xs, rfl, rfl, ha, hb, hpl, q⟩ := h
  cases rx
  cases ry
  obtain ⟨ua, ra, la, _⟩ := I.list ha
  obtain ⟨ub, rb, lb, _⟩ := I.list hb
  have hsz : ua.toArray.size = ub.toArray.size := by rw [List.size_toArray, List.size_toArray, ← ra.length, ← rb.length]
  refine PySem.W.eq_listsT (n := 0) (e := fun _ => true) la.isList lb.isList hsz (fun j h1 h2 => ?_) (by omega) ⟨.bl true, H, I, ?_, q⟩
  · have hj : j < xs.length := by rw [ra.length]; simpa using h1
    obtain ⟨u1, e1, r1⟩ := ra.get (x := xs[j]) (List.getElem?_eq_getElem hj)
    obtain ⟨u2, e2, r2⟩ := rb.get (x := xs[j]) (List.getElem?_eq_getElem hj)
    have p1 : ua.toArray[j] = u1 := by
      have z : ua[j]? = some (ua.toArray[j]) := by simp
      rw [z] at e1
      exact Option.some.inj e1
    have p2 : ub.toArray[j] = u2 := by
      have z : ub[j]? = some (ub.toArray[j]) := by simp
      rw [z] at e2
      exact Option.some.inj e2
    rw [p1, p2]
    exact same_at (List.all_eq_true.mp hpl _ (List.getElem_mem hj)) r1 r2
  · show Value.bool _ = Value.bool true
    congr 1
    exact List.all_eq_true.mpr fun _ _ => rfl
end Own

namespace Own
open PySem PySem.Spec PyProof.Rows L2 Evl L2H
/-! ### defs that may raise, the error's context being told to be None -/
structure FnN (P : Program) (w : World) (K : PySem.W.Frag) (mg : Str → Option Value) (base : Heap) (k : Nat) (f : Addr) (fd : FuncData) (ps : List Str) (sp : Sp) : Prop where
  len : ∀ vs H Z EE, sp vs H Z EE → vs.length = ps.length
  run : ∀ (A : Around) (outer : List Env) (s : Shared) (H : Hp) (args : Args) (us : List Value) (vs : List V) (Z : VK) (EE : XK), Room k A → A.guards = some [] → Env0 P w K mg base A outer s H → BindsTo s fd args (ps.zip us) → Vals vs us → sp vs H Z EE →
    codeAny (model P w) A (.call (.ref f) args) (CR (L2N.CX P w) outer P w H s Z EE) s
structure CalN (P : Program) (w : World) (K : PySem.W.Frag) (mg : Str → Option Value) (base : Heap) (k : Nat) (x : Str) (sp : Sp) : Prop where
  ex : ∃ (f : Addr) (fd : FuncData) (ps : List Str), FnN P w K mg base k f fd ps sp ∧ mg x = some (.ref f) ∧ PySem.W.keepIn K (.ref f) = true ∧ Binds K fd ps []
section
variable {P : Program} {w : World} {K : PySem.W.Frag} {mg : Str → Option Value} {base : Heap}
theorem fn_mkN {x q : Str} {f : Addr} {fd : FuncData} {st : Stmt} {N ps : List Str} {k : Nat} {sp : Sp} (F : Fun K x q st f fd) (S : FnScope N ps (defScope st))
    (len : ∀ vs H Z EE, sp vs H Z EE → vs.length = ps.length)
    (hbody : ∀ (cdv : Value) (A : Around) (outer : List Env) (s : Shared) (H : Hp) (vs : List V) (Z : VK) (EE : XK), Room k (A.deeper (envOfC q (defScope st) s.heap.objs.size f cdv)) → (A.deeper (envOfC q (defScope st) s.heap.objs.size f cdv)).guards = some [] → sp vs H Z EE →
      ∃ t, PSs (cxOf (L2N.CX P w) P w K mg base N q (defScope st) f cdv A outer s H EE) (defBody st) t ∧ t { nx := fun _ H' => Z .non H', rt := Z } (start N vs) H) : FnN P w K mg base (k + 1) f fd ps sp := by
  obtain ⟨oc, od, kV, doc, pm, an, cdv, ct, sl, rfl, lkp, hcd⟩ := F.ex
  refine ⟨len, fun A outer s H args us vs Z EE hr hg e0 hbt r hsp => ?_⟩
  have hlen := len _ _ _ _ hsp
  have KI : K.In s.heap := e0.mod.kin.keeps fun b o e => (e0.bs b o e).1
  have nlm : s.heap.NoLimit := e0.mod.nolimit.keeps fun b o e => (e0.bs b o e).1
  have hkind : ∀ y ∈ ps.zip us, (defScope st).names.lookup y.1 = some .local ∨ ((defScope st).names.lookup y.1 = some .cell ∧ ((cellsFrom (s.heap.objs.size + 1) (defScope st).names []).lookup y.1).isSome = true) := fun ⟨n, v⟩ hyy => by
    rcases S.par n (List.of_mem_zip hyy).1 with qq | qq
    · exact .inl qq
    · exact .inr ⟨qq, PySem.W.cellsFrom_some _ _ _ (.inl qq)⟩
  refine codeAny_call_function hr.depth (KI _ _ lkp) rfl S.co S.gen rfl (PySem.W.codeRec_of KI hcd) (hbt _ _ _ _ ?_)
  refine wpAny_newFunctionEnv_cells S.kind hkind fun env hes st1 xx => ?_
  subst hes
  refine ⟨nlm.keeps xx.toInCall.keep, codeAny_func ?_⟩
  obtain ⟨t, ht, hsq⟩ := hbody cdv A outer s H vs Z EE (hr.deeper _) hg hsp
  have I : Inv (cxOf (L2N.CX P w) P w K mg base N q (defScope st) f cdv A outer s H EE) [] (start N vs) H st1 := inv_start S hr.hd e0 hlen r xx
  refine wpAny_mono (ht.run [] st1 (start N vs) H _ I hsq) (fun fl s' hst => ?_) fun e s' hst => hst
  have ready : ∀ {τ' : L2.St} {H' : Hp} {v : V} {u : Value}, Inv (cxOf (L2N.CX P w) P w K mg base N q (defScope st) f cdv A outer s H EE) [] τ' H' s' → RelV v u → Z v H' → CE outer P w H s Z u s' :=
    fun {τ' H' v u} J rv qq => ⟨v, H', J.os, J.bare, J.base, J.hok, rv, qq⟩
  cases fl with
  | ret u =>
    obtain ⟨v, τ', H', J, rv, qq⟩ := hst
    exact ready J rv qq
  | next =>
    obtain ⟨τ', H', J, qq⟩ := hst
    exact ready (v := V.non) (u := Value.none) J rfl qq
  | brk =>
    obtain ⟨_, _, _, qq⟩ := hst
    exact False.elim qq
  | cont =>
    obtain ⟨_, _, _, qq⟩ := hst
    exact False.elim qq
theorem cal_mkN {x : Str} {st : Stmt} {N ps : List Str} {k : Nat} {sp : Sp} (D : Df K mg x st) (S : FnScope N ps (defScope st))
    (hbd : ∀ (kV doc pm : Value) (an : Option Addr) (cdv ct : Value) (us : List Value), us.length = ps.length → bindArgs (PySem.W.fnOf x x (defArgs st) (defBody st) (defScope st) .none kV doc pm an cdv ct) ⟨us, []⟩ = pure (ps.zip us))
    (len : ∀ vs H Z EE, sp vs H Z EE → vs.length = ps.length)
    (hbody : ∀ (f : Addr) (cdv : Value) (A : Around) (outer : List Env) (s : Shared) (H : Hp) (vs : List V) (Z : VK) (EE : XK), Room k (A.deeper (envOfC x (defScope st) s.heap.objs.size f cdv)) → (A.deeper (envOfC x (defScope st) s.heap.objs.size f cdv)).guards = some [] → sp vs H Z EE →
      ∃ t, PSs (cxOf (L2N.CX P w) P w K mg base N x (defScope st) f cdv A outer s H EE) (defBody st) t ∧ t { nx := fun _ H' => Z .non H', rt := Z } (start N vs) H) : CalN P w K mg base (k + 1) x sp := by
  obtain ⟨f, fd, hmg, F⟩ := D.ex
  exact ⟨f, fd, ps, fn_mkN F S len (hbody f), hmg, F.kp, F.binds hbd⟩
theorem cal_mkP {x : Str} {st : Stmt} {N ps : List Str} {k : Nat} {sp : SpP} (D : Df K mg x st) (S : FnScope N ps (defScope st))
    (hbd : ∀ (kV doc pm : Value) (an : Option Addr) (cdv ct : Value) (us : List Value), us.length = ps.length → bindArgs (PySem.W.fnOf x x (defArgs st) (defBody st) (defScope st) .none kV doc pm an cdv ct) ⟨us, []⟩ = pure (ps.zip us))
    (len : ∀ ob vs H Z EE, sp ob vs H Z EE → vs.length = ps.length)
    (hbody : ∀ (f : Addr) (cdv : Value) (A : Around) (outer : List Env) (s : Shared) (H : Hp) (vs : List V) (Z : VK) (EE : XK) (ob : Addr × Obj), Hot1 A ob → RoomH k (A.deeper (envOfC x (defScope st) s.heap.objs.size f cdv)) → sp ob vs H Z EE →
      ∃ t, PSs (cxH CX0 P w K mg base N x (defScope st) f cdv A outer s H EE ob) (defBody st) t ∧ t { nx := fun _ H' => Z .non H', rt := Z } (start N vs) H) : CalP P w K mg base (k + 1) x sp := by
  obtain ⟨f, fd, hmg, F⟩ := D.ex
  exact ⟨f, fd, ps, fn_mkP F S len (hbody f), hmg, F.kp, F.binds hbd⟩
end
section
variable {X : Cx} {pk : List (Addr × Obj)} {τ : L2.St} {H : Hp} {s : Shared} {k j : Nat} {sp : Sp} {f C : Addr} {fd : FuncData} {ps : List Str} {Z : VK} {us : List Value} {vs : List V} {x m : Str} {p pos apos : Pos} {e o : Expr} {es : List Expr} {t : TA} {ta : TE} {E : L2.St → XK}
theorem run_fnN (F : FnN X.prog X.w X.K X.mg X.base k f fd ps sp) (hr : Room k X.A) (hg : X.A.guards = some []) (hbd : Binds X.K fd ps []) (hx : PassesAt (L2N.CX X.prog X.w) X τ (E τ))
    (I : Inv X pk τ H s) (r : Vals vs us) (h : sp vs H Z (E τ)) : wpAny (model X.prog X.w) X.A (call (.ref f) us) (EP X pk τ Z) X.xe s := by
  have hlen : us.length = ps.length := by rw [← r.length]; exact F.len _ _ _ _ h
  refine wpAny_call (codeAny_mono (F.run X.A X.stack s H ⟨us, []⟩ us vs Z (E τ) hr hg I.env0 (by have q := hbd s us I.kIn (by rw [List.append_nil]; exact hlen); rw [List.append_nil] at q; exact q) r h) fun r s' hsq => ?_)
  cases r with
  | error e => exact hx pk H s e s' I hsq
  | ok fl =>
    cases fl with
    | ret u => exact I.after hsq
    | next => exact False.elim hsq
    | brk => exact False.elim hsq
    | cont => exact False.elim hsq
theorem pe_cN (c : CalN X.prog X.w X.K X.mg X.base k x sp) (hr : Room j X.A) (hg0 : X.A.guards = some []) (hkp : k ≤ j) (hx : ∀ σ, PassesAt (L2N.CX X.prog X.w) X σ (E σ)) (hg : Gl X x) (ha : PA X (e :: es) t)
    (hdb : (x == ("__debug__" : Str)) = false := by decide) (hes : starEach (e :: es) X.env = (false, eval e X.env) :: starEach es X.env := by rfl) (hpl : (backTo pos (starEach es X.env)).any (·.1) = false := by rfl) :
    PE X (.Call (.Name x p) (e :: es) [] pos) (tCallS sp E t) := by
  obtain ⟨f, fd, ps, F, hmg, kp, b⟩ := c.ex
  refine ⟨fun pk s τ H Z I h => ?_⟩
  refine wpAny_Call_Name_kw (ld_glob I hg hmg ?_ hdb)
  refine PySem.W.callWith_K (h₀ := X.base) I.ok.mod.kin kp (thn (ha.run pos pk s τ H _ I h) fun us st1 ⟨vs, H1, I1, r, q⟩ => ⟨I1.kIn, ?_⟩) hes hpl
  exact run_fnN F (hr.mono hkp) hg0 b (hx τ) I1 r q
end
/-! ### errors made -/
section
variable {X : Cx} {x : Str} {C : Addr} {p pos : Pos}
theorem pmk_oexN {CX : CXT} {e : Expr} {es : List Expr} {ta : TA} {fi : Addr} {k : Nat} {fd : FuncData} {ps : List Str} {sp : Sp} (T : OexC X.K C) (iC : PySem.W.findIn X.K (.ref C) "__init__" = some (some (.ref fi))) (tI : PySem.W.typeIn X.K (.ref fi) = some (.type "function"))
    (F1 : FnOk X.prog X.w X.K X.mg X.base CX k fi fd ps sp) (hr : Room (k + 1) X.A) (hb : Binds X.K fd ps []) (hx : Passes CX X (fun _ _ _ => False)) (hg : Gl X x) (hm : X.mg x = some (.ref C)) (ha : PA X (e :: es) ta)
    (hdb : (x == ("__debug__" : Str)) = false := by decide) (hes : starEach (e :: es) X.env = (false, eval e X.env) :: starEach es X.env := by rfl) (hpl : (backTo pos (starEach es X.env)).any (·.1) = false := by rfl) :
    L2N.PMk X (.Call (.Name x p) (e :: es) [] pos) (tMkO C sp [] ta) := by
  intro pk s τ H Q I h
  obtain ⟨_, _, _, _, tl, _, _, _, _, _, _, _, _, _, _, lC, hbm⟩ := T.cls
  refine wpAny_Call_Name_kw (ld_glob I hg hm ?_ hdb)
  refine PySem.W.callWith_K (h₀ := X.base) I.ok.mod.kin T.kC (thn (ha.run pos pk s τ H _ I h) fun us sA ⟨vs, HA, IA, rA, hz, qA⟩ => ⟨IA.kIn, ?_⟩) hes hpl
  show wpAny _ _ (call (.ref C) us) _ _ _
  obtain ⟨hA, gA, dA, tA, oA⟩ := sA
  generalize hn0 : hA.objs.size = n0
  have hle : hA.objs.size ≤ n0 + 1 := by rw [hn0]; exact Nat.le_succ _
  have hfr : HA (n0 + 1) = none := IA.hok.fresh hle
  have qB := qA (n0 + 1) hfr
  rw [List.append_nil] at qB
  generalize hhB : (hA.push (PySem.W.kdv_tup us)).push (PySem.HandSPX.excO C n0) = hB
  have kB : ∀ b o, hA.get? b = some o → hB.get? b = some o := fun b o z => by rw [← hhB]; exact Heap.get?_push_of_some _ (Heap.get?_push_of_some _ z)
  have gB : hB.get? (n0 + 1) = some (PySem.HandSPX.excO C n0) := by
    rw [← hhB, ← hn0]
    heap_get
  have IB : Inv X pk τ (upd HA (n0 + 1) (exo (n0 + 1) C none)) ⟨hB, gA, dA, tA, oA⟩ := IA.laid (t' := tA) (a := n0 + 1) (o := exo (n0 + 1) C none) (h' := hB) kB hle (exo_ok gB)
  have rB : Vals (V.ref (n0 + 1) :: vs) (Value.ref (n0 + 1) :: us) := .cons rfl rA
  have hlen : (Value.ref (n0 + 1) :: us ++ []).length = ps.length := by
    have z := rB.length
    rw [F1.len _ _ _ _ qB] at z
    rw [List.append_nil]
    exact z.symm
  have hus : us.length ≤ sizeLine := by
    rw [← Paired.length rA, sizeLine_eq]
    omega
  have bB := hb _ (Value.ref (n0 + 1) :: us) IB.kIn hlen
  rw [List.append_nil] at bB
  have run := F1.run (X.A.under (.builtin "type.__call__" ⟨.ref C :: us, []⟩)) X.stack _ _ ⟨Value.ref (n0 + 1) :: us, []⟩ (Value.ref (n0 + 1) :: us) _ _ (fun _ _ _ => False) (hr.make C us []) (IB.env0.make C us []) bB rB qB
  subst hn0 hhB
  refine wpAny_call (PySem.HandSPX.call_own F.excBase_ValueError (fun Y => PySem.HandSPX.refsVE_contains Y tl hbm) (IA.kIn _ _ lC) (PySem.W.looks_findIn IA.kIn iC) (fun self => PySem.W.bind_fn IA.kIn self tI) hus (codeAny_mono run fun r s' hst => ?_))
  cases r with
  | error er => exact hx pk τ _ _ er s' IB hst
  | ok fl =>
    cases fl with
    | ret u =>
      obtain ⟨v, HC, oC, bC, uC, hokC, rv, ev, d, fs, ea, ed, hdn, qC⟩ := hst
      subst ev
      obtain ⟨hC, gC, dC, tC, oC'⟩ := s'
      obtain ⟨t0, G, J, kG, ge, hoe, na⟩ := mk_end0 (d2 := dC) (t2 := tC) IA hle kB uC hokC oC bC ea ed hdn
      exact ⟨rv, ⟨hA.objs.size + 1, _, _, ⟨G, gC, dC, tC, oC'⟩, _, .ref C, some d, rfl, J, kG, ge, hoe, ⟨rfl, rfl, fun vs hv => by cases hv; rfl⟩, rfl, rfl, na, rfl, bC, raises_own T.exC T.tyC, qC⟩⟩
    | next => exact False.elim hst
    | brk => exact False.elim hst
    | cont => exact False.elim hst
theorem pmk_own0N {bmB : List Value} {B newId initId : String} (F : ExcBaseFacts B newId initId bmB) (q : PySem.W.excIn X.K C bmB newId = true) (gC : X.mg x = some (.ref C)) (kC : PySem.W.keepIn X.K (.ref C) = true) (r : Raises X (.ref C)) (hg : Gl X x)
    (hdb : (x == ("__debug__" : Str)) = false := by decide) : L2N.PMk X (.Call (.Name x p) [] [] pos) (fun _ H Q => Q (.ref C) none H) := by
  intro pk s τ H Q I h
  refine wpAny_Call_Name_kw (ld_glob I hg gC ?_ hdb)
  refine PySem.W.callWith_K0 I.kIn kC ?_
  obtain ⟨bm, N, nm, qn, bs, hdct, sn, sub, ab, col, dd, k0, k1, k2, k3, k5, mN, hC, hN, hni, T⟩ := exc_obj I.kIn q
  refine wpAny_call_exc_subT F T hC hN hni (fun h' e hm => ?_) (Nat.zero_le _)
  exact L2N.mk_of I hm r h (I.hok.gone hm.new)
end
end Own

namespace Own
open PySem PySem.Spec PyProof.Rows L2 Evl
def top (i : Nat) : Stmt := PySem.Challenge.pw_scriptpicks_k10_errors_kept.main.body.getD i (.Pass ⟨0, 0, 0, 0⟩)
/-- all but b stands -/
def ExB (b : Addr) (H H' : Hp) : Prop := ∀ a o, a ≠ b → H a = some o → H' a = some o
theorem ExB.refl (b : Addr) (H : Hp) : ExB b H H := fun _ _ _ h => h
theorem ExB.set {b : Addr} {H H' : Hp} {o : HO} (e : ExB b H H') : ExB b H (upd H' b o) := fun a u n h => by
  rw [upd_ne n]
  exact e a u n h
theorem ExB.new {b p : Addr} {H H' : Hp} {o : HO} (e : ExB b H H') (hp : H' p = none) : ExB b H (upd H' p o) := fun a u n h => by
  have q := e a u n h
  rw [upd_ne (ne_of_none q hp)]
  exact q
theorem ints_ne4 {ns : List Int} {i j k : Int} {c : Addr} (z : HO.lst (ns.map V.int) = .lst [.int i, .int j, .int k, .ref c]) : False := by
  have z2 : ns.map V.int = [.int i, .int j, .int k, .ref c] := by injection z
  match ns, z2 with
  | [], z2 => cases z2
  | [_], z2 => cases z2
  | [_, _], z2 => cases z2
  | [_, _, _], z2 => cases z2
  | _ :: _ :: _ :: _ :: _, z2 =>
    simp only [List.map_cons] at z2
    injection z2 with _ z2
    injection z2 with _ z2
    injection z2 with _ z2
    injection z2 with z2 _
    cases z2
theorem first_int (ns : List Int) (lo hi : Option Int) : ∃ z, atI (cutV (ns.map V.int) lo hi ++ [V.int 0]) 0 = some (V.int z) := by
  unfold cutV
  rw [← List.map_drop, ← List.map_take]
  generalize (List.take _ (List.drop _ ns)) = l
  cases l with
  | nil => exact ⟨0, rfl⟩
  | cons a r => exact ⟨a, atI_nat (j := 0) rfl⟩
theorem genB {H H3 H4 : Hp} {b : Addr} {o : HO} (hq : upd H3 b o = H4) (e : ExB b H H3) : ExB b H H4 ∧ H4 b = some o := by
  subst hq
  exact ⟨e.set, upd_same⟩
structure Txt0 (mg : Str → Option Value) : Prop where
  abs : mg "abs" = none
  int : mg "int" = none
  len : mg "len" = none
  tuple : mg "tuple" = none
  list : mg "list" = none
  all : mg "all" = none
  any : mg "any" = none
  zip : mg "zip" = none
  range : mg "range" = none
  repr : mg "repr" = none
  dict : mg "dict" = none
abbrev s_l_bag : Stmt := top 22
theorem sc_l_bag : FnScope ["_law_script", "_law_cell"] ["_law_script"] (defScope s_l_bag) := ⟨rfl, rfl, rfl, by decide +kernel, rfl, by decide +kernel, by decide +kernel⟩
abbrev s_l_take : Stmt := top 23
theorem sc_l_take : FnScope ["_law_bag_here", "_law_many", "_law_cell", "_law_mixed", "_law_value", "_law_begin", "_law_second"] ["_law_bag_here", "_law_many"] (defScope s_l_take) := ⟨rfl, rfl, rfl, by decide +kernel, rfl, by decide +kernel, by decide +kernel⟩
abbrev s_l_some : Stmt := top 24
theorem sc_l_some : FnScope ["_law_bag_here", "_law_things"] ["_law_bag_here", "_law_things"] (defScope s_l_some) := ⟨rfl, rfl, rfl, by decide +kernel, rfl, by decide +kernel, by decide +kernel⟩
section
variable {P : Program} {w : World} {K : PySem.W.Frag} {mg : Str → Option Value} {base : Heap}
/-- the bag as a list -/
def spTakeL : Sp := fun vs H Q _ => ∃ (b c : Addr) (m i j k : Int) (ns : List Int), vs = [.ref b, .int m] ∧ H b = some (.lst [.int i, .int j, .int k, .ref c]) ∧ H c = some (.lst (ns.map V.int)) ∧ ns.length ≤ 63 ∧ 0 < m ∧ m < 1000000000 ∧
  ∀ (H' : Hp) (r i' j' k' : Int), 0 ≤ r → r < m → ExB b H H' → H' b = some (.lst [.int i', .int j', .int k', .ref c]) → Q (.int r) H'
theorem ok_takeL (T : Txt0 mg) (D : Df K mg "_law_take" s_l_take) : CalG P w K mg base 1 "_law_take" spTakeL := by
  refine cal_mk D sc_l_take (fun _ _ _ _ _ _ us hl => match us, hl with | [_, _], _ => rfl) (fun vs H Q E h => ?_) (fun f cdv A outer s H vs Q E hr hG h => ?_)
  · obtain ⟨b, c, m, i, j, k, ns, rfl, _⟩ := h
    rfl
  · obtain ⟨b, c, m, i, j, k, ns, rfl, hb, hc, h63, hm, hm9, q⟩ := h
    have nbc : c ≠ b := ne_of hc hb (fun z => ints_ne4 z)
    refine ⟨_, (Evl.pss_cut (ps_if (pt_cmpR (opEq hr) (pe_ix ixAny (pv 0) pe_int (fun _ _ => rfl)) pe_int (nomark _)) (pss_cons (ps_set (i := 2) sc_l_take.nd rfl (Or.inl rfl) (pe_ix ixAny (pe_op opAdd (pe_slice slAny (pe_ix ixAny (pv 0) pe_int (fun _ _ => rfl)) (po_some (pe_ix ixAny (pv 0) pe_int (fun _ _ => rfl))) po_none) (pe_lst (pa_cons pe_int pa_nil))) pe_int (fun _ _ => rfl)))
      (pss_cons (ps_augS (pv 0) pe_int pgetL pe_int ip_add set_list)
      (Evl.pss_cut (ps_if (pt_cmpR opGe (pv 2) pe_int (nomark _)) (pss_one (ps_asg (pv 2) (pg_sub (pv 0) pe_int set_list))) pss_nil)
      (pss_cons (ps_set (i := 3) sc_l_take.nd rfl (Or.inl rfl) (pe_op opAdd (pe_op opAdd (pe_op opMul (pe_ix ixAny (pv 0) pe_int (fun _ _ => rfl)) pe_int) (pe_op op_mod (pe_callTy call_int1 (by rfl) T.int (by decide +kernel) (pa_cons (pv 2) pa_nil)) pe_int)) (pe_op opMul pe_int (pe_ix ixAny (pv 0) pe_int (fun _ _ => rfl)))))
      (pss_one (ps_asg (pe_op op_mod (pe_callTy call_int1 (by rfl) T.int (by decide +kernel) (pa_cons (pv 3) pa_nil)) pe_int) (pg_sub (pv 0) pe_int set_list))))))) pss_nil)
      (pss_cons (ps_if (pt_cmpR opGt (pe_ix ixAny (pv 0) pe_int (fun _ _ => rfl)) pe_int (nomark _)) (pss_cons (ps_set (i := 4) sc_l_take.nd rfl (Or.inl rfl) (pe_op op_mod (pe_callTy call_int1 (by rfl) T.int (by decide +kernel) (pa_cons (pe_ix ixAny (pv 0) pe_int (fun _ _ => rfl)) pa_nil)) (pv 1)))
      (pss_cons (ps_asg (pe_op op_fdivW (pe_ix ixAny (pv 0) pe_int (fun _ _ => rfl)) (pv 1)) (pg_sub (pv 0) pe_int set_list))
      (pss_one (ps_ret (pv 4))))) pss_nil)
      (pss_cons (ps_set (i := 5) sc_l_take.nd rfl (Or.inl rfl) (pe_op op_mod (pe_callTy call_int1 (by rfl) T.int (by decide +kernel) (pa_cons (pe_op opMul (pe_op opAdd (pe_ix ixAny (pv 0) pe_int (fun _ _ => rfl)) pe_int) pe_int) pa_nil)) pe_int))
      (pss_cons (ps_set (i := 6) sc_l_take.nd rfl (Or.inl rfl) (pe_op op_mod (pe_callTy call_int1 (by rfl) T.int (by decide +kernel) (pa_cons (pe_op opMul (pe_op op_mod (pe_callTy call_int1 (by rfl) T.int (by decide +kernel) (pa_cons (pe_op opMul (pv 5) (pv 5)) pa_nil)) pe_int) pe_int) pa_nil)) pe_int))
      (pss_one (ps_ret (pe_op op_mod (pe_callTy call_int1 (by rfl) T.int (by decide +kernel) (pa_cons (pe_op op_fdivW (pv 6) pe_int) pa_nil)) (pv 1)))))))), ?_⟩
    refine ⟨fun σ' H' => ∃ (i j k : Int) (x2 x3 : Option V), σ' = [some (.ref b), some (.int m), x2, x3, none, none, none] ∧ ExB b H H' ∧ H' b = some (.lst [.int i, .int j, .int k, .ref c]), ?_, ?_⟩
    · refine ⟨_, rfl, .inl ⟨b, _, 0, _, rfl, rfl, sq_of hb, rfl, .inl ⟨rfl, _, rfl, ?_⟩⟩⟩
      refine ite2 (fun _ => ?_) (fun _ => ⟨i, j, k, none, none, rfl, ExB.refl b H, hb⟩)
      -- cell = (bag[3][bag[2]:] + [0])[0]
      refine ⟨_, rfl, .inl ⟨b, _, 3, _, rfl, rfl, sq_of hb, rfl, ⟨_, rfl, .inl ⟨b, _, 2, _, rfl, rfl, sq_of hb, rfl, k, rfl, .inl ⟨c, _, rfl, sq_of hc, fun p hp => ?_⟩⟩⟩⟩⟩
      refine ⟨by show 1 ≤ sizeLine; decide, fun p2 hp2 => .inr (.inr (.inl ⟨p, p2, _, _, rfl, rfl, up_old hp2 upd_same, upd_same, ?_, fun p3 hp3 => ?_⟩))⟩
      · refine sz_of ?_
        have q1 := cutV_length (ns.map V.int) (some k) none
        rw [List.length_map] at q1
        show _ + 1 ≤ 100000
        omega
      obtain ⟨z, hz⟩ := first_int ns (some k) none
      refine .inl ⟨p3, _, 0, _, rfl, rfl, sq_of upd_same, hz, ?_⟩
      have e3 := (((ExB.refl b H).new (o := .lst (cutV (ns.map V.int) (some k) none)) hp).new (o := .lst [V.int 0]) hp2).new (o := .lst (cutV (ns.map V.int) (some k) none ++ [V.int 0])) hp3
      have hb3 := up_old (o := .lst (cutV (ns.map V.int) (some k) none ++ [V.int 0])) hp3 (up_old (o := .lst [V.int 0]) hp2 (up_old (o := .lst (cutV (ns.map V.int) (some k) none)) hp hb))
      generalize upd (upd (upd H p _) p2 _) p3 _ = H3 at e3 hb3 ⊢
      -- bag[2] += 1
      refine ⟨_, rfl, b, _, 2, _, rfl, rfl, sq_of hb3, rfl, k, 1, rfl, rfl, b, _, 2, 2, rfl, rfl, hb3, rfl, ?_⟩
      generalize hq4 : upd H3 b _ = H4
      obtain ⟨e4, hb4⟩ := genB hq4 e3
      -- if cell >= ..: bag[0] = cell
      refine ⟨fun σ' H' => ∃ (i : Int), σ' = [some (.ref b), some (.int m), some (.int z), none, none, none, none] ∧ ExB b H H' ∧ H' b = some (.lst [.int i, .int j, .int (k + 1), .ref c]), ?_, ?_⟩
      · refine ⟨_, rfl, z, _, rfl, rfl, _, rfl, ?_⟩
        refine ite2 (fun _ => ?_) (fun _ => ⟨i, rfl, e4, hb4⟩)
        exact ⟨_, rfl, _, rfl, b, _, 0, 0, rfl, rfl, hb4, rfl, z, rfl, e4.set, upd_same⟩
      · rintro σ5 H5 ⟨i5, rfl, e5, hb5⟩
        -- mixed
        refine ⟨_, rfl, .inl ⟨b, _, 1, _, rfl, rfl, sq_of hb5, rfl, .inl ⟨j, 48271, rfl, rfl, .inr (by decide), ?_⟩⟩⟩
        refine ⟨_, rfl, .inl ⟨z, rfl, ?_⟩⟩
        refine ⟨_, _, rfl, rfl, (show (0 : Int) < 2147483647 by decide), .inl ⟨_, _, rfl, rfl, ?_⟩⟩
        refine ⟨_, rfl, .inl ⟨b, _, 2, _, rfl, rfl, sq_of hb5, rfl, .inl ⟨7919, _, rfl, rfl, .inl (by decide), .inl ⟨_, _, rfl, rfl, ?_⟩⟩⟩⟩
        refine ⟨_, rfl, .inl ⟨_, rfl, ?_⟩⟩
        refine ⟨_, _, rfl, rfl, (show (0 : Int) < 2147483647 by decide), _, rfl, b, _, 1, 1, rfl, rfl, hb5, rfl, ?_⟩
        exact ⟨i5, _, k + 1, _, _, rfl, e5.set, upd_same⟩
    · rintro σ' H' ⟨i, j, k, x2, x3, rfl, e, hb⟩
      refine ⟨_, rfl, .inl ⟨b, _, 0, _, rfl, rfl, sq_of hb, rfl, i, 0, rfl, rfl, _, rfl, ?_⟩⟩
      refine ite2 (fun _ => ?_) (fun _ => ?_)
      · refine ⟨_, rfl, .inl ⟨b, _, 0, _, rfl, rfl, sq_of hb, rfl, .inl ⟨_, rfl, ?_⟩⟩⟩
        refine ⟨_, rfl, _, _, rfl, rfl, hm, ?_⟩
        refine ⟨_, rfl, .inl ⟨b, _, 0, _, rfl, rfl, sq_of hb, rfl, ?_⟩⟩
        refine ⟨_, rfl, _, _, rfl, rfl, wide_div hm (b := 30) (by omega) (by decide) (by decide), ?_⟩
        refine ⟨_, rfl, b, _, 0, 0, rfl, rfl, hb, rfl, ?_⟩
        exact ⟨_, rfl, q _ _ _ _ _ (Int.emod_nonneg _ (by omega)) (Int.emod_lt_of_pos _ hm) e.set upd_same⟩
      · refine ⟨_, rfl, .inl ⟨b, _, 1, _, rfl, rfl, sq_of hb, rfl, .inl ⟨j, 1, rfl, rfl, .inl ⟨_, 39373, rfl, rfl, .inr (by decide), .inl ⟨_, rfl, ?_⟩⟩⟩⟩⟩
        refine ⟨_, _, rfl, rfl, (show (0 : Int) < 1000000007 by decide), ?_⟩
        have h0 : 0 ≤ (j + 1) * 39373 % 1000000007 := Int.emod_nonneg _ (by decide)
        have h1 : (j + 1) * 39373 % 1000000007 < 1000000007 := Int.emod_lt_of_pos _ (by decide)
        refine ⟨_, rfl, _, rfl, .inl ⟨_, _, rfl, rfl, .inl ⟨Int.lt_of_lt_of_le (by decide) h0, Int.lt_trans h1 (by decide)⟩, .inl ⟨_, rfl, ?_⟩⟩⟩
        refine ⟨_, _, rfl, rfl, (show (0 : Int) < 998244353 by decide), .inl ⟨_, 30011, rfl, rfl, .inr (by decide), .inl ⟨_, rfl, ?_⟩⟩⟩
        refine ⟨_, _, rfl, rfl, (show (0 : Int) < 998244353 by decide), ?_⟩
        refine ⟨_, rfl, _, _, rfl, rfl, wide_div (b := 30) (by decide) (by decide) (by decide) (by decide), .inl ⟨_, rfl, ?_⟩⟩
        exact ⟨_, rfl, _, _, rfl, rfl, hm, q _ _ _ _ _ (Int.emod_nonneg _ (by omega)) (Int.emod_lt_of_pos _ hm) e hb⟩
end
/-- the bag, its numbers left open -/
def bagF (b c : Addr) (h : Heap) : Prop := ∃ (i j k : Int) (t u v : Tok) (n : Nat), h.get? b = some { cls := .type "list", data := .seq #[.int i t, .int j u, .int k v, .ref c] n }
def bagO (b c : Addr) : HO := .ext (bagF b c)
def BagAt (H : Hp) (b : Addr) : Prop := ∃ (c : Addr) (ns : List Int), H b = some (bagO b c) ∧ H c = some (.lst (ns.map V.int)) ∧ ns.length ≤ 63
theorem BagAt.ex {H H' : Hp} {b : Addr} (e : Ex H H') (h : BagAt H b) : BagAt H' b := by
  obtain ⟨c, ns, h1, h2, h3⟩ := h
  exact ⟨c, ns, e _ _ h1, e _ _ h2, h3⟩
theorem objOk_swap {P : Program} {w : World} {H H' : Hp} {h : Heap} (ht : ∀ a xs, H a = some (.tup xs) → H' a = some (.tup xs)) (ho : ∀ a x, H a = some (.own x) → H' a = some (.own x)) : ∀ (o : HO) (a : Addr), ObjOk P w H h a o → ObjOk P w H' h a o
  | .lst _, _, q => q
  | .tup _, _, q => q
  | .dK _, _, q => q
  | .dT kvs, a, q => by
    obtain ⟨q1, q2, xs, q3, q4⟩ := q
    exact ⟨q1, q2, xs, Paired.mapP q3 fun x y z => ⟨z.1, ht _ _ z.2.1, z.2.2⟩, q4⟩
  | .set _ _, _, q => q
  | .ins _ _ _, a, q => by
    obtain ⟨q1, q2⟩ := q
    exact ⟨ho _ _ q1, q2⟩
  | .own _, _, q => q
  | .xd _, _, q => q
  | .met _ _, _, q => q
  | .rng _ _, _, q => q
  | .frz o u, a, q => ⟨q.1, objOk_swap ht ho u a q.2⟩
  | .tbl _, _, q => q
  | .ext _, _, q => q
theorem hOk_set {P : Program} {w : World} {H : Hp} {h : Heap} {b : Addr} {o1 o2 : HO} (hk : HOk P w H h) (h1 : H b = some o1) (nt : ∀ xs, o1 ≠ .tup xs) (no : ∀ x, o1 ≠ .own x) (h2 : ObjOk P w (upd H b o2) h b o2) : HOk P w (upd H b o2) h := fun a o e => by
  by_cases ea : a = b
  · subst ea
    rw [upd_same] at e
    cases e
    exact h2
  · rw [upd_ne ea] at e
    refine objOk_swap (fun a' xs q => ?_) (fun a' x q => ?_) o a (hk a o e)
    · have n : a' ≠ b := fun z => by
        rw [z, h1] at q
        exact nt _ (Option.some.inj q)
      rw [upd_ne n]
      exact q
    · have n : a' ≠ b := fun z => by
        rw [z, h1] at q
        exact no _ (Option.some.inj q)
      rw [upd_ne n]
      exact q
def spTake : Sp := fun vs H Q _ => ∃ (b : Addr) (m : Int), vs = [.ref b, .int m] ∧ BagAt H b ∧ 0 < m ∧ m < 1000000000 ∧ ∀ (H' : Hp) (r : Int), 0 ≤ r → r < m → Ex H H' → Q (.int r) H'
section
variable {P : Program} {w : World} {K : PySem.W.Frag} {mg : Str → Option Value} {base : Heap}
theorem bag_shut {P : Program} {w : World} {H : Hp} {h : Heap} {b c : Addr} {i j k : Int} (q : ObjOk P w H h b (.lst [.int i, .int j, .int k, .ref c])) : bagF b c h := by
  obtain ⟨_, its, n, rv, ho⟩ := q
  cases rv with
  | cons r1 rv => cases rv with
    | cons r2 rv => cases rv with
      | cons r3 rv => cases rv with
        | cons r4 rv =>
          cases rv
          obtain ⟨t, rfl⟩ := r1
          obtain ⟨u, rfl⟩ := r2
          obtain ⟨v, rfl⟩ := r3
          cases r4
          exact ⟨i, j, k, t, u, v, n, ho⟩
theorem take_ext (C : CalG P w K mg base 1 "_law_take" spTakeL) : CalG P w K mg base 1 "_law_take" spTake := by
  obtain ⟨f, fd, ps, F, a, kp, bd⟩ := C.ex
  have hps : ps.length = 2 := (F.len [.ref 0, .int 1] (fun x => if x = 0 then some (.lst [.int 0, .int 0, .int 0, .ref 1]) else if x = 1 then some (.lst ([].map V.int)) else none) (fun _ _ => True) (fun _ _ _ => True) ⟨0, 1, 1, 0, 0, 0, [], rfl, rfl, rfl, by decide, by decide, by decide, fun _ _ _ _ _ _ _ _ _ => trivial⟩).symm
  refine ⟨f, fd, ps, ⟨fun vs H Q E h => ?_, fun A outer s H args us vs Q E hr hg e0 hb rv h => ?_⟩, a, kp, bd⟩
  · obtain ⟨b, m, rfl, _⟩ := h
    exact hps.symm
  · obtain ⟨b, m, rfl, ⟨c, ns, h1, h2, h3⟩, hm, hm9, q⟩ := h
    obtain ⟨⟨i, j, k, t, u, v, n, ho⟩, _, _⟩ := e0.hok b _ h1
    have nbc : c ≠ b := ne_of h2 h1 (by intro z; cases z)
    have hok : HOk P w (upd H b (.lst [.int i, .int j, .int k, .ref c])) s.heap := hOk_set e0.hok h1 (fun _ z => by cases z) (fun _ z => by cases z)
      ⟨by show 4 ≤ sizeLine; decide, [.int i t, .int j u, .int k v, .ref c], n, .cons ⟨t, rfl⟩ (.cons ⟨u, rfl⟩ (.cons ⟨v, rfl⟩ (.cons rfl .nil))), ho⟩
    have nb : ∀ x, H x = none → (upd H b (.lst [.int i, .int j, .int k, .ref c])) x = none := fun x e => by
      rw [upd_ne (fun z => by rw [z, h1] at e; cases e)]
      exact e
    have e1 : Env0 P w K mg base A outer s (upd H b (.lst [.int i, .int j, .int k, .ref c])) :=
      ⟨e0.frames, e0.mod, fun x o e => ⟨(e0.bs x o e).1, nb _ (e0.bs x o e).2⟩, e0.bsz, e0.funs, fun x hx => nb _ (e0.frf x hx), hok, e0.bare⟩
    have run := F.run A outer s _ args us [.ref b, .int m] (fun v H'' => (∃ i j k, H'' b = some (.lst [.int i, .int j, .int k, .ref c])) ∧ Q v (upd H'' b (bagO b c))) E hr hg e1 hb rv
      ⟨b, c, m, i, j, k, ns, rfl, upd_same, by rw [upd_ne nbc]; exact h2, h3, hm, hm9, fun H' r i' j' k' r0 r1 e2 hb' => ⟨⟨_, _, _, hb'⟩, q _ r r0 r1 fun x o hx => by
        by_cases ex : x = b
        · rw [ex] at hx ⊢
          rw [upd_same, ← h1]
          exact hx
        · rw [upd_ne ex]
          exact e2 x o ex (by rw [upd_ne ex]; exact hx)⟩⟩
    refine codeAny_mono run fun r s' hq => ?_
    cases r with
    | error e => exact hq
    | ok fl =>
      cases fl with
      | next => exact hq
      | brk => exact hq
      | cont => exact hq
      | ret u' =>
        obtain ⟨v', H'', q1, q2, q3, q4, q5, ⟨i2, j2, k2, q6⟩, q7⟩ := hq
        refine ⟨v', upd H'' b (bagO b c), q1, q2, ⟨?_, ?_, ?_, ?_, ?_, ?_, ?_⟩, ?_, q5, q7⟩
        · exact fun x o e n f g => q3.keep x o e (nb x n) f g
        · exact fun x o e n f g => q3.slot x o e (nb x n) f g
        · intro x o e n g
          have nx : x ≠ b := fun z => by
            rw [z, h1] at n
            cases n
          rw [upd_ne nx]
          exact q3.free x o e (nb x n) g
        · exact q3.there
        · intro x xs e
          have nx : x ≠ b := fun z => by
            rw [z, h1] at e
            cases e
          rw [upd_ne nx]
          exact q3.tups x xs (by rw [upd_ne nx]; exact e)
        · intro x o u e
          have nx : x ≠ b := fun z => by
            rw [z, h1] at e
            cases e
          rw [upd_ne nx]
          exact q3.frzs x o u (by rw [upd_ne nx]; exact e)
        · intro x ps e
          have nx : x ≠ b := fun z => by
            rw [z, h1] at e
            cases e
          rw [upd_ne nx]
          exact q3.tbls x ps (by rw [upd_ne nx]; exact e)
        · refine hOk_set q4 q6 (fun _ z => by cases z) (fun _ z => by cases z) ?_
          have q8 := bag_shut (q4 b _ q6)
          refine ⟨q8, ?_, fun ha hb ⟨i, j, k, t, u, v, n, x⟩ y => ⟨i, j, k, t, u, v, n, y _ x⟩⟩
          obtain ⟨_, _, _, _, _, _, _, x⟩ := q8
          exact ⟨_, x⟩
def spBagL (K : PySem.W.Frag) : Sp := fun vs H Q _ => ∃ (a : Addr) (ns : List Int), vs = [.ref a] ∧ SqL K H a (ns.map V.int) ∧ ns.length ≤ 63 ∧
  ∀ (H' : Hp) (b c : Addr) (ms : List Int), Ex H H' → H' b = some (.lst [.int 0, .int 1234567891, .int 0, .ref c]) → H' c = some (.lst (ms.map V.int)) → ms.length ≤ 63 → H b = none → Q (.ref b) H'
theorem all_ints : ∀ (ys : List V), (∀ (i : Nat) y, ys[i]? = some y → ∃ z : Int, y = .int z) → ∃ ms : List Int, ys = ms.map V.int
  | [], _ => ⟨[], rfl⟩
  | y :: ys, h => by
    obtain ⟨z, rfl⟩ := h 0 y rfl
    obtain ⟨ms, e⟩ := all_ints ys fun i y q => h (i + 1) y q
    exact ⟨z :: ms, by rw [e]; rfl⟩
theorem cut_at {xs : List V} {lo hi : Option Int} {i : Nat} {x : V} (h : (cutV xs lo hi)[i]? = some x) : ∃ j : Nat, xs[j]? = some x := by
  unfold cutV at h
  rw [List.getElem?_take] at h
  split at h
  · rw [List.getElem?_drop] at h
    exact ⟨_, h⟩
  · cases h
theorem map_at {ns : List Int} {i : Nat} {x : V} (h : (ns.map V.int)[i]? = some x) : ∃ z : Int, x = .int z := by
  rw [List.getElem?_map] at h
  cases e : ns[i]? with
  | none => rw [e] at h; cases h
  | some z => rw [e] at h; exact ⟨z, (Option.some.inj h).symm⟩
theorem ok_bagL (T : Txt0 mg) (D : Df K mg "_law_bag" s_l_bag) : CalG P w K mg base 1 "_law_bag" (spBagL K) := by
  refine cal_mk D sc_l_bag (fun _ _ _ _ _ _ us hl => match us, hl with | [_], _ => rfl) (fun vs H Q E h => ?_) (fun f cdv A outer s H vs Q E hr hG h => ?_)
  · obtain ⟨a, ns, rfl, _⟩ := h
    rfl
  · obtain ⟨a, ns, rfl, ha, h63, q⟩ := h
    refine ⟨_, (pss_one (ps_ret (pe_lst (pa_cons pe_int (pa_cons pe_int (pa_cons pe_int (pa_cons (pe_lcO (pe_lc (own := [("_law_cell", 1)]) rfl sc_l_bag.nd (piAny (pe_slice slAny (pv 0) po_none (po_some pe_int))) (blkOk_by (own := [("_law_cell", 1)]) (N := ["_law_script", "_law_cell"]) (sc := defScope s_l_bag) (by first | decide +kernel | kernel_rfl)) (fun _ _ _ _ _ => pg_name (i := 1) sc_l_bag.nd rfl (Or.inl rfl)) (fun _ _ _ _ _ => pts_nil) (fun _ _ _ _ _ => pe_callB call_abs (by rfl) T.abs (by decide +kernel) (pa_cons (pv 1) pa_nil)))) pa_nil))))))), ?_⟩
    refine .inl ⟨_, rfl, 63, rfl, .inl ⟨a, _, rfl, ha, fun p hp => ?_⟩⟩
    generalize hq1 : upd H p _ = H1
    obtain ⟨e1, h1⟩ := gen1 hq1 hp
    have hlen := cutV_length (ns.map V.int) none (some 63)
    rw [List.length_map] at hlen
    refine ⟨p, rfl, ⟨_, sq_of h1⟩, ?_⟩
    refine lcG (walk_list (xs := cutV (ns.map V.int) none (some 63))) (by omega) (sq_of h1) (fun _ _ e h => ex_l e h) yAt_ex (fun i ys _ => ∀ (j : Nat) y, ys[j]? = some y → ∃ z : Int, y = .int z) (fun _ _ _ _ _ h => h) (fun j y z => by simp at z) ?_ ?_
    · rintro i x H2 H3 ys hi e2 ⟨rfl, hx⟩ hp N N0 kN kN0
      obtain ⟨j, hj⟩ := cut_at hx
      obtain ⟨z, rfl⟩ := map_at hj
      refine ⟨rfl, ?_⟩
      refine ⟨_, rfl, z, rfl, ?_⟩
      refine kN _ _ (Ex.refl _) fun j y hy => ?_
      rw [List.getElem?_append] at hy
      split at hy
      · exact hp j y hy
      · rw [List.getElem?_singleton] at hy
        split at hy
        · exact ⟨_, (Option.some.inj hy).symm⟩
        · cases hy
    · intro D H2 ys hD e2 h2 hl hp
      obtain ⟨ms, rfl⟩ := all_ints ys hp
      refine ⟨by show 4 ≤ sizeLine; decide, fun b hb => ?_⟩
      generalize hq3 : upd H2 b _ = H3
      obtain ⟨e3, h3⟩ := gen1 hq3 hb
      rw [List.length_map] at hl
      exact q _ b D ms ((e1.trans e2).trans e3) h3 (e3 _ _ h2) (by omega) (fresh_back (e1.trans e2) hb)
/-- script: any list of ints -/
def spBag (K : PySem.W.Frag) : Sp := fun vs H Q _ => ∃ (a : Addr) (ns : List Int), vs = [.ref a] ∧ SqL K H a (ns.map V.int) ∧ ns.length ≤ 63 ∧ ∀ (H' : Hp) (b : Addr), Ex H H' → BagAt H' b → Q (.ref b) H'
theorem bag_ext (C : CalG P w K mg base 1 "_law_bag" (spBagL K)) : CalG P w K mg base 1 "_law_bag" (spBag K) := by
  obtain ⟨f, fd, ps, F, a, kp, bd⟩ := C.ex
  refine ⟨f, fd, ps, ⟨fun vs H Q E h => ?_, fun A outer s H args us vs Q E hr hg e0 hb rv h => ?_⟩, a, kp, bd⟩
  · obtain ⟨a, ns, rfl, ha, hl, _⟩ := h
    exact F.len [.ref a] H (fun _ _ => True) E ⟨a, ns, rfl, ha, hl, fun _ _ _ _ _ _ _ _ _ => trivial⟩
  · obtain ⟨a, ns, rfl, ha, hl, q⟩ := h
    have run := F.run A outer s _ args us [.ref a] (fun v H'' => ∃ (b c : Addr) (ms : List Int), v = .ref b ∧ Ex H H'' ∧ H'' b = some (.lst [.int 0, .int 1234567891, .int 0, .ref c]) ∧ H'' c = some (.lst (ms.map V.int)) ∧ ms.length ≤ 63 ∧ H b = none) E hr hg e0 hb rv
      ⟨a, ns, rfl, ha, hl, fun H' b c ms e h1 h2 h3 h4 => ⟨b, c, ms, rfl, e, h1, h2, h3, h4⟩⟩
    refine codeAny_mono run fun r s' hq => ?_
    cases r with
    | error e => exact hq
    | ok fl =>
      cases fl with
      | next => exact hq
      | brk => exact hq
      | cont => exact hq
      | ret u' =>
        obtain ⟨v', H'', q1, q2, q3, q4, q5, b, c, ms, rfl, e, h1, h2, h3, h4⟩ := hq
        have nbc : c ≠ b := ne_of h2 h1 (fun z => ints_ne4 z)
        have no : ∀ x o, H x = some o → x ≠ b := fun x o hx z => by
          rw [z, h4] at hx
          cases hx
        refine ⟨.ref b, upd H'' b (bagO b c), q1, q2, ⟨q3.keep, q3.slot, ?_, q3.there, ?_, ?_, ?_⟩, ?_, q5, q _ b (Ex.mut e h4) ⟨c, ms, upd_same, ?_, h3⟩⟩
        · intro x o ho n g
          have z := q3.free x o ho n g
          have nx : x ≠ b := fun y => by
            rw [y, h1] at z
            cases z
          rw [upd_ne nx]
          exact z
        · intro x xs hx
          rw [upd_ne (no _ _ hx)]
          exact q3.tups x xs hx
        · intro x o u hx
          rw [upd_ne (no _ _ hx)]
          exact q3.frzs x o u hx
        · intro x ps hx
          rw [upd_ne (no _ _ hx)]
          exact q3.tbls x ps hx
        · refine hOk_set q4 h1 (fun _ z => by cases z) (fun _ z => by cases z) ?_
          have q8 := bag_shut (q4 b _ h1)
          refine ⟨q8, ?_, fun ha hb ⟨i, j, k, t, u, v, n, x⟩ y => ⟨i, j, k, t, u, v, n, y _ x⟩⟩
          obtain ⟨_, _, _, _, _, _, _, x⟩ := q8
          exact ⟨_, x⟩
        · rw [upd_ne nbc]
          exact h2
def spSome (K : PySem.W.Frag) : Sp := fun vs H Q _ => ∃ (b a : Addr) (xs : List V), vs = [.ref b, .ref a] ∧ BagAt H b ∧ (SqL K H a xs ∨ SqT K H a xs) ∧ xs ≠ [] ∧ xs.length ≤ 100000 ∧
  ∀ (H' : Hp) (i : Nat) (x : V), Ex H H' → xs[i]? = some x → Q x H'
theorem ok_some (T : Txt0 mg) (D : Df K mg "_law_some" s_l_some) (c_l_take : CalG P w K mg base 1 "_law_take" spTake) : CalG P w K mg base 2 "_law_some" (spSome K) := by
  refine cal_mk D sc_l_some (fun _ _ _ _ _ _ us hl => match us, hl with | [_, _], _ => rfl) (fun vs H Q E h => ?_) (fun f cdv A outer s H vs Q E hr hG h => ?_)
  · obtain ⟨b, a, xs, rfl, _⟩ := h
    rfl
  · obtain ⟨b, a, xs, rfl, hb, ha, hne, hl, q⟩ := h
    have hpos : 0 < xs.length := List.length_pos_iff.mpr hne
    refine ⟨_, (pss_one (ps_ret (pe_ix ixAny (pv 1) (pe_cG c_l_take hr hG (by decide) rfl (pa_cons (pv 0) (pa_cons (pe_callB callLen (by rfl) T.len PySem.boot_len (pa_cons (pv 1) pa_nil)) pa_nil))) (fun _ _ => rfl)))), ?_⟩
    refine ⟨_, rfl, _, rfl, _, rfl, .inl ⟨a, xs, rfl, ha, ?_⟩⟩
    refine ⟨b, _, rfl, hb, by omega, by omega, fun H' r r0 r1 e => ?_⟩
    obtain ⟨j, rfl⟩ : ∃ j : Nat, r = (j : Int) := ⟨r.toNat, by omega⟩
    have hj : j < xs.length := by omega
    rcases ha with ha | ha
    · exact .inl ⟨a, xs, _, xs[j], rfl, rfl, ex_l e ha, atI_nat (List.getElem?_eq_getElem hj), q H' j _ e (List.getElem?_eq_getElem hj)⟩
    · exact .inr (.inl ⟨a, xs, _, xs[j], rfl, rfl, ex_t e ha, atI_nat (List.getElem?_eq_getElem hj), q H' j _ e (List.getElem?_eq_getElem hj)⟩)
end
end Own

namespace Own
open PySem PySem.Spec PyProof.Rows L2 Evl
abbrev s_l_odd : Stmt := top 25
theorem sc_l_odd : FnScope ["_law_bag_here", "_law_some_here"] ["_law_bag_here"] (defScope s_l_odd) := ⟨rfl, rfl, rfl, by decide +kernel, rfl, by decide +kernel, by decide +kernel⟩
def oddL : List PyData := [.none, .int 5, .str "a", .str "", .tuple [], .list [], .dict [], .tuple [.str "eq"], .bool true, .int (10 ^ (39 : Int).toNat), .list [.none], .tuple [.str "name", .str "a"], .str "eq", .int (-1), .tuple [.int 0, .int 1]] ++ [.str "a1", .str "aB", .str "a_", .str "a{", .str "a\n"] ++ [.dict [(.str "a", .int 1)], .str "ab b", .str "abcdefghi", .tuple [.str "last"], .tuple [.str "", .str "", .str ""]]
theorem odd_tab : (oddL.all fun d => gD d && (decide (d.depth ≤ 1) && decide (wd d ≤ 4000))) = true := by decide +kernel
theorem odd_ok {d : PyData} (h : d ∈ oddL) : okD 1 4000 d := by
  have z := List.all_eq_true.mp odd_tab d h
  simp only [Bool.and_eq_true, decide_eq_true_eq] at z
  exact ⟨z.1, z.2.1, z.2.2⟩
theorem dict_gen {H H1 H2 : Hp} {d : Addr} {o2 : HO} (hq : upd H1 d o2 = H2) (e : Ex H H1) (hd : H d = none) : Ex H H2 ∧ H2 d = some o2 := by
  subst hq
  exact ⟨Ex.mut e hd, upd_same⟩
/-- a list or a tuple -/
def ConAt (A : Addr → Prop) (H : Hp) (v : V) (d : PyData) (p : Addr) (xs : List V) (ds : List PyData) : Prop := v = .ref p ∧ ((H p = some (.lst xs) ∧ d = .list ds) ∨ (H p = some (.tup xs) ∧ d = .tuple ds)) ∧ DaAA A H xs ds
theorem con_of {A : Addr → Prop} {H : Hp} {v : V} {d : PyData} (h : DaA A H v d) (hc : (isTupD d || isLstD d) = true) : ∃ p xs ds, ConAt A H v d p xs ds := by
  cases h with
  | lst h0 h1 h2 => exact ⟨_, _, _, rfl, .inl ⟨h1, rfl⟩, h2⟩
  | tup h0 h1 h2 => exact ⟨_, _, _, rfl, .inr ⟨h1, rfl⟩, h2⟩
  | non => cases hc
  | bl b => cases hc
  | int i => cases hc
  | str z => cases hc
  | dct h0 h1 h2 => cases hc
section
variable {A : Addr → Prop} {K : PySem.W.Frag} {H : Hp} {v : V} {d : PyData} {p : Addr} {xs : List V} {ds : List PyData}
theorem ConAt.sq (h : ConAt A H v d p xs ds) : SqL K H p xs ∨ SqT K H p xs := by
  rcases h.2.1 with h | h
  · exact .inl (sq_of h.1)
  · exact .inr (st_of h.1)
theorem ConAt.ex {H' : Hp} (e : Ex H H') (h : ConAt A H v d p xs ds) : ConAt A H' v d p xs ds := by
  obtain ⟨h1, h2, h3⟩ := h
  refine ⟨h1, ?_, DaAA.move (fun a o _ q => e a o q) (fun _ q => q) ds h3⟩
  rcases h2 with h2 | h2
  · exact .inl ⟨e _ _ h2.1, h2.2⟩
  · exact .inr ⟨e _ _ h2.1, h2.2⟩
theorem ConAt.lst (h : ConAt A H v d p xs ds) : TyX K H v (.type (tyD d)) := by
  obtain ⟨rfl, h2, _⟩ := h
  rcases h2 with ⟨h2, rfl⟩ | ⟨h2, rfl⟩
  · exact .base (.lst h2)
  · exact .base (.tup h2)
theorem ConAt.ok (h : ConAt A H v d p xs ds) {n W : Nat} (k : okD n W d) : gDs ds = true ∧ PyData.depthAll ds + 1 ≤ n ∧ wds ds + 3 ≤ W := by
  rcases h.2.1 with ⟨_, rfl⟩ | ⟨_, rfl⟩
  · exact k
  · exact k
end
/-- sizes of a list's items -/
def okDs (n W : Nat) (ds : List PyData) : Prop := gDs ds = true ∧ PyData.depthAll ds ≤ n ∧ wds ds ≤ W
theorem okDs.list {n W : Nat} {ds : List PyData} (h : okDs n W ds) : okD (n + 1) (W + 3) (.list ds) := ⟨h.1, Nat.succ_le_succ h.2.1, Nat.add_le_add_right h.2.2 3⟩
theorem okDs.tup {n W : Nat} {ds : List PyData} (h : okDs n W ds) : okD (n + 1) (W + 3) (.tuple ds) := ⟨h.1, Nat.succ_le_succ h.2.1, Nat.add_le_add_right h.2.2 3⟩
theorem okDs.mono {n W n' W' : Nat} {ds : List PyData} (h : okDs n W ds) (h1 : n ≤ n') (h2 : W ≤ W') : okDs n' W' ds := ⟨h.1, Nat.le_trans h.2.1 h1, Nat.le_trans h.2.2 h2⟩
theorem wds_set : ∀ {ds : List PyData} {i : Nat} {x y : PyData}, ds[i]? = some x → wds (ds.set i y) + wd x = wds ds + wd y
  | _ :: xs, 0, _, y, h => by
    cases h
    show wd y + 2 + wds xs + wd _ = wd _ + 2 + wds xs + wd y
    omega
  | z :: xs, i + 1, x, y, h => by
    have q := wds_set (ds := xs) (i := i) (y := y) h
    show wd z + 2 + wds (xs.set i y) + wd x = wd z + 2 + wds xs + wd y
    omega
theorem okDs.set {n W V : Nat} {ds : List PyData} {i : Nat} {x y : PyData} (h : okDs n W ds) (hx : ds[i]? = some x) (hy : gD y = true) (hd : y.depth ≤ n) (hw : W + wd y ≤ V + wd x) : okDs n V (ds.set i y) := by
  obtain ⟨h1, h2, h3⟩ := h
  refine ⟨gDs_iff.mpr fun d hm => ?_, depthAll_le.mpr fun d hm => ?_, ?_⟩
  · rcases List.mem_or_eq_of_mem_set hm with q | q
    · exact gDs_iff.mp h1 d q
    · rw [q]; exact hy
  · rcases List.mem_or_eq_of_mem_set hm with q | q
    · exact depthAll_le.mp h2 d q
    · rw [q]; exact hd
  · have := wds_set (y := y) hx
    omega
theorem erase_eq {α : Type} : ∀ (l : List α) (i : Nat), l.eraseIdx i = l.take i ++ l.drop (i + 1)
  | [], _ => by simp
  | _ :: _, 0 => rfl
  | x :: xs, i + 1 => by
    show x :: xs.eraseIdx i = x :: (xs.take i ++ xs.drop (i + 1))
    rw [erase_eq xs i]
theorem okDs.sub {n W : Nat} {ds es : List PyData} (h : okDs n W ds) (hm : ∀ d ∈ es, d ∈ ds) (hw : wds es ≤ W) : okDs n W es :=
  ⟨gDs_iff.mpr fun d hd => gDs_iff.mp h.1 d (hm d hd), depthAll_le.mpr fun d hd => depthAll_le.mp h.2.1 d (hm d hd), hw⟩
theorem kit_tl {K : PySem.W.Frag} (d : PyData) : PySem.W.kitAny K (.type (tyD d)) [.type "tuple", .type "list"] = some (isTupD d || isLstD d) := by
  refine kitAny_cons (kit_ty (kit_tuple d)) (fun e => ?_) (fun e => by rw [e]; rfl)
  rw [e, Bool.false_or]
  exact kitAny_cons (kit_ty (kit_list d)) (fun e => by rw [e]; exact kitAny_nil) (fun e => by rw [e])
section
variable {P : Program} {w : World} {K : PySem.W.Frag} {mg : Str → Option Value} {base : Heap} {rel : Addr}
def spOdd : Sp := fun vs H Q _ => ∃ (b : Addr), vs = [.ref b] ∧ BagAt H b ∧ ∀ (H' : Hp) (v : V) (d : PyData), Ex H H' → DaA (fun a => H a = none) H' v d → okD 1 4000 d → Q v H'
theorem ok_odd (T : Txt0 mg) (D : Df K mg "_law_odd" s_l_odd) (c_l_some : CalG P w K mg base 2 "_law_some" (spSome K)) : CalG P w K mg base 3 "_law_odd" spOdd := by
  refine cal_mk D sc_l_odd (fun _ _ _ _ _ _ us hl => match us, hl with | [_], _ => rfl) (fun vs H Q E h => ?_) (fun f cdv A outer s H vs Q E hr hG h => ?_)
  · obtain ⟨b, rfl, _⟩ := h
    rfl
  · obtain ⟨b, rfl, hb, q⟩ := h
    refine ⟨_, (pss_cons (ps_set (i := 1) sc_l_odd.nd rfl (Or.inl rfl) (pe_lst (pa_cons pe_non (pa_cons pe_int (pa_cons pe_str (pa_cons pe_str (pa_cons (pe_tup pa_nil) (pa_cons (pe_lst pa_nil) (pa_cons pe_dnewK (pa_cons (pe_tup (pa_cons pe_str pa_nil)) (pa_cons pe_bl (pa_cons (pe_op op_pow pe_int pe_int) (pa_cons (pe_lst (pa_cons pe_non pa_nil)) (pa_cons (pe_tup (pa_cons pe_str (pa_cons pe_str pa_nil))) (pa_cons pe_str (pa_cons (pe_un un_neg pe_int) (pa_cons (pe_tup (pa_cons pe_int (pa_cons pe_int pa_nil))) pa_nil)))))))))))))))))
      (pss_cons (ps_set (i := 1) sc_l_odd.nd rfl (Or.inl rfl) (pe_op opAdd (pv 1) (pe_lst (pa_cons pe_str (pa_cons pe_str (pa_cons pe_str (pa_cons pe_str (pa_cons pe_str pa_nil))))))))
      (pss_one (ps_ret (pe_cG c_l_some hr hG (by decide) rfl (pa_cons (pv 0) (pa_cons (pe_op opAdd (pv 1) (pe_lst (pa_cons (pe_disp (pps_cons pe_str pe_int pps_nil) (by rfl) (by rfl) (fun z => by cases z) (by decide)) (pa_cons pe_str (pa_cons pe_str (pa_cons (pe_tup (pa_cons pe_str pa_nil)) (pa_cons (pe_tup (pa_cons pe_str (pa_cons pe_str (pa_cons pe_str pa_nil)))) pa_nil))))))) pa_nil))))))), ?_⟩
    refine ⟨by show 0 ≤ sizeLine; decide, fun t1 n1 => ?_⟩
    generalize hq1 : upd H t1 _ = H1
    obtain ⟨e1, h1⟩ := gen1 hq1 n1
    refine ⟨by show 0 ≤ sizeLine; decide, fun l1 n2 => ?_⟩
    generalize hq2 : upd H1 l1 _ = H2
    obtain ⟨e2, h2⟩ := gen1 hq2 n2
    refine fun d1 n3 => ?_
    generalize hq3 : upd H2 d1 _ = H3
    obtain ⟨e3, h3⟩ := gen1 hq3 n3
    obtain ⟨H4, hq4⟩ : ∃ H4, H3 = H4 := ⟨_, rfl⟩
    subst hq4
    have e4 := e3
    have h4 := h3
    refine ⟨by show 1 ≤ sizeLine; decide, fun t2 n5 => ?_⟩
    generalize hq5 : upd H3 t2 _ = H5
    obtain ⟨e5, h5⟩ := gen1 hq5 n5
    refine ⟨10, 39, rfl, rfl, ⟨by decide, by decide, by decide⟩, ?_⟩
    refine ⟨by show 1 ≤ sizeLine; decide, fun l2 n6 => ?_⟩
    generalize hq6 : upd H5 l2 _ = H6
    obtain ⟨e6, h6⟩ := gen1 hq6 n6
    refine ⟨by show 2 ≤ sizeLine; decide, fun t3 n7 => ?_⟩
    generalize hq7 : upd H6 t3 _ = H7
    obtain ⟨e7, h7⟩ := gen1 hq7 n7
    refine ⟨1, rfl, ?_⟩
    refine ⟨by show 2 ≤ sizeLine; decide, fun t4 n8 => ?_⟩
    generalize hq8 : upd H7 t4 _ = H8
    obtain ⟨e8, h8⟩ := gen1 hq8 n8
    refine ⟨by show 15 ≤ sizeLine; decide, fun l3 n9 => ?_⟩
    generalize hq9 : upd H8 l3 _ = H9
    obtain ⟨e9, h9⟩ := gen1 hq9 n9
    refine ⟨_, rfl, ?_⟩
    refine ⟨by show 5 ≤ sizeLine; decide, fun l4 n10 => ?_⟩
    generalize hq10 : upd H9 l4 _ = H10
    obtain ⟨e10, h10⟩ := gen1 hq10 n10
    refine .inr (.inr (.inl ⟨l3, l4, _, _, rfl, rfl, e10 _ _ h9, h10, by show 15 + 5 ≤ sizeLine; decide, fun l5 n11 => ?_⟩))
    generalize hq11 : upd H10 l5 _ = H11
    obtain ⟨e11, h11⟩ := gen1 hq11 n11
    refine ⟨_, rfl, _, rfl, ?_⟩
    refine fun d2 n12 => ?_
    generalize hq12 : upd H11 d2 _ = H12
    obtain ⟨e12, h12⟩ := gen1 hq12 n12
    refine ⟨h12, [(Sum.inr "a", .int 1)], rfl, by show 1 ≤ 15; decide, ?_⟩
    generalize hq13 : upd H12 d2 _ = H13
    obtain ⟨e13, h13⟩ := dict_gen hq13 e12 n12
    refine ⟨by show 1 ≤ sizeLine; decide, fun t5 n14 => ?_⟩
    generalize hq14 : upd H13 t5 _ = H14
    obtain ⟨e14, h14⟩ := gen1 hq14 n14
    refine ⟨by show 3 ≤ sizeLine; decide, fun t6 n15 => ?_⟩
    generalize hq15 : upd H14 t6 _ = H15
    obtain ⟨e15, h15⟩ := gen1 hq15 n15
    refine ⟨by show 5 ≤ sizeLine; decide, fun l6 n16 => ?_⟩
    generalize hq16 : upd H15 l6 _ = H16
    obtain ⟨e16, h16⟩ := gen1 hq16 n16
    have e1116 := ((e13.trans e14).trans e15).trans e16
    refine .inr (.inr (.inl ⟨l5, l6, _, _, rfl, rfl, e1116 _ _ h11, h16, by show 20 + 5 ≤ sizeLine; decide, fun l7 n17 => ?_⟩))
    generalize hq17 : upd H16 l7 _ = H17
    obtain ⟨e17, h17⟩ := gen1 hq17 n17
    have f15 := e16.trans e17
    have f14 := e15.trans f15
    have f13 := e14.trans f14
    have f8 := (((e9.trans e10).trans e11).trans e13).trans f13
    have f7 := e8.trans f8
    have f6 := e7.trans f7
    have f5 := e6.trans f6
    have f4 := e5.trans f5
    have f2 := e4.trans f4
    have f1 := e2.trans f2
    have f0 := e1.trans f1
    have b13 := (((e4.trans e5).trans e6).trans e7).trans e8
    have m1 : H t1 = none := n1
    have m2 : H l1 = none := none_of e1 n2
    have m3 : H d1 = none := none_of (e1.trans e2) n3
    have m5 : H t2 = none := none_of ((e1.trans e2).trans e4) n5
    have m6 : H l2 = none := none_of (((e1.trans e2).trans e4).trans e5) n6
    have m7 : H t3 = none := none_of ((((e1.trans e2).trans e4).trans e5).trans e6) n7
    have m8 : H t4 = none := none_of (((((e1.trans e2).trans e4).trans e5).trans e6).trans e7) n8
    have u11 := ((((e1.trans e2).trans b13).trans e9).trans e10).trans e11
    have m12 : H d2 = none := none_of u11 n12
    have m14 : H t5 = none := none_of (u11.trans e13) n14
    have m15 : H t6 = none := none_of ((u11.trans e13).trans e14) n15
    have all : DaAA (fun a => H a = none) H17 _ oddL := DaAA.app (DaAA.app
      (.cons .non (.cons (.int 5) (.cons (.str "a") (.cons (.str "") (.cons (.tup m1 (f1 _ _ h1) .nil) (.cons (.lst m2 (f2 _ _ h2) .nil) (.cons (.dct (kv := []) m3 (f4 _ _ h3) rfl) (.cons (.tup m5 (f5 _ _ h5) (.cons (.str "eq") .nil)) (.cons (.bl true) (.cons (.int _)
        (.cons (.lst m6 (f6 _ _ h6) (.cons .non .nil)) (.cons (.tup m7 (f7 _ _ h7) (.cons (.str "name") (.cons (.str "a") .nil))) (.cons (.str "eq") (.cons (.int (-1)) (.cons (.tup m8 (f8 _ _ h8) (.cons (.int 0) (.cons (.int 1) .nil))) .nil)))))))))))))))
      (.cons (.str "a1") (.cons (.str "aB") (.cons (.str "a_") (.cons (.str "a{") (.cons (.str "a\n") .nil))))))
      (.cons (.dct (kv := [("a", 1)]) m12 (f13 _ _ h13) rfl) (.cons (.str "ab b") (.cons (.str "abcdefghi") (.cons (.tup m14 (f14 _ _ h14) (.cons (.str "last") .nil)) (.cons (.tup m15 (f15 _ _ h15) (.cons (.str "") (.cons (.str "") (.cons (.str "") .nil)))) .nil)))))
    refine ⟨b, l7, _, rfl, hb.ex f0, .inl (sq_of h17), (fun e => absurd (congrArg List.length e) (by show ¬ 25 = 0; decide)), by show 25 ≤ 100000; decide, fun H18 i x e18 hx => ?_⟩
    obtain ⟨d, hd, hda⟩ := all.at hx
    exact q _ _ d (f0.trans e18) (DaA.move (fun a o _ z => e18 a o z) (fun _ z => z) d hda) (odd_ok (List.mem_of_getElem? hd))
end
end Own

namespace Own
open PySem PySem.Spec PyProof.Rows L2 Evl
abbrev s_Wrong___init__ : Stmt := inClass (top 2) 0
theorem sc_Wrong___init__ : FnScope ["self", "place"] ["self", "place"] (defScope s_Wrong___init__) := ⟨rfl, rfl, rfl, by decide +kernel, rfl, by decide +kernel, by decide +kernel⟩
abbrev s_NoRow___init__ : Stmt := inClass (top 3) 0
theorem sc_NoRow___init__ : FnScope ["self", "at"] ["self", "at"] (defScope s_NoRow___init__) := ⟨rfl, rfl, rfl, by decide +kernel, rfl, by decide +kernel, by decide +kernel⟩
abbrev s_BadStep___init__ : Stmt := inClass (top 4) 0
theorem sc_BadStep___init__ : FnScope ["self", "index"] ["self", "index"] (defScope s_BadStep___init__) := ⟨rfl, rfl, rfl, by decide +kernel, rfl, by decide +kernel, by decide +kernel⟩
abbrev s_NoStep___init__ : Stmt := inClass (top 5) 0
theorem sc_NoStep___init__ : FnScope ["self", "index"] ["self", "index"] (defScope s_NoStep___init__) := ⟨rfl, rfl, rfl, by decide +kernel, rfl, by decide +kernel, by decide +kernel⟩
abbrev s_NotPicked___init__ : Stmt := inClass (top 6) 0
theorem sc_NotPicked___init__ : FnScope ["self", "number"] ["self", "number"] (defScope s_NotPicked___init__) := ⟨rfl, rfl, rfl, by decide +kernel, rfl, by decide +kernel, by decide +kernel⟩
abbrev s_Stopped___init__ : Stmt := inClass (top 8) 0
theorem sc_Stopped___init__ : FnScope ["self", "index"] ["self", "index"] (defScope s_Stopped___init__) := ⟨rfl, rfl, rfl, by decide +kernel, rfl, by decide +kernel, by decide +kernel⟩
abbrev s_BadEdit___init__ : Stmt := inClass (top 10) 0
theorem sc_BadEdit___init__ : FnScope ["self", "index"] ["self", "index"] (defScope s_BadEdit___init__) := ⟨rfl, rfl, rfl, by decide +kernel, rfl, by decide +kernel, by decide +kernel⟩
abbrev s_HasPlace___init__ : Stmt := inClass (top 12) 0
theorem sc_HasPlace___init__ : FnScope ["self", "index"] ["self", "index"] (defScope s_HasPlace___init__) := ⟨rfl, rfl, rfl, by decide +kernel, rfl, by decide +kernel, by decide +kernel⟩
abbrev s_TooMany___init__ : Stmt := inClass (top 13) 0
theorem sc_TooMany___init__ : FnScope ["self", "most"] ["self", "most"] (defScope s_TooMany___init__) := ⟨rfl, rfl, rfl, by decide +kernel, rfl, by decide +kernel, by decide +kernel⟩
abbrev s_Full___init__ : Stmt := inClass (top 16) 0
theorem sc_Full___init__ : FnScope ["self", "limit"] ["self", "limit"] (defScope s_Full___init__) := ⟨rfl, rfl, rfl, by decide +kernel, rfl, by decide +kernel, by decide +kernel⟩
abbrev s_Refused___init__ : Stmt := inClass (top 17) 0
theorem sc_Refused___init__ : FnScope ["self", "deed"] ["self", "deed"] (defScope s_Refused___init__) := ⟨rfl, rfl, rfl, by decide +kernel, rfl, by decide +kernel, by decide +kernel⟩
abbrev s_NoEntry___init__ : Stmt := inClass (top 18) 0
theorem sc_NoEntry___init__ : FnScope ["self", "many"] ["self", "many"] (defScope s_NoEntry___init__) := ⟨rfl, rfl, rfl, by decide +kernel, rfl, by decide +kernel, by decide +kernel⟩
/-- an own error's __init__ that keeps its argument -/
def spFI (C : Addr) (fl : Str) : Sp := fun vs H Q _ => ∃ (a : Addr) (v : V), vs = [.ref a, v] ∧ H a = some (exo a C none) ∧ ∀ dx, H dx = none → dx ≠ a → Q .non (upd (upd H dx (exd dx [(fl, v)])) a (exo a C (some dx)))
structure ErrF (P : Program) (w : World) (K : PySem.W.Frag) (mg : Str → Option Value) (base : Heap) (nm fl : Str) (C : Addr) : Prop where
  at_ : mg nm = some (.ref C)
  T : OexC K C
  ex : ∃ (fi : Addr) (fd : FuncData), PySem.W.findIn K (.ref C) "__init__" = some (some (.ref fi)) ∧ PySem.W.typeIn K (.ref fi) = some (.type "function") ∧ FnOk P w K mg base CX0 1 fi fd ["self", fl] (spFI C fl) ∧ Binds K fd ["self", fl] []
structure Err0 (K : PySem.W.Frag) (mg : Str → Option Value) (nm : Str) (C : Addr) : Prop where
  at_ : mg nm = some (.ref C)
  q : PySem.W.excIn K C [.type "ValueError", .type "Exception", .type "BaseException", .type "object"] "ValueError.__new__" = true
  kp : PySem.W.keepIn K (.ref C) = true
  ex : PySem.W.subIn K (.ref C) (.type "BaseException") = some true
  ty : PySem.W.typeIn K (.ref C) = some (.type "type")
section
variable {P : Program} {w : World} {K : PySem.W.Frag} {mg : Str → Option Value} {base : Heap} {C f : Addr} {fd : FuncData}
theorem ok_i_Wrong (T : OexC K C) (hno : PySem.W.findIn K (.ref C) "place" = some none) (F : Fun K "__init__" "Wrong.__init__" s_Wrong___init__ f fd) : FnOk P w K mg base CX0 1 f fd ["self", "place"] (spFI C "place") := by
  refine F.ok sc_Wrong___init__ (fun vs H Q E h => ?_) (fun cdv A outer s H vs Q E hr h => ⟨_, pss_one (ps_ost (pv 0) (pv 1)), ?_⟩)
  · obtain ⟨a, v, rfl, _⟩ := h
    rfl
  · obtain ⟨a, v, rfl, ha, q⟩ := h
    exact ⟨_, rfl, _, rfl, a, C, rfl, T, hno, .inl ⟨ha, fun dx n1 n2 => q dx n1 n2⟩⟩
theorem ok_i_NoRow (T : OexC K C) (hno : PySem.W.findIn K (.ref C) "at" = some none) (F : Fun K "__init__" "NoRow.__init__" s_NoRow___init__ f fd) : FnOk P w K mg base CX0 1 f fd ["self", "at"] (spFI C "at") := by
  refine F.ok sc_NoRow___init__ (fun vs H Q E h => ?_) (fun cdv A outer s H vs Q E hr h => ⟨_, pss_one (ps_ost (pv 0) (pv 1)), ?_⟩)
  · obtain ⟨a, v, rfl, _⟩ := h
    rfl
  · obtain ⟨a, v, rfl, ha, q⟩ := h
    exact ⟨_, rfl, _, rfl, a, C, rfl, T, hno, .inl ⟨ha, fun dx n1 n2 => q dx n1 n2⟩⟩
theorem ok_i_BadStep (T : OexC K C) (hno : PySem.W.findIn K (.ref C) "index" = some none) (F : Fun K "__init__" "BadStep.__init__" s_BadStep___init__ f fd) : FnOk P w K mg base CX0 1 f fd ["self", "index"] (spFI C "index") := by
  refine F.ok sc_BadStep___init__ (fun vs H Q E h => ?_) (fun cdv A outer s H vs Q E hr h => ⟨_, pss_one (ps_ost (pv 0) (pv 1)), ?_⟩)
  · obtain ⟨a, v, rfl, _⟩ := h
    rfl
  · obtain ⟨a, v, rfl, ha, q⟩ := h
    exact ⟨_, rfl, _, rfl, a, C, rfl, T, hno, .inl ⟨ha, fun dx n1 n2 => q dx n1 n2⟩⟩
theorem ok_i_NoStep (T : OexC K C) (hno : PySem.W.findIn K (.ref C) "index" = some none) (F : Fun K "__init__" "NoStep.__init__" s_NoStep___init__ f fd) : FnOk P w K mg base CX0 1 f fd ["self", "index"] (spFI C "index") := by
  refine F.ok sc_NoStep___init__ (fun vs H Q E h => ?_) (fun cdv A outer s H vs Q E hr h => ⟨_, pss_one (ps_ost (pv 0) (pv 1)), ?_⟩)
  · obtain ⟨a, v, rfl, _⟩ := h
    rfl
  · obtain ⟨a, v, rfl, ha, q⟩ := h
    exact ⟨_, rfl, _, rfl, a, C, rfl, T, hno, .inl ⟨ha, fun dx n1 n2 => q dx n1 n2⟩⟩
theorem ok_i_NotPicked (T : OexC K C) (hno : PySem.W.findIn K (.ref C) "number" = some none) (F : Fun K "__init__" "NotPicked.__init__" s_NotPicked___init__ f fd) : FnOk P w K mg base CX0 1 f fd ["self", "number"] (spFI C "number") := by
  refine F.ok sc_NotPicked___init__ (fun vs H Q E h => ?_) (fun cdv A outer s H vs Q E hr h => ⟨_, pss_one (ps_ost (pv 0) (pv 1)), ?_⟩)
  · obtain ⟨a, v, rfl, _⟩ := h
    rfl
  · obtain ⟨a, v, rfl, ha, q⟩ := h
    exact ⟨_, rfl, _, rfl, a, C, rfl, T, hno, .inl ⟨ha, fun dx n1 n2 => q dx n1 n2⟩⟩
theorem ok_i_Stopped (T : OexC K C) (hno : PySem.W.findIn K (.ref C) "index" = some none) (F : Fun K "__init__" "Stopped.__init__" s_Stopped___init__ f fd) : FnOk P w K mg base CX0 1 f fd ["self", "index"] (spFI C "index") := by
  refine F.ok sc_Stopped___init__ (fun vs H Q E h => ?_) (fun cdv A outer s H vs Q E hr h => ⟨_, pss_one (ps_ost (pv 0) (pv 1)), ?_⟩)
  · obtain ⟨a, v, rfl, _⟩ := h
    rfl
  · obtain ⟨a, v, rfl, ha, q⟩ := h
    exact ⟨_, rfl, _, rfl, a, C, rfl, T, hno, .inl ⟨ha, fun dx n1 n2 => q dx n1 n2⟩⟩
theorem ok_i_BadEdit (T : OexC K C) (hno : PySem.W.findIn K (.ref C) "index" = some none) (F : Fun K "__init__" "BadEdit.__init__" s_BadEdit___init__ f fd) : FnOk P w K mg base CX0 1 f fd ["self", "index"] (spFI C "index") := by
  refine F.ok sc_BadEdit___init__ (fun vs H Q E h => ?_) (fun cdv A outer s H vs Q E hr h => ⟨_, pss_one (ps_ost (pv 0) (pv 1)), ?_⟩)
  · obtain ⟨a, v, rfl, _⟩ := h
    rfl
  · obtain ⟨a, v, rfl, ha, q⟩ := h
    exact ⟨_, rfl, _, rfl, a, C, rfl, T, hno, .inl ⟨ha, fun dx n1 n2 => q dx n1 n2⟩⟩
theorem ok_i_HasPlace (T : OexC K C) (hno : PySem.W.findIn K (.ref C) "index" = some none) (F : Fun K "__init__" "HasPlace.__init__" s_HasPlace___init__ f fd) : FnOk P w K mg base CX0 1 f fd ["self", "index"] (spFI C "index") := by
  refine F.ok sc_HasPlace___init__ (fun vs H Q E h => ?_) (fun cdv A outer s H vs Q E hr h => ⟨_, pss_one (ps_ost (pv 0) (pv 1)), ?_⟩)
  · obtain ⟨a, v, rfl, _⟩ := h
    rfl
  · obtain ⟨a, v, rfl, ha, q⟩ := h
    exact ⟨_, rfl, _, rfl, a, C, rfl, T, hno, .inl ⟨ha, fun dx n1 n2 => q dx n1 n2⟩⟩
theorem ok_i_TooMany (T : OexC K C) (hno : PySem.W.findIn K (.ref C) "most" = some none) (F : Fun K "__init__" "TooMany.__init__" s_TooMany___init__ f fd) : FnOk P w K mg base CX0 1 f fd ["self", "most"] (spFI C "most") := by
  refine F.ok sc_TooMany___init__ (fun vs H Q E h => ?_) (fun cdv A outer s H vs Q E hr h => ⟨_, pss_one (ps_ost (pv 0) (pv 1)), ?_⟩)
  · obtain ⟨a, v, rfl, _⟩ := h
    rfl
  · obtain ⟨a, v, rfl, ha, q⟩ := h
    exact ⟨_, rfl, _, rfl, a, C, rfl, T, hno, .inl ⟨ha, fun dx n1 n2 => q dx n1 n2⟩⟩
theorem ok_i_Full (T : OexC K C) (hno : PySem.W.findIn K (.ref C) "limit" = some none) (F : Fun K "__init__" "Full.__init__" s_Full___init__ f fd) : FnOk P w K mg base CX0 1 f fd ["self", "limit"] (spFI C "limit") := by
  refine F.ok sc_Full___init__ (fun vs H Q E h => ?_) (fun cdv A outer s H vs Q E hr h => ⟨_, pss_one (ps_ost (pv 0) (pv 1)), ?_⟩)
  · obtain ⟨a, v, rfl, _⟩ := h
    rfl
  · obtain ⟨a, v, rfl, ha, q⟩ := h
    exact ⟨_, rfl, _, rfl, a, C, rfl, T, hno, .inl ⟨ha, fun dx n1 n2 => q dx n1 n2⟩⟩
theorem ok_i_Refused (T : OexC K C) (hno : PySem.W.findIn K (.ref C) "deed" = some none) (F : Fun K "__init__" "Refused.__init__" s_Refused___init__ f fd) : FnOk P w K mg base CX0 1 f fd ["self", "deed"] (spFI C "deed") := by
  refine F.ok sc_Refused___init__ (fun vs H Q E h => ?_) (fun cdv A outer s H vs Q E hr h => ⟨_, pss_one (ps_ost (pv 0) (pv 1)), ?_⟩)
  · obtain ⟨a, v, rfl, _⟩ := h
    rfl
  · obtain ⟨a, v, rfl, ha, q⟩ := h
    exact ⟨_, rfl, _, rfl, a, C, rfl, T, hno, .inl ⟨ha, fun dx n1 n2 => q dx n1 n2⟩⟩
theorem ok_i_NoEntry (T : OexC K C) (hno : PySem.W.findIn K (.ref C) "many" = some none) (F : Fun K "__init__" "NoEntry.__init__" s_NoEntry___init__ f fd) : FnOk P w K mg base CX0 1 f fd ["self", "many"] (spFI C "many") := by
  refine F.ok sc_NoEntry___init__ (fun vs H Q E h => ?_) (fun cdv A outer s H vs Q E hr h => ⟨_, pss_one (ps_ost (pv 0) (pv 1)), ?_⟩)
  · obtain ⟨a, v, rfl, _⟩ := h
    rfl
  · obtain ⟨a, v, rfl, ha, q⟩ := h
    exact ⟨_, rfl, _, rfl, a, C, rfl, T, hno, .inl ⟨ha, fun dx n1 n2 => q dx n1 n2⟩⟩
end
def tRF (C : Addr) (fl : Str) (Wx : WX) (ta : TA) : TS := fun _ σ H => tMkO C (spFI C fl) [] ta σ H fun cls d H' => Wx cls d σ H'
theorem ps_raiseF {X : Cx} {nm fl : Str} {C : Addr} {Wx : WX} {j : Nat} {e : Expr} {ta : TA} {p pos pos2 : Pos} (hc : X.calm = true) (c : ErrF X.prog X.w X.K X.mg X.base nm fl C) (hr : Room j X.A) (hj : 2 ≤ j) (tk : L2N.Takes X Wx) (hg : Gl X nm) (ha : PA X [e] ta) (hdb : (nm == ("__debug__" : Str)) = false := by decide)
    (he : starEach (e :: []) X.env = (false, eval e X.env) :: starEach [] X.env := by rfl) (hpl : (backTo pos (starEach [] X.env)).any (·.1) = false := by rfl) :
    PS X (.Raise (some (.Call (.Name nm p) [e] [] pos)) none pos2) (tRF C fl Wx ta) := by
  obtain ⟨fi, fd, iC, tI, F1, b⟩ := c.ex
  exact L2N.ps_raise hc tk (pmk_oexN c.T iC tI F1 (hr.mono hj) b pass0 hg c.at_ ha hdb he hpl)
def tR0 (C : Addr) (Wx : WX) : TS := fun _ σ H => Wx (.ref C) none σ H
theorem ps_raise0 {X : Cx} {nm : Str} {C : Addr} {Wx : WX} {p pos pos2 : Pos} (hc : X.calm = true) (c : Err0 X.K X.mg nm C) (tk : L2N.Takes X Wx) (hg : Gl X nm) (hdb : (nm == ("__debug__" : Str)) = false := by decide) :
    PS X (.Raise (some (.Call (.Name nm p) [] [] pos)) none pos2) (tR0 C Wx) := L2N.ps_raise hc tk (pmk_own0N F.excBase_ValueError c.q c.at_ c.kp (raises_own c.ex c.ty) hg hdb)
theorem mkF {C a : Addr} {fl : Str} {v : V} {H1 : Hp} {K2 : VK} (k : ∀ dx, H1 dx = none → dx ≠ a → K2 .non (upd (upd (upd H1 a (exo a C none)) dx (exd dx [(fl, v)])) a (exo a C (some dx)))) :
    spFI C fl (.ref a :: ([v] ++ [])) (upd H1 a (exo a C none)) K2 (fun _ _ _ => False) := ⟨a, v, rfl, upd_same, fun dx h ne => k dx (by rw [upd_ne ne] at h; exact h) ne⟩
theorem exF {a dx : Addr} {H1 : Hp} {o1 o2 o3 o4 : HO} (ha : H1 a = none) (hd : H1 dx = none) : Ex H1 (upd (del (upd (upd (upd H1 a o1) dx o2) a o3) a) dx o4) := fun b o h => by
  have n1 : b ≠ a := fun e => by rw [e, ha] at h; cases h
  have n2 : b ≠ dx := fun e => by rw [e, hd] at h; cases h
  rw [upd_ne n2, del_ne n1, upd_ne n1, upd_ne n2, upd_ne n1]
  exact h
/-- the field of the errors, in the law's order -/
def flE : Nat → Str
  | 0 => "place"
  | 1 => "at"
  | 2 => "index"
  | 3 => "index"
  | 4 => "number"
  | 5 => "index"
  | 6 => "index"
  | 7 => "index"
  | 8 => "most"
  | 9 => "limit"
  | 10 => "deed"
  | 11 => "many"
  | _ => ""
/-- what an error of kind k keeps -/
def ErrAt (H : Hp) (k : Nat) (v : V) (d : Option Addr) : Prop := (k < 12 ∧ ∃ dd, d = some dd ∧ H dd = some (.xd [(flE k, v)])) ∨ (12 ≤ k ∧ d = none)
structure Errs (P : Program) (w : World) (K : PySem.W.Frag) (mg : Str → Option Value) (base : Heap) (cl : Nat → Addr) (PE_ : Addr) : Prop where
  e0 : ErrF P w K mg base "Wrong" "place" (cl 0)
  e1 : ErrF P w K mg base "NoRow" "at" (cl 1)
  e2 : ErrF P w K mg base "BadStep" "index" (cl 2)
  e3 : ErrF P w K mg base "NoStep" "index" (cl 3)
  e4 : ErrF P w K mg base "NotPicked" "number" (cl 4)
  e5 : ErrF P w K mg base "Stopped" "index" (cl 5)
  e6 : ErrF P w K mg base "BadEdit" "index" (cl 6)
  e7 : ErrF P w K mg base "HasPlace" "index" (cl 7)
  e8 : ErrF P w K mg base "TooMany" "most" (cl 8)
  e9 : ErrF P w K mg base "Full" "limit" (cl 9)
  e10 : ErrF P w K mg base "Refused" "deed" (cl 10)
  e11 : ErrF P w K mg base "NoEntry" "many" (cl 11)
  e12 : Err0 K mg "Stuck" (cl 12)
  e13 : Err0 K mg "Closed" (cl 13)
  e14 : Err0 K mg "Unlike" (cl 14)
  e15 : Err0 K mg "Nothing" (cl 15)
  e16 : Err0 K mg "NoDeed" (cl 16)
  e17 : Err0 K mg "NoText" (cl 17)
  e18 : Err0 K mg "NoCommand" (cl 18)
  gP : mg "PickError" = some (.ref PE_)
  xc : ∀ k, k < 19 → ExcC K (cl k)
  no : ∀ k, k < 12 → PySem.W.findIn K (.ref (cl k)) (flE k) = some none
  kit : ∀ i j, i < 19 → j < 19 → PySem.W.kitOne K (.ref (cl i)) (.ref (cl j)) = some (decide (i = j))
  ve : ∀ i, i < 19 → PySem.W.kitOne K (.ref (cl i)) (.type "ValueError") = some true
  em : ∀ i, i < 19 → PySem.W.exmOne K (.ref (cl i)) (.ref PE_) = some true
abbrev s_l_raised : Stmt := top 26
theorem sc_l_raised : FnScope ["_law_kind", "_law_thing"] ["_law_kind", "_law_thing"] (defScope s_l_raised) := ⟨rfl, rfl, rfl, by decide +kernel, rfl, by decide +kernel, by decide +kernel⟩
abbrev s_l_raised_too : Stmt := top 27
theorem sc_l_raised_too : FnScope ["_law_kind", "_law_thing"] ["_law_kind", "_law_thing"] (defScope s_l_raised_too) := ⟨rfl, rfl, rfl, by decide +kernel, rfl, by decide +kernel, by decide +kernel⟩
section
variable {P : Program} {w : World} {K : PySem.W.Frag} {mg : Str → Option Value} {base : Heap} {cl : Nat → Addr} {PE_ : Addr}
/-- an error of a kind between lo and hi is raised -/
def spRaised (cl : Nat → Addr) (lo hi : Nat) : Sp := fun vs H Q E => ∃ (k : Nat) (v : V), vs = [.int (k : Int), v] ∧ lo ≤ k ∧ k < hi ∧ ∀ H' d, Ex H H' → ErrAt H' k v d → E (.ref (cl k)) d H'
theorem boomF {C : Addr} {fl : Str} {H : Hp} {v : V} {i : Nat} {σ : L2.St} {E : XK} {Q : Ends} (hv : σ[1]? = some (some v)) (q : ∀ H' dd, Ex H H' → H' dd = some (.xd [(fl, v)]) → E (.ref C) (some dd) H') :
    tRF C fl (fun cls d _ H => E cls d H) (tCons (tVar 1) tNil) Q σ H := by
  refine ⟨_, hv, ?_⟩
  refine ⟨by show 1 ≤ 1000; decide, fun a0 ha0 => mkF fun dx n1 n2 => ⟨rfl, dx, _, upd_same, by rw [upd_ne n2, upd_same], n1, ?_⟩⟩
  exact q _ dx (exF ha0 n1) upd_same
theorem int_eqN (n m : Nat) : decide (V.int (n : Int) = V.int (m : Int)) = decide (n = m) := by
  by_cases h : n = m
  · rw [h, decide_eq_true rfl, decide_eq_true rfl]
  · rw [decide_eq_false h, decide_eq_false (fun z => h (by have z2 : (n : Int) = (m : Int) := V.int.inj z; omega))]
theorem ok_raised (ES : Errs P w K mg base cl PE_) (D : Df K mg "_law_raised" s_l_raised) : CalN P w K mg base 3 "_law_raised" (spRaised cl 0 10) := by
  refine cal_mkN D sc_l_raised (fun _ _ _ _ _ _ us hl => match us, hl with | [_, _], _ => rfl) (fun vs H Q E h => ?_) (fun f cdv A outer s H vs Q E hr hG h => ?_)
  · obtain ⟨k, v, rfl, _⟩ := h
    rfl
  · obtain ⟨k, v, rfl, h1, h2, q⟩ := h
    refine ⟨_, (pss_cons (ps_if (pt_cmpR (opEq hr) (pv 0) pe_int (nomark _)) (pss_one (ps_raiseF rfl ES.e0 hr (by decide) (L2N.takes_of rfl rfl rfl rfl) rfl (pa_cons (pv 1) pa_nil))) pss_nil)
      (pss_cons (ps_if (pt_cmpR (opEq hr) (pv 0) pe_int (nomark _)) (pss_one (ps_raiseF rfl ES.e1 hr (by decide) (L2N.takes_of rfl rfl rfl rfl) rfl (pa_cons (pv 1) pa_nil))) pss_nil)
      (pss_cons (ps_if (pt_cmpR (opEq hr) (pv 0) pe_int (nomark _)) (pss_one (ps_raiseF rfl ES.e2 hr (by decide) (L2N.takes_of rfl rfl rfl rfl) rfl (pa_cons (pv 1) pa_nil))) pss_nil)
      (pss_cons (ps_if (pt_cmpR (opEq hr) (pv 0) pe_int (nomark _)) (pss_one (ps_raiseF rfl ES.e3 hr (by decide) (L2N.takes_of rfl rfl rfl rfl) rfl (pa_cons (pv 1) pa_nil))) pss_nil)
      (pss_cons (ps_if (pt_cmpR (opEq hr) (pv 0) pe_int (nomark _)) (pss_one (ps_raiseF rfl ES.e4 hr (by decide) (L2N.takes_of rfl rfl rfl rfl) rfl (pa_cons (pv 1) pa_nil))) pss_nil)
      (pss_cons (ps_if (pt_cmpR (opEq hr) (pv 0) pe_int (nomark _)) (pss_one (ps_raiseF rfl ES.e5 hr (by decide) (L2N.takes_of rfl rfl rfl rfl) rfl (pa_cons (pv 1) pa_nil))) pss_nil)
      (pss_cons (ps_if (pt_cmpR (opEq hr) (pv 0) pe_int (nomark _)) (pss_one (ps_raiseF rfl ES.e6 hr (by decide) (L2N.takes_of rfl rfl rfl rfl) rfl (pa_cons (pv 1) pa_nil))) pss_nil)
      (pss_cons (ps_if (pt_cmpR (opEq hr) (pv 0) pe_int (nomark _)) (pss_one (ps_raiseF rfl ES.e7 hr (by decide) (L2N.takes_of rfl rfl rfl rfl) rfl (pa_cons (pv 1) pa_nil))) pss_nil)
      (pss_cons (ps_if (pt_cmpR (opEq hr) (pv 0) pe_int (nomark _)) (pss_one (ps_raiseF rfl ES.e8 hr (by decide) (L2N.takes_of rfl rfl rfl rfl) rfl (pa_cons (pv 1) pa_nil))) pss_nil)
      (pss_one (ps_raiseF rfl ES.e9 hr (by decide) (L2N.takes_of rfl rfl rfl rfl) rfl (pa_cons (pv 1) pa_nil)))))))))))), ?_⟩
    refine ⟨_, rfl, .inl ⟨rfl, _, rfl, ?_⟩⟩
    rw [show decide (V.int (k : Int) = V.int 0) = decide (k = 0) from int_eqN k 0]
    by_cases c0 : k = 0
    · subst c0
      refine iteT ?_
      exact boomF (i := 0) (Q := { nx := fun _ H' => Q .non H', rt := Q }) rfl fun H' dd e h => q H' (some dd) e (.inl ⟨by decide, dd, rfl, h⟩)
    rw [decide_eq_false c0]
    refine iteF ?_
    refine ⟨_, rfl, .inl ⟨rfl, _, rfl, ?_⟩⟩
    rw [show decide (V.int (k : Int) = V.int 1) = decide (k = 1) from int_eqN k 1]
    by_cases c1 : k = 1
    · subst c1
      refine iteT ?_
      exact boomF (i := 1) (Q := { nx := fun _ H' => Q .non H', rt := Q }) rfl fun H' dd e h => q H' (some dd) e (.inl ⟨by decide, dd, rfl, h⟩)
    rw [decide_eq_false c1]
    refine iteF ?_
    refine ⟨_, rfl, .inl ⟨rfl, _, rfl, ?_⟩⟩
    rw [show decide (V.int (k : Int) = V.int 2) = decide (k = 2) from int_eqN k 2]
    by_cases c2 : k = 2
    · subst c2
      refine iteT ?_
      exact boomF (i := 2) (Q := { nx := fun _ H' => Q .non H', rt := Q }) rfl fun H' dd e h => q H' (some dd) e (.inl ⟨by decide, dd, rfl, h⟩)
    rw [decide_eq_false c2]
    refine iteF ?_
    refine ⟨_, rfl, .inl ⟨rfl, _, rfl, ?_⟩⟩
    rw [show decide (V.int (k : Int) = V.int 3) = decide (k = 3) from int_eqN k 3]
    by_cases c3 : k = 3
    · subst c3
      refine iteT ?_
      exact boomF (i := 3) (Q := { nx := fun _ H' => Q .non H', rt := Q }) rfl fun H' dd e h => q H' (some dd) e (.inl ⟨by decide, dd, rfl, h⟩)
    rw [decide_eq_false c3]
    refine iteF ?_
    refine ⟨_, rfl, .inl ⟨rfl, _, rfl, ?_⟩⟩
    rw [show decide (V.int (k : Int) = V.int 4) = decide (k = 4) from int_eqN k 4]
    by_cases c4 : k = 4
    · subst c4
      refine iteT ?_
      exact boomF (i := 4) (Q := { nx := fun _ H' => Q .non H', rt := Q }) rfl fun H' dd e h => q H' (some dd) e (.inl ⟨by decide, dd, rfl, h⟩)
    rw [decide_eq_false c4]
    refine iteF ?_
    refine ⟨_, rfl, .inl ⟨rfl, _, rfl, ?_⟩⟩
    rw [show decide (V.int (k : Int) = V.int 5) = decide (k = 5) from int_eqN k 5]
    by_cases c5 : k = 5
    · subst c5
      refine iteT ?_
      exact boomF (i := 5) (Q := { nx := fun _ H' => Q .non H', rt := Q }) rfl fun H' dd e h => q H' (some dd) e (.inl ⟨by decide, dd, rfl, h⟩)
    rw [decide_eq_false c5]
    refine iteF ?_
    refine ⟨_, rfl, .inl ⟨rfl, _, rfl, ?_⟩⟩
    rw [show decide (V.int (k : Int) = V.int 6) = decide (k = 6) from int_eqN k 6]
    by_cases c6 : k = 6
    · subst c6
      refine iteT ?_
      exact boomF (i := 6) (Q := { nx := fun _ H' => Q .non H', rt := Q }) rfl fun H' dd e h => q H' (some dd) e (.inl ⟨by decide, dd, rfl, h⟩)
    rw [decide_eq_false c6]
    refine iteF ?_
    refine ⟨_, rfl, .inl ⟨rfl, _, rfl, ?_⟩⟩
    rw [show decide (V.int (k : Int) = V.int 7) = decide (k = 7) from int_eqN k 7]
    by_cases c7 : k = 7
    · subst c7
      refine iteT ?_
      exact boomF (i := 7) (Q := { nx := fun _ H' => Q .non H', rt := Q }) rfl fun H' dd e h => q H' (some dd) e (.inl ⟨by decide, dd, rfl, h⟩)
    rw [decide_eq_false c7]
    refine iteF ?_
    refine ⟨_, rfl, .inl ⟨rfl, _, rfl, ?_⟩⟩
    rw [show decide (V.int (k : Int) = V.int 8) = decide (k = 8) from int_eqN k 8]
    by_cases c8 : k = 8
    · subst c8
      refine iteT ?_
      exact boomF (i := 8) (Q := { nx := fun _ H' => Q .non H', rt := Q }) rfl fun H' dd e h => q H' (some dd) e (.inl ⟨by decide, dd, rfl, h⟩)
    rw [decide_eq_false c8]
    refine iteF ?_
    have ck : k = 9 := by omega
    subst ck
    exact boomF (i := 9) (Q := { nx := fun _ H' => Q .non H', rt := Q }) rfl fun H' dd e h => q H' (some dd) e (.inl ⟨by decide, dd, rfl, h⟩)
theorem ok_raised_too (ES : Errs P w K mg base cl PE_) (D : Df K mg "_law_raised_too" s_l_raised_too) : CalN P w K mg base 3 "_law_raised_too" (spRaised cl 10 19) := by
  refine cal_mkN D sc_l_raised_too (fun _ _ _ _ _ _ us hl => match us, hl with | [_, _], _ => rfl) (fun vs H Q E h => ?_) (fun f cdv A outer s H vs Q E hr hG h => ?_)
  · obtain ⟨k, v, rfl, _⟩ := h
    rfl
  · obtain ⟨k, v, rfl, h1, h2, q⟩ := h
    refine ⟨_, (pss_cons (ps_if (pt_cmpR (opEq hr) (pv 0) pe_int (nomark _)) (pss_one (ps_raiseF rfl ES.e10 hr (by decide) (L2N.takes_of rfl rfl rfl rfl) rfl (pa_cons (pv 1) pa_nil))) pss_nil)
      (pss_cons (ps_if (pt_cmpR (opEq hr) (pv 0) pe_int (nomark _)) (pss_one (ps_raiseF rfl ES.e11 hr (by decide) (L2N.takes_of rfl rfl rfl rfl) rfl (pa_cons (pv 1) pa_nil))) pss_nil)
      (pss_cons (ps_if (pt_cmpR (opEq hr) (pv 0) pe_int (nomark _)) (pss_one (ps_raise0 rfl ES.e12 (L2N.takes_of rfl rfl rfl rfl) rfl)) pss_nil)
      (pss_cons (ps_if (pt_cmpR (opEq hr) (pv 0) pe_int (nomark _)) (pss_one (ps_raise0 rfl ES.e13 (L2N.takes_of rfl rfl rfl rfl) rfl)) pss_nil)
      (pss_cons (ps_if (pt_cmpR (opEq hr) (pv 0) pe_int (nomark _)) (pss_one (ps_raise0 rfl ES.e14 (L2N.takes_of rfl rfl rfl rfl) rfl)) pss_nil)
      (pss_cons (ps_if (pt_cmpR (opEq hr) (pv 0) pe_int (nomark _)) (pss_one (ps_raise0 rfl ES.e15 (L2N.takes_of rfl rfl rfl rfl) rfl)) pss_nil)
      (pss_cons (ps_if (pt_cmpR (opEq hr) (pv 0) pe_int (nomark _)) (pss_one (ps_raise0 rfl ES.e16 (L2N.takes_of rfl rfl rfl rfl) rfl)) pss_nil)
      (pss_cons (ps_if (pt_cmpR (opEq hr) (pv 0) pe_int (nomark _)) (pss_one (ps_raise0 rfl ES.e17 (L2N.takes_of rfl rfl rfl rfl) rfl)) pss_nil)
      (pss_one (ps_raise0 rfl ES.e18 (L2N.takes_of rfl rfl rfl rfl) rfl)))))))))), ?_⟩
    refine ⟨_, rfl, .inl ⟨rfl, _, rfl, ?_⟩⟩
    rw [show decide (V.int (k : Int) = V.int 10) = decide (k = 10) from int_eqN k 10]
    by_cases c10 : k = 10
    · subst c10
      refine iteT ?_
      exact boomF (i := 10) (Q := { nx := fun _ H' => Q .non H', rt := Q }) rfl fun H' dd e h => q H' (some dd) e (.inl ⟨by decide, dd, rfl, h⟩)
    rw [decide_eq_false c10]
    refine iteF ?_
    refine ⟨_, rfl, .inl ⟨rfl, _, rfl, ?_⟩⟩
    rw [show decide (V.int (k : Int) = V.int 11) = decide (k = 11) from int_eqN k 11]
    by_cases c11 : k = 11
    · subst c11
      refine iteT ?_
      exact boomF (i := 11) (Q := { nx := fun _ H' => Q .non H', rt := Q }) rfl fun H' dd e h => q H' (some dd) e (.inl ⟨by decide, dd, rfl, h⟩)
    rw [decide_eq_false c11]
    refine iteF ?_
    refine ⟨_, rfl, .inl ⟨rfl, _, rfl, ?_⟩⟩
    rw [show decide (V.int (k : Int) = V.int 12) = decide (k = 12) from int_eqN k 12]
    by_cases c12 : k = 12
    · subst c12
      refine iteT ?_
      exact q H none (Ex.refl _) (.inr ⟨by decide, rfl⟩)
    rw [decide_eq_false c12]
    refine iteF ?_
    refine ⟨_, rfl, .inl ⟨rfl, _, rfl, ?_⟩⟩
    rw [show decide (V.int (k : Int) = V.int 13) = decide (k = 13) from int_eqN k 13]
    by_cases c13 : k = 13
    · subst c13
      refine iteT ?_
      exact q H none (Ex.refl _) (.inr ⟨by decide, rfl⟩)
    rw [decide_eq_false c13]
    refine iteF ?_
    refine ⟨_, rfl, .inl ⟨rfl, _, rfl, ?_⟩⟩
    rw [show decide (V.int (k : Int) = V.int 14) = decide (k = 14) from int_eqN k 14]
    by_cases c14 : k = 14
    · subst c14
      refine iteT ?_
      exact q H none (Ex.refl _) (.inr ⟨by decide, rfl⟩)
    rw [decide_eq_false c14]
    refine iteF ?_
    refine ⟨_, rfl, .inl ⟨rfl, _, rfl, ?_⟩⟩
    rw [show decide (V.int (k : Int) = V.int 15) = decide (k = 15) from int_eqN k 15]
    by_cases c15 : k = 15
    · subst c15
      refine iteT ?_
      exact q H none (Ex.refl _) (.inr ⟨by decide, rfl⟩)
    rw [decide_eq_false c15]
    refine iteF ?_
    refine ⟨_, rfl, .inl ⟨rfl, _, rfl, ?_⟩⟩
    rw [show decide (V.int (k : Int) = V.int 16) = decide (k = 16) from int_eqN k 16]
    by_cases c16 : k = 16
    · subst c16
      refine iteT ?_
      exact q H none (Ex.refl _) (.inr ⟨by decide, rfl⟩)
    rw [decide_eq_false c16]
    refine iteF ?_
    refine ⟨_, rfl, .inl ⟨rfl, _, rfl, ?_⟩⟩
    rw [show decide (V.int (k : Int) = V.int 17) = decide (k = 17) from int_eqN k 17]
    by_cases c17 : k = 17
    · subst c17
      refine iteT ?_
      exact q H none (Ex.refl _) (.inr ⟨by decide, rfl⟩)
    rw [decide_eq_false c17]
    refine iteF ?_
    have ck : k = 18 := by omega
    subst ck
    exact q H none (Ex.refl _) (.inr ⟨by decide, rfl⟩)
end
end Own

namespace Own
open PySem PySem.Spec PyProof.Rows L2 Evl
open L2H
abbrev s_l_flags : Stmt := top 28
theorem sc_l_flags : FnScope ["_law_e", "_law_found"] ["_law_e"] (defScope s_l_flags) := ⟨rfl, rfl, rfl, by decide +kernel, rfl, by decide +kernel, by decide +kernel⟩
abbrev s_l_field : Stmt := top 29
theorem sc_l_field : FnScope ["_law_kind", "_law_e"] ["_law_kind", "_law_e"] (defScope s_l_field) := ⟨rfl, rfl, rfl, by decide +kernel, rfl, by decide +kernel, by decide +kernel⟩
theorem iteTb {b : Bool} {p q : Prop} (h : b = true) (x : p) : if b = true then p else q := by rw [if_pos h]; exact x
theorem iteFb {b : Bool} {p q : Prop} (h : b = false) (x : q) : if b = true then p else q := by rw [if_neg (by rw [h]; decide)]; exact x
theorem ErAt.ex {H H' : Hp} {k : Nat} {v : V} {d : Option Addr} (e : Ex H H') (h : ErrAt H k v d) : ErrAt H' k v d := by
  rcases h with ⟨h1, dd, h2, h3⟩ | h
  · exact .inl ⟨h1, dd, h2, e _ _ h3⟩
  · exact .inr h
theorem ErAt.erd {H : Hp} {k : Nat} {v : V} {d : Option Addr} (h : ErrAt H k v d) : ErD H d := by
  rcases h with ⟨_, dd, h2, h3⟩ | h
  · exact .inr ⟨dd, _, h2, h3⟩
  · exact .inl h.2
def flagV (k j : Nat) : V := .bl (decide (k = j))
def flagsV (k : Nat) : List V := (List.range 19).map (flagV k)
theorem opEqH {X : Cx} {k : Nat} (hr : RoomH k X.A) : OpR X (compareOp .Eq) (rEqA X.K) := OpR.or op_eq (op_eqD (by have := hr.un; omega))
/-- e.n, e the error in hand -/
def tXfQ (K : PySem.W.Frag) (ob : Addr × Obj) (n : Str) (te : TE) : TE := fun σ H Q => te σ H fun x H1 => x = .ref ob.1 ∧ ∃ (D dd : Addr) (fs : List (Str × V)) (v : V), ErO ob D (some dd) ∧ ExcC K D ∧ PySem.W.findIn K (.ref D) n = some none ∧ H1 dd = some (.xd fs) ∧ fs.lookup n = some v ∧ Q v H1
theorem pe_xfQ {X : Cx} {ob : Addr × Obj} {e : Expr} {te : TE} {pos : Pos} {n : Str} (hob : ob ∈ X.pn) (he : PE X e te)
    (hb : attributeBase e n X.env (eval e X.env) = eval e X.env := by rfl) : PE X (.Attribute e n pos) (tXfQ X.K ob n te) := by
  refine ⟨fun pk s τ H Q I h => ?_⟩
  refine attr_of hb (thn (he.run pk s τ H _ I h) fun u sA hh => ?_)
  obtain ⟨x, HA, IA, rx, ex, D, dd, fs, v, O, C, hno, ea, l, q⟩ := hh
  subst ex
  obtain rfl : u = Value.ref ob.1 := rx
  obtain ⟨hget, _⟩ := IA.pin ob (List.mem_append_left _ hob)
  obtain ⟨h1, h2, vs, h3⟩ := O
  have hx : ObjOk X.prog X.w HA sA.heap dd (.xd fs) := IA.hok dd _ ea
  obtain ⟨mA, hns, hr⟩ := hx
  obtain ⟨od, ho, hl⟩ := lookIn_ns hns
  obtain ⟨u, hu, ru⟩ := RelO.some_of (v := v) (o := mA n) (by rw [← l]; exact hr n)
  have J : PySem.W.InstAt sA.heap ob.1 ob.2 D (some od) := ⟨hget, h1, by unfold PySem.W.notCls; rw [h3] <;> rfl, by rw [h2]; exact ho⟩
  exact HandSPX.exc_get IA.kIn J C.hg C.hk C.hs (PySem.W.findObj_own C.hd hno rfl (by rw [hl, hu])) (handed_of ru) ⟨v, HA, IA.tok _, ru, q⟩
section
variable {P : Program} {w : World} {K : PySem.W.Frag} {mg : Str → Option Value} {base : Heap} {cl : Nat → Addr} {PE_ : Addr}
def spFlags (cl : Nat → Addr) : SpP := fun ob vs H Q _ => ∃ (k : Nat) (v : V) (d : Option Addr), vs = [.ref ob.1] ∧ k < 19 ∧ ErO ob (cl k) d ∧ ErrAt H k v d ∧ ∀ H' L, Ex H H' → H' L = some (.lst (flagsV k)) → Q (.ref L) H'
theorem ok_flags (ES : Errs P w K mg base cl PE_) (TI : mg "isinstance" = none) (D : Df K mg "_law_flags" s_l_flags) : CalP P w K mg base 1 "_law_flags" (spFlags cl) := by
  refine cal_mkP D sc_l_flags (fun _ _ _ _ _ _ us hl => match us, hl with | [_], _ => rfl) (fun ob vs H Q E h => ?_) (fun f cdv A outer s H vs Q E ob hot hr h => ?_)
  · obtain ⟨k, v, d, rfl, _⟩ := h
    rfl
  · obtain ⟨k, v, d, rfl, hk, O, hE, q⟩ := h
    have hob : ob ∈ [ob] := List.mem_cons_self
    refine ⟨_, (pss_cons (ps_set (i := 1) sc_l_flags.nd rfl (Or.inl rfl) (pe_lst (pa_cons (pe_callB (call_isP (ES.xc k hk) hob O) (by rfl) TI (by decide +kernel) (pa_cons (pv 0) (pa_cons (pe_glob (v := .ref (cl 0)) rfl ES.e0.at_ rfl) pa_nil))) (pa_cons (pe_callB (call_isP (ES.xc k hk) hob O) (by rfl) TI (by decide +kernel) (pa_cons (pv 0) (pa_cons (pe_glob (v := .ref (cl 1)) rfl ES.e1.at_ rfl) pa_nil))) (pa_cons (pe_callB (call_isP (ES.xc k hk) hob O) (by rfl) TI (by decide +kernel) (pa_cons (pv 0) (pa_cons (pe_glob (v := .ref (cl 2)) rfl ES.e2.at_ rfl) pa_nil))) (pa_cons (pe_callB (call_isP (ES.xc k hk) hob O) (by rfl) TI (by decide +kernel) (pa_cons (pv 0) (pa_cons (pe_glob (v := .ref (cl 3)) rfl ES.e3.at_ rfl) pa_nil))) pa_nil))))))
      (pss_cons (ps_expr (pe_bm PySem.F.plainAttrs_list PySem.F.slot_list_extend PySem.F.type_list_extend mt_extend (pv 1) (pa_cons (pe_lst (pa_cons (pe_callB (call_isP (ES.xc k hk) hob O) (by rfl) TI (by decide +kernel) (pa_cons (pv 0) (pa_cons (pe_glob (v := .ref (cl 4)) rfl ES.e4.at_ rfl) pa_nil))) (pa_cons (pe_callB (call_isP (ES.xc k hk) hob O) (by rfl) TI (by decide +kernel) (pa_cons (pv 0) (pa_cons (pe_glob (v := .ref (cl 5)) rfl ES.e5.at_ rfl) pa_nil))) (pa_cons (pe_callB (call_isP (ES.xc k hk) hob O) (by rfl) TI (by decide +kernel) (pa_cons (pv 0) (pa_cons (pe_glob (v := .ref (cl 6)) rfl ES.e6.at_ rfl) pa_nil))) (pa_cons (pe_callB (call_isP (ES.xc k hk) hob O) (by rfl) TI (by decide +kernel) (pa_cons (pv 0) (pa_cons (pe_glob (v := .ref (cl 7)) rfl ES.e7.at_ rfl) pa_nil))) pa_nil))))) pa_nil)))
      (pss_cons (ps_expr (pe_bm PySem.F.plainAttrs_list PySem.F.slot_list_extend PySem.F.type_list_extend mt_extend (pv 1) (pa_cons (pe_lst (pa_cons (pe_callB (call_isP (ES.xc k hk) hob O) (by rfl) TI (by decide +kernel) (pa_cons (pv 0) (pa_cons (pe_glob (v := .ref (cl 8)) rfl ES.e8.at_ rfl) pa_nil))) (pa_cons (pe_callB (call_isP (ES.xc k hk) hob O) (by rfl) TI (by decide +kernel) (pa_cons (pv 0) (pa_cons (pe_glob (v := .ref (cl 9)) rfl ES.e9.at_ rfl) pa_nil))) (pa_cons (pe_callB (call_isP (ES.xc k hk) hob O) (by rfl) TI (by decide +kernel) (pa_cons (pv 0) (pa_cons (pe_glob (v := .ref (cl 10)) rfl ES.e10.at_ rfl) pa_nil))) (pa_cons (pe_callB (call_isP (ES.xc k hk) hob O) (by rfl) TI (by decide +kernel) (pa_cons (pv 0) (pa_cons (pe_glob (v := .ref (cl 11)) rfl ES.e11.at_ rfl) pa_nil))) pa_nil))))) pa_nil)))
      (pss_cons (ps_expr (pe_bm PySem.F.plainAttrs_list PySem.F.slot_list_extend PySem.F.type_list_extend mt_extend (pv 1) (pa_cons (pe_lst (pa_cons (pe_callB (call_isP (ES.xc k hk) hob O) (by rfl) TI (by decide +kernel) (pa_cons (pv 0) (pa_cons (pe_glob (v := .ref (cl 12)) rfl ES.e12.at_ rfl) pa_nil))) (pa_cons (pe_callB (call_isP (ES.xc k hk) hob O) (by rfl) TI (by decide +kernel) (pa_cons (pv 0) (pa_cons (pe_glob (v := .ref (cl 13)) rfl ES.e13.at_ rfl) pa_nil))) (pa_cons (pe_callB (call_isP (ES.xc k hk) hob O) (by rfl) TI (by decide +kernel) (pa_cons (pv 0) (pa_cons (pe_glob (v := .ref (cl 14)) rfl ES.e14.at_ rfl) pa_nil))) (pa_cons (pe_callB (call_isP (ES.xc k hk) hob O) (by rfl) TI (by decide +kernel) (pa_cons (pv 0) (pa_cons (pe_glob (v := .ref (cl 15)) rfl ES.e15.at_ rfl) pa_nil))) pa_nil))))) pa_nil)))
      (pss_one (ps_ret (pe_op opAdd (pv 1) (pe_lst (pa_cons (pe_callB (call_isP (ES.xc k hk) hob O) (by rfl) TI (by decide +kernel) (pa_cons (pv 0) (pa_cons (pe_glob (v := .ref (cl 16)) rfl ES.e16.at_ rfl) pa_nil))) (pa_cons (pe_callB (call_isP (ES.xc k hk) hob O) (by rfl) TI (by decide +kernel) (pa_cons (pv 0) (pa_cons (pe_glob (v := .ref (cl 17)) rfl ES.e17.at_ rfl) pa_nil))) (pa_cons (pe_callB (call_isP (ES.xc k hk) hob O) (by rfl) TI (by decide +kernel) (pa_cons (pv 0) (pa_cons (pe_glob (v := .ref (cl 18)) rfl ES.e18.at_ rfl) pa_nil))) pa_nil))))))))))), ?_⟩
    refine ⟨_, rfl, ErAt.erd hE, .ref (cl 0), .ref (cl 0), _, rfl, fun u r => r, ES.kit k 0 hk (by decide), ?_⟩
    refine ⟨_, rfl, ErAt.erd hE, .ref (cl 1), .ref (cl 1), _, rfl, fun u r => r, ES.kit k 1 hk (by decide), ?_⟩
    refine ⟨_, rfl, ErAt.erd hE, .ref (cl 2), .ref (cl 2), _, rfl, fun u r => r, ES.kit k 2 hk (by decide), ?_⟩
    refine ⟨_, rfl, ErAt.erd hE, .ref (cl 3), .ref (cl 3), _, rfl, fun u r => r, ES.kit k 3 hk (by decide), ?_⟩
    refine ⟨by show 4 ≤ sizeLine; decide, fun L nL => ?_⟩
    generalize hq1 : upd H L _ = H1
    obtain ⟨e1, h1⟩ := gen1 hq1 nL
    have E1 := ErAt.ex e1 hE
    refine ⟨_, rfl, .inl ⟨rfl, _, sq_of h1⟩, ?_⟩
    refine ⟨_, rfl, ErAt.erd E1, .ref (cl 4), .ref (cl 4), _, rfl, fun u r => r, ES.kit k 4 hk (by decide), ?_⟩
    refine ⟨_, rfl, ErAt.erd E1, .ref (cl 5), .ref (cl 5), _, rfl, fun u r => r, ES.kit k 5 hk (by decide), ?_⟩
    refine ⟨_, rfl, ErAt.erd E1, .ref (cl 6), .ref (cl 6), _, rfl, fun u r => r, ES.kit k 6 hk (by decide), ?_⟩
    refine ⟨_, rfl, ErAt.erd E1, .ref (cl 7), .ref (cl 7), _, rfl, fun u r => r, ES.kit k 7 hk (by decide), ?_⟩
    refine ⟨by show 4 ≤ sizeLine; decide, fun b2 n2 => ?_⟩
    generalize hp2 : upd H1 b2 _ = G2
    obtain ⟨g2, k2⟩ := gen1 hp2 n2
    refine ⟨L, b2, _, _, rfl, rfl, g2 _ _ h1, k2, by show 4 + 4 ≤ sizeLine; decide, ?_⟩
    generalize hq2 : upd G2 L _ = H2
    have e2 : Ex H H2 := by rw [← hq2]; exact Ex.mut (e1.trans g2) nL
    have h2 := (congrFun hq2 L).symm.trans upd_same
    have E2 := ErAt.ex e2 hE
    refine ⟨_, rfl, .inl ⟨rfl, _, sq_of h2⟩, ?_⟩
    refine ⟨_, rfl, ErAt.erd E2, .ref (cl 8), .ref (cl 8), _, rfl, fun u r => r, ES.kit k 8 hk (by decide), ?_⟩
    refine ⟨_, rfl, ErAt.erd E2, .ref (cl 9), .ref (cl 9), _, rfl, fun u r => r, ES.kit k 9 hk (by decide), ?_⟩
    refine ⟨_, rfl, ErAt.erd E2, .ref (cl 10), .ref (cl 10), _, rfl, fun u r => r, ES.kit k 10 hk (by decide), ?_⟩
    refine ⟨_, rfl, ErAt.erd E2, .ref (cl 11), .ref (cl 11), _, rfl, fun u r => r, ES.kit k 11 hk (by decide), ?_⟩
    refine ⟨by show 4 ≤ sizeLine; decide, fun b3 n3 => ?_⟩
    generalize hp3 : upd H2 b3 _ = G3
    obtain ⟨g3, k3⟩ := gen1 hp3 n3
    refine ⟨L, b3, _, _, rfl, rfl, g3 _ _ h2, k3, by show 8 + 4 ≤ sizeLine; decide, ?_⟩
    generalize hq3 : upd G3 L _ = H3
    have e3 : Ex H H3 := by rw [← hq3]; exact Ex.mut (e2.trans g3) nL
    have h3 := (congrFun hq3 L).symm.trans upd_same
    have E3 := ErAt.ex e3 hE
    refine ⟨_, rfl, .inl ⟨rfl, _, sq_of h3⟩, ?_⟩
    refine ⟨_, rfl, ErAt.erd E3, .ref (cl 12), .ref (cl 12), _, rfl, fun u r => r, ES.kit k 12 hk (by decide), ?_⟩
    refine ⟨_, rfl, ErAt.erd E3, .ref (cl 13), .ref (cl 13), _, rfl, fun u r => r, ES.kit k 13 hk (by decide), ?_⟩
    refine ⟨_, rfl, ErAt.erd E3, .ref (cl 14), .ref (cl 14), _, rfl, fun u r => r, ES.kit k 14 hk (by decide), ?_⟩
    refine ⟨_, rfl, ErAt.erd E3, .ref (cl 15), .ref (cl 15), _, rfl, fun u r => r, ES.kit k 15 hk (by decide), ?_⟩
    refine ⟨by show 4 ≤ sizeLine; decide, fun b4 n4 => ?_⟩
    generalize hp4 : upd H3 b4 _ = G4
    obtain ⟨g4, k4⟩ := gen1 hp4 n4
    refine ⟨L, b4, _, _, rfl, rfl, g4 _ _ h3, k4, by show 12 + 4 ≤ sizeLine; decide, ?_⟩
    generalize hq4 : upd G4 L _ = H4
    have e4 : Ex H H4 := by rw [← hq4]; exact Ex.mut (e3.trans g4) nL
    have h4 := (congrFun hq4 L).symm.trans upd_same
    have E4 := ErAt.ex e4 hE
    refine ⟨_, rfl, ?_⟩
    refine ⟨_, rfl, ErAt.erd E4, .ref (cl 16), .ref (cl 16), _, rfl, fun u r => r, ES.kit k 16 hk (by decide), ?_⟩
    refine ⟨_, rfl, ErAt.erd E4, .ref (cl 17), .ref (cl 17), _, rfl, fun u r => r, ES.kit k 17 hk (by decide), ?_⟩
    refine ⟨_, rfl, ErAt.erd E4, .ref (cl 18), .ref (cl 18), _, rfl, fun u r => r, ES.kit k 18 hk (by decide), ?_⟩
    refine ⟨by show 3 ≤ sizeLine; decide, fun b5 n5 => ?_⟩
    generalize hp5 : upd H4 b5 _ = G5
    obtain ⟨g5, k5⟩ := gen1 hp5 n5
    refine .inr (.inr (.inl ⟨L, b5, _, _, rfl, rfl, g5 _ _ h4, k5, by show 16 + 3 ≤ sizeLine; decide, fun M nM => ?_⟩))
    exact q _ M ((e4.trans g5).trans (Ex.new nM)) upd_same
def spField (cl : Nat → Addr) : SpP := fun ob vs H Q _ => ∃ (k : Nat) (v : V) (d : Option Addr), vs = [.int (k : Int), .ref ob.1] ∧ k < 12 ∧ ErO ob (cl k) d ∧ ErrAt H k v d ∧ ∀ H', Ex H H' → Q v H'
theorem ok_field (ES : Errs P w K mg base cl PE_) (D : Df K mg "_law_field" s_l_field) : CalP P w K mg base 1 "_law_field" (spField cl) := by
  refine cal_mkP D sc_l_field (fun _ _ _ _ _ _ us hl => match us, hl with | [_, _], _ => rfl) (fun ob vs H Q E h => ?_) (fun f cdv A outer s H vs Q E ob hot hr h => ?_)
  · obtain ⟨k, v, d, rfl, _⟩ := h
    rfl
  · obtain ⟨k, v, d, rfl, hk, O, hE, q⟩ := h
    have hob : ob ∈ [ob] := List.mem_cons_self
    refine ⟨_, (pss_cons (ps_if (pt_cmpR (opEqH hr) (pv 0) pe_int (nomark _)) (pss_one (ps_ret (pe_xfQ hob (pv 1)))) pss_nil)
      (pss_cons (ps_if (pt_cmpR (opEqH hr) (pv 0) pe_int (nomark _)) (pss_one (ps_ret (pe_xfQ hob (pv 1)))) pss_nil)
      (pss_cons (ps_if (pt_cmpR opIn (pv 0) (pe_tup (pa_cons pe_int (pa_cons pe_int (pa_cons pe_int (pa_cons pe_int (pa_cons pe_int pa_nil)))))) rfl) (pss_one (ps_ret (pe_xfQ hob (pv 1)))) pss_nil)
      (pss_cons (ps_if (pt_cmpR (opEqH hr) (pv 0) pe_int (nomark _)) (pss_one (ps_ret (pe_xfQ hob (pv 1)))) pss_nil)
      (pss_cons (ps_if (pt_cmpR (opEqH hr) (pv 0) pe_int (nomark _)) (pss_one (ps_ret (pe_xfQ hob (pv 1)))) pss_nil)
      (pss_cons (ps_if (pt_cmpR (opEqH hr) (pv 0) pe_int (nomark _)) (pss_one (ps_ret (pe_xfQ hob (pv 1)))) pss_nil)
      (pss_one (ps_ret (pe_ifExp (pt_cmpR (opEqH hr) (pv 0) pe_int (nomark _)) (pe_xfQ hob (pv 1)) (pe_xfQ hob (pv 1))))))))))), ?_⟩
    obtain ⟨_, dd, rfl, hdd⟩ : k < 12 ∧ ∃ dd, d = some dd ∧ H dd = some (.xd [(flE k, v)]) := by
      rcases hE with h | h
      · exact h
      · omega
    have C := ES.xc k (by omega)
    have no := ES.no k hk
    have cases12 : k = 0 ∨ k = 1 ∨ k = 2 ∨ k = 3 ∨ k = 4 ∨ k = 5 ∨ k = 6 ∨ k = 7 ∨ k = 8 ∨ k = 9 ∨ k = 10 ∨ k = 11 := by omega
    rcases cases12 with rfl | rfl | rfl | rfl | rfl | rfl | rfl | rfl | rfl | rfl | rfl | rfl
    · refine ⟨_, rfl, .inl ⟨rfl, _, rfl, iteTb rfl ?_⟩⟩
      exact ⟨_, rfl, rfl, cl 0, dd, _, v, O, C, no, hdd, rfl, q _ (Ex.refl _)⟩
    · refine ⟨_, rfl, .inl ⟨rfl, _, rfl, iteFb rfl ?_⟩⟩
      refine ⟨_, rfl, .inl ⟨rfl, _, rfl, iteTb rfl ?_⟩⟩
      exact ⟨_, rfl, rfl, cl 1, dd, _, v, O, C, no, hdd, rfl, q _ (Ex.refl _)⟩
    · refine ⟨_, rfl, .inl ⟨rfl, _, rfl, iteFb rfl ?_⟩⟩
      refine ⟨_, rfl, .inl ⟨rfl, _, rfl, iteFb rfl ?_⟩⟩
      refine ⟨_, rfl, by show 5 ≤ sizeLine; decide, fun tp htp => .inl ⟨tp, _, rfl, .inr (st_of upd_same), rfl, rfl, _, rfl, iteTb rfl ?_⟩⟩
      exact ⟨_, rfl, rfl, cl 2, dd, _, v, O, C, no, (Ex.new htp) _ _ hdd, rfl, q _ (Ex.new htp)⟩
    · refine ⟨_, rfl, .inl ⟨rfl, _, rfl, iteFb rfl ?_⟩⟩
      refine ⟨_, rfl, .inl ⟨rfl, _, rfl, iteFb rfl ?_⟩⟩
      refine ⟨_, rfl, by show 5 ≤ sizeLine; decide, fun tp htp => .inl ⟨tp, _, rfl, .inr (st_of upd_same), rfl, rfl, _, rfl, iteTb rfl ?_⟩⟩
      exact ⟨_, rfl, rfl, cl 3, dd, _, v, O, C, no, (Ex.new htp) _ _ hdd, rfl, q _ (Ex.new htp)⟩
    · refine ⟨_, rfl, .inl ⟨rfl, _, rfl, iteFb rfl ?_⟩⟩
      refine ⟨_, rfl, .inl ⟨rfl, _, rfl, iteFb rfl ?_⟩⟩
      refine ⟨_, rfl, by show 5 ≤ sizeLine; decide, fun tp htp => .inl ⟨tp, _, rfl, .inr (st_of upd_same), rfl, rfl, _, rfl, iteFb rfl ?_⟩⟩
      refine ⟨_, rfl, .inl ⟨rfl, _, rfl, iteTb rfl ?_⟩⟩
      exact ⟨_, rfl, rfl, cl 4, dd, _, v, O, C, no, (Ex.new htp) _ _ hdd, rfl, q _ (Ex.new htp)⟩
    · refine ⟨_, rfl, .inl ⟨rfl, _, rfl, iteFb rfl ?_⟩⟩
      refine ⟨_, rfl, .inl ⟨rfl, _, rfl, iteFb rfl ?_⟩⟩
      refine ⟨_, rfl, by show 5 ≤ sizeLine; decide, fun tp htp => .inl ⟨tp, _, rfl, .inr (st_of upd_same), rfl, rfl, _, rfl, iteTb rfl ?_⟩⟩
      exact ⟨_, rfl, rfl, cl 5, dd, _, v, O, C, no, (Ex.new htp) _ _ hdd, rfl, q _ (Ex.new htp)⟩
    · refine ⟨_, rfl, .inl ⟨rfl, _, rfl, iteFb rfl ?_⟩⟩
      refine ⟨_, rfl, .inl ⟨rfl, _, rfl, iteFb rfl ?_⟩⟩
      refine ⟨_, rfl, by show 5 ≤ sizeLine; decide, fun tp htp => .inl ⟨tp, _, rfl, .inr (st_of upd_same), rfl, rfl, _, rfl, iteTb rfl ?_⟩⟩
      exact ⟨_, rfl, rfl, cl 6, dd, _, v, O, C, no, (Ex.new htp) _ _ hdd, rfl, q _ (Ex.new htp)⟩
    · refine ⟨_, rfl, .inl ⟨rfl, _, rfl, iteFb rfl ?_⟩⟩
      refine ⟨_, rfl, .inl ⟨rfl, _, rfl, iteFb rfl ?_⟩⟩
      refine ⟨_, rfl, by show 5 ≤ sizeLine; decide, fun tp htp => .inl ⟨tp, _, rfl, .inr (st_of upd_same), rfl, rfl, _, rfl, iteTb rfl ?_⟩⟩
      exact ⟨_, rfl, rfl, cl 7, dd, _, v, O, C, no, (Ex.new htp) _ _ hdd, rfl, q _ (Ex.new htp)⟩
    · refine ⟨_, rfl, .inl ⟨rfl, _, rfl, iteFb rfl ?_⟩⟩
      refine ⟨_, rfl, .inl ⟨rfl, _, rfl, iteFb rfl ?_⟩⟩
      refine ⟨_, rfl, by show 5 ≤ sizeLine; decide, fun tp htp => .inl ⟨tp, _, rfl, .inr (st_of upd_same), rfl, rfl, _, rfl, iteFb rfl ?_⟩⟩
      refine ⟨_, rfl, .inl ⟨rfl, _, rfl, iteFb rfl ?_⟩⟩
      refine ⟨_, rfl, .inl ⟨rfl, _, rfl, iteTb rfl ?_⟩⟩
      exact ⟨_, rfl, rfl, cl 8, dd, _, v, O, C, no, (Ex.new htp) _ _ hdd, rfl, q _ (Ex.new htp)⟩
    · refine ⟨_, rfl, .inl ⟨rfl, _, rfl, iteFb rfl ?_⟩⟩
      refine ⟨_, rfl, .inl ⟨rfl, _, rfl, iteFb rfl ?_⟩⟩
      refine ⟨_, rfl, by show 5 ≤ sizeLine; decide, fun tp htp => .inl ⟨tp, _, rfl, .inr (st_of upd_same), rfl, rfl, _, rfl, iteFb rfl ?_⟩⟩
      refine ⟨_, rfl, .inl ⟨rfl, _, rfl, iteFb rfl ?_⟩⟩
      refine ⟨_, rfl, .inl ⟨rfl, _, rfl, iteFb rfl ?_⟩⟩
      refine ⟨_, rfl, .inl ⟨rfl, _, rfl, iteTb rfl ?_⟩⟩
      exact ⟨_, rfl, rfl, cl 9, dd, _, v, O, C, no, (Ex.new htp) _ _ hdd, rfl, q _ (Ex.new htp)⟩
    · refine ⟨_, rfl, .inl ⟨rfl, _, rfl, iteFb rfl ?_⟩⟩
      refine ⟨_, rfl, .inl ⟨rfl, _, rfl, iteFb rfl ?_⟩⟩
      refine ⟨_, rfl, by show 5 ≤ sizeLine; decide, fun tp htp => .inl ⟨tp, _, rfl, .inr (st_of upd_same), rfl, rfl, _, rfl, iteFb rfl ?_⟩⟩
      refine ⟨_, rfl, .inl ⟨rfl, _, rfl, iteFb rfl ?_⟩⟩
      refine ⟨_, rfl, .inl ⟨rfl, _, rfl, iteFb rfl ?_⟩⟩
      refine ⟨_, rfl, .inl ⟨rfl, _, rfl, iteFb rfl ?_⟩⟩
      refine ⟨_, rfl, .inl ⟨rfl, _, rfl, iteTb rfl ?_⟩⟩
      exact ⟨_, rfl, rfl, cl 10, dd, _, v, O, C, no, (Ex.new htp) _ _ hdd, rfl, q _ (Ex.new htp)⟩
    · refine ⟨_, rfl, .inl ⟨rfl, _, rfl, iteFb rfl ?_⟩⟩
      refine ⟨_, rfl, .inl ⟨rfl, _, rfl, iteFb rfl ?_⟩⟩
      refine ⟨_, rfl, by show 5 ≤ sizeLine; decide, fun tp htp => .inl ⟨tp, _, rfl, .inr (st_of upd_same), rfl, rfl, _, rfl, iteFb rfl ?_⟩⟩
      refine ⟨_, rfl, .inl ⟨rfl, _, rfl, iteFb rfl ?_⟩⟩
      refine ⟨_, rfl, .inl ⟨rfl, _, rfl, iteFb rfl ?_⟩⟩
      refine ⟨_, rfl, .inl ⟨rfl, _, rfl, iteFb rfl ?_⟩⟩
      refine ⟨_, rfl, .inl ⟨rfl, _, rfl, iteFb rfl ?_⟩⟩
      exact ⟨_, rfl, rfl, cl 11, dd, _, v, O, C, no, (Ex.new htp) _ _ hdd, rfl, q _ (Ex.new htp)⟩
end
end Own

namespace Own
open PySem PySem.Spec PyProof.Rows L2 Evl
open L2H
abbrev s_l_right : Stmt := top 30
theorem sc_l_right : FnScope ["_law_kind", "_law_thing", "_law_held", "_law_e", "_law_at"] ["_law_kind", "_law_thing"] (defScope s_l_right) := ⟨rfl, rfl, rfl, by decide +kernel, rfl, by decide +kernel, by decide +kernel⟩
theorem pss_late {X : Cx} {body : List Stmt} {t : TS} (h : ∀ D σ H, t D σ H → ∃ t', PSs X body t' ∧ t' D σ H) : PSs X body t := by
  refine ⟨fun pk s σ H D I q => ?_⟩
  obtain ⟨t', ht, q'⟩ := h D σ H q
  exact ht.run pk s σ H D I q'
theorem opEqHB {X : Cx} {st : Shared} {G : Hp} {sco : Scope} {cen : Env} {fa : List Addr} {k : Nat} (hr : RoomH k X.A) : OpR (X.blk st G sco cen fa) (compareOp .Eq) (rEqA X.K) := opEqH (X := X.blk st G sco cen fa) hr
theorem opNeH {X : Cx} {k : Nat} (hr : RoomH k X.A) : OpR X (compareOp .NotEq) (rNeD X.K) := op_neD (by have := hr.un; omega)
theorem opEqSH {X : Cx} {k : Nat} (hr : RoomH k X.A) : OpR X (compareOp .Eq) (rEqS X.K) := op_eqS (by have := hr.un; omega)
def flagsD (k : Nat) : PyData := .list ((List.range 19).map fun j => .bool (decide (k = j)))
theorem flagsD_eq : ∀ k, k < 19 → (PyData.eqv (flagsD k) (flagsD k) = true ∧ SeqAt.shaped (flagsD k) = true) := by decide +kernel
theorem dp_flags {K : PySem.W.Frag} {H : Hp} (k : Nat) : ∀ js : List Nat, DpAll K H (js.map (flagV k)) (js.map fun j => PyData.bool (decide (k = j)))
  | [] => .nil
  | j :: js => .cons (.bl _) (dp_flags k js)
theorem ErAt.set {H : Hp} {k : Nat} {v : V} {d : Option Addr} {L : Addr} {xs : List V} {o : HO} (hL : H L = some (.lst xs)) (h : ErrAt H k v d) : ErrAt (upd H L o) k v d := by
  rcases h with ⟨h1, dd, h2, h3⟩ | h
  · refine .inl ⟨h1, dd, h2, ?_⟩
    rw [upd_ne (fun z => by rw [z, hL] at h3; cases h3)]
    exact h3
  · exact .inr h
/-- what the suite is given -/
def tsR (cl : Nat → Addr) (k : Nat) (v : V) (L : Addr) (a : Addr) (cls : Value) (d : Option Addr) : TS := fun D σ H =>
  cls = .ref (cl k) ∧ σ = [some (.int (k : Int)), some v, some (.ref L), some (.ref a), none] ∧ H L = some (.lst [v]) ∧ ErrAt H k (.ref L) d ∧ ∃ H0, H0 L = none ∧ Ex H0 H ∧ ∀ H', Ex H0 H' → D.rt (.bl true) H'
/-- what the try's body is given -/
def tbR (cl : Nat → Addr) (k : Nat) (v : V) (L : Addr) (Wx : WX) (σ : L2.St) (H : Hp) : Prop := σ = [some (.int (k : Int)), some v, some (.ref L), none, none] ∧ H L = some (.lst [v]) ∧ ∀ H' d, Ex H H' → ErrAt H' k (.ref L) d → Wx (.ref (cl k)) d σ H'
theorem takes0N {X : Cx} : L2N.Takes X (fun _ _ _ _ => False) := fun _ _ ⟨_, _, _, _, _, _, _, _, _, _, _, _, _, _, _, _, w⟩ => w.elim
section
variable {P : Program} {w : World} {K : PySem.W.Frag} {mg : Str → Option Value} {base : Heap} {cl : Nat → Addr} {PE_ : Addr}
def spRight : Sp := fun vs H Q _ => ∃ (k : Nat) (v : V), vs = [.int (k : Int), v] ∧ k < 19 ∧ plV v = true ∧ ∀ H', Ex H H' → Q (.bl true) H'
theorem ok_right (ES : Errs P w K mg base cl PE_) (T : Txt0 mg) (TI : mg "isinstance" = none) (TV : mg "ValueError" = none) (D : Df K mg "_law_right" s_l_right) (c_raised : CalN P w K mg base 3 "_law_raised" (spRaised cl 0 10)) (c_too : CalN P w K mg base 3 "_law_raised_too" (spRaised cl 10 19))
    (c_flags : CalP P w K mg base 1 "_law_flags" (spFlags cl)) (c_field : CalP P w K mg base 1 "_law_field" (spField cl)) : CalG P w K mg base 4 "_law_right" spRight := by
  refine cal_mk D sc_l_right (fun _ _ _ _ _ _ us hl => match us, hl with | [_, _], _ => rfl) (fun vs H Q E h => ?_) (fun f cdv A outer s H vs Q E hr hG h => ?_)
  · obtain ⟨k, v, rfl, _⟩ := h
    rfl
  · obtain ⟨k, v, rfl, hk, hpl, q⟩ := h
    refine ⟨_, (pss_cons (ps_set (i := 2) sc_l_right.nd rfl (Or.inl rfl) (pe_lst (pa_cons (pv 1) pa_nil)))
      (pss_cons (L2N.ps_try_as (i := 3) (tb := fun Wx D σ H => ∃ L, tbR cl k v L Wx σ H) (ts := fun a cls d D σ H => ∃ L, tsR cl k v L a cls d D σ H) (Wout := fun _ _ _ _ => False) rfl rfl sc_l_right.nd rfl rfl ⟨rfl, by decide, Or.inl ES.gP⟩ takes0N
        (fun Wx pn xe tk _ => pss_late fun D σ H hB => ?hbody) (fun a oe cls d pn hz hf => pss_late fun D σ H hR => ?hsuite))
      (pss_one (ps_ret pe_bl)))), ?hread⟩
    case hbody =>
      obtain ⟨L, rfl, hL, qW⟩ := hB
      refine ⟨_, (pss_cons (ps_if (pt_cmpR opLt (pv 0) pe_int (nomark _)) (pss_one (ps_expr (pe_cN c_raised hr hG (by decide) (fun σ => L2N.passAt tk σ) rfl (pa_cons (pv 0) (pa_cons (pv 2) pa_nil))))) pss_nil)
          (pss_one (ps_expr (pe_cN c_too hr hG (by decide) (fun σ => L2N.passAt tk σ) rfl (pa_cons (pv 0) (pa_cons (pv 2) pa_nil)))))), ?_⟩
      refine ⟨_, rfl, (k : Int), 10, rfl, rfl, _, rfl, ?_⟩
      by_cases c : k < 10
      · refine iteTb (decide_eq_true (by omega)) ?_
        exact ⟨_, rfl, _, rfl, k, .ref L, rfl, Nat.zero_le _, c, fun H' d e h => qW H' d e h⟩
      · refine iteFb (decide_eq_false (by omega)) ?_
        exact ⟨_, rfl, _, rfl, k, .ref L, rfl, by omega, hk, fun H' d e h => qW H' d e h⟩
    case hsuite =>
      obtain ⟨L, hcls, rfl, hL, hE, qD⟩ := hR
      have O : ErO (a, oe) (cl k) d := ⟨hz.1.trans hcls, hz.2.1, hf⟩
      have hot1 : Hot1 (A.mark (some (.ref a))) (a, oe) := by
        obtain ⟨vs, hvs⟩ := hf
        exact ⟨rfl, vs, hvs, hz.2.2 vs hvs⟩
      refine ⟨_, (pss_cons (ps_if (PW.pt (pw_or (pt_cmpR (opNeH (roomH_mark hr _)) (pe_cP c_flags ((roomH_mark hr _).mono (by decide)) hot1 List.mem_cons_self rfl (pa_cons (pv 3) pa_nil)) (pe_lcO (pe_lcH (own := [("_law_at", 4)]) ⟨(a, oe), hot1, List.mem_cons_self⟩ sc_l_right.nd (pi_range1H rfl T.range (pa_cons pe_int pa_nil)) (blkOk_by (own := [("_law_at", 4)]) (N := ["_law_kind", "_law_thing", "_law_held", "_law_e", "_law_at"]) (sc := defScope s_l_right) (by first | decide +kernel | kernel_rfl)) (fun _ _ _ _ _ => pg_name (i := 4) sc_l_right.nd rfl (Or.inl rfl)) (fun _ _ _ _ _ => pts_nil) (fun _ _ _ _ _ => pe_cmpR (opEqHB (roomH_mark hr _)) (pv 4) (pv 0) (nomark _)))) (nomark _)) (pw_or1 (pt_not (pt_val (pe_callB (call_isP (ES.xc k hk) List.mem_cons_self O) (by rfl) TI (by decide +kernel) (pa_cons (pv 3) (pa_cons (pe_bltn (v := .ty "ValueError") (by rfl) TV (by decide +kernel) rfl) pa_nil)))))))) (pss_one (ps_ret pe_bl)) pss_nil)
        (pss_cons (ps_expr (pe_bm PySem.F.plainAttrs_list PySem.F.slot_list_append PySem.F.type_list_append mt_append (pv 2) (pa_cons (pv 0) pa_nil)))
        (pss_one (ps_ret (pe_or (pe_cmpR opGt (pv 0) pe_int (nomark _)) (pe_one (pe_cmpR (opEqSH (roomH_mark hr _)) (pe_cP c_field ((roomH_mark hr _).mono (by decide)) hot1 List.mem_cons_self rfl (pa_cons (pv 0) (pa_cons (pv 3) pa_nil))) (pe_lst (pa_cons (pv 1) (pa_cons (pv 0) pa_nil))) (nomark _)))))))), ?_⟩
      obtain ⟨H0, n0, e0, qq⟩ := qD
      refine ⟨_, rfl, k, .ref L, d, rfl, hk, O, hE, fun H1 F e1 hF => ?_⟩
      refine ⟨19, rfl, by decide, by decide, ?_⟩
      refine lcG (walk_range (lo := 0) (n := 19)) (by decide) trivial (fun _ _ _ _ => trivial) yFn_ex (fun i ys _ => ys = (List.range i).map (flagV k)) (fun _ _ _ _ _ h => h) rfl ?_ ?_
      · rintro i x H2 H3 ys hi e2 ⟨rfl, rfl⟩ rfl N N0 kN kN0
        refine ⟨rfl, ?_⟩
        refine ⟨_, rfl, _, rfl, .inl ⟨rfl, ?_⟩⟩
        refine kN _ _ (Ex.refl _) ?_
        rw [List.range_succ, List.map_append]
        have z : decide (V.int ((0 : Int) + (i : Int)) = V.int (k : Int)) = decide (k = i) := by
          rw [Int.zero_add, int_eqN i k]
          exact decide_eq_decide.mpr ⟨Eq.symm, Eq.symm⟩
        show _ ++ [V.bl _] = _ ++ [V.bl _]
        rw [z]
      · rintro Dl H2 ys hD e2 h2 _ rfl
        obtain ⟨feq, fsh⟩ := flagsD_eq k hk
        refine ⟨flagsD k, flagsD k, .lst (sq_of (e2 _ _ hF)) (dp_flags k _), .lst (sq_of h2) (dp_flags k _), fsh, fsh, _, rfl, ?_⟩
        refine iteFb (by rw [feq]; rfl) ?_
        have hE2 := ErAt.ex (e1.trans e2) hE
        refine ⟨_, rfl, ErAt.erd hE2, .ty "ValueError", .type "ValueError", true, rfl, fun u r => r, ES.ve k hk, _, rfl, ?_⟩
        refine iteFb (b := !true) rfl ?_
        have hL2 := (e1.trans e2) _ _ hL
        refine ⟨_, rfl, .inl ⟨rfl, _, sq_of hL2⟩, _, rfl, L, [v], .int (k : Int), rfl, rfl, hL2, by show 1 < sizeLine; decide, ?_⟩
        generalize hq3 : upd H2 L _ = H3
        have e3 : Ex H0 H3 := by rw [← hq3]; exact Ex.mut ((e0.trans e1).trans e2) n0
        have hL3 := (congrFun hq3 L).symm.trans upd_same
        have hE3 : ErrAt H3 k (.ref L) d := by rw [← hq3]; exact ErAt.set hL2 hE2
        refine ⟨_, rfl, (k : Int), 11, rfl, rfl, _, rfl, ?_⟩
        by_cases c : 11 < k
        · exact iteTb (decide_eq_true (by omega)) (qq _ e3)
        · refine iteFb (decide_eq_false (by omega)) ?_
          refine ⟨_, rfl, _, rfl, k, .ref L, d, rfl, by omega, O, hE3, fun H4 e4 => ?_⟩
          refine ⟨_, rfl, _, rfl, by show 2 ≤ sizeLine; decide, fun M nM => ?_⟩
          generalize hq5 : upd H4 M _ = H5
          obtain ⟨e5, h5⟩ := gen1 hq5 nM
          refine ⟨L, M, [v, .int (k : Int)], rfl, rfl, sq_of (e5 _ _ (e4 _ _ hL3)), sq_of h5, ?_, qq _ ((e3.trans e4).trans e5)⟩
          show (plV v && (true && true)) = true
          rw [hpl]
          rfl
    case hread =>
      refine ⟨_, rfl, by show 1 ≤ sizeLine; decide, fun L nL => ?_⟩
      generalize hq1 : upd H L _ = H1
      obtain ⟨e1, h1⟩ := gen1 hq1 nL
      refine ⟨L, rfl, h1, fun H' d e hE => ?_⟩
      exact ⟨true, ES.em k hk, fun _ a na => ⟨L, rfl, rfl, e _ _ h1, hE, H, nL, e1.trans e, fun H2 e' => q H2 e'⟩, fun z => by cases z⟩
end
end Own

namespace Own
open PySem PySem.Spec PyProof.Rows L2 Evl
open L2H
abbrev s_law : Stmt := top 31
theorem sc_law : FnScope ["_law_script", "_law_bag_here", "_law_kind"] ["_law_script"] (defScope s_law) := ⟨rfl, rfl, rfl, by decide +kernel, rfl, by decide +kernel, by decide +kernel⟩
section
variable {P : Program} {w : World} {K : PySem.W.Frag} {mg : Str → Option Value} {base : Heap}
def spLaw (K : PySem.W.Frag) : Sp := fun vs H Q _ => ∃ (a : Addr) (ns : List Int), vs = [.ref a] ∧ SqL K H a (ns.map V.int) ∧ ns.length ≤ 63 ∧ ∀ H', Q (.bl true) H'
theorem pl_of {A : Addr → Prop} {H : Hp} {v : V} {d : PyData} (h : DaA A H v d) : plV v = true := by cases h <;> rfl
theorem ok_law {fl : Addr} {fdl : FuncData} (T : Txt0 mg) (F : Fun K "law" "law" s_law fl fdl) (c_l_bag : CalG P w K mg base 1 "_law_bag" (spBag K)) (c_l_odd : CalG P w K mg base 3 "_law_odd" spOdd) (c_l_right : CalG P w K mg base 4 "_law_right" spRight) : FnG P w K mg base 6 fl fdl ["_law_script"] (spLaw K) := by
  refine fn_mk F sc_law (fun vs H Q E h => ?_) (fun cdv A outer s H vs Q E hr hG h => ?_)
  · obtain ⟨a, ns, rfl, _⟩ := h
    rfl
  · obtain ⟨a, ms, rfl, ha, hl, q⟩ := h
    refine ⟨_, (pss_cons (ps_set (i := 1) sc_law.nd rfl (Or.inl rfl) (pe_cG c_l_bag hr hG (by decide) rfl (pa_cons (pv 0) pa_nil)))
      (pss_cons (ps_forO (ps_for PassesOwn.never rfl (pi_range1 rfl T.range (pa_cons pe_int pa_nil)) (pg_name (i := 2) sc_law.nd rfl (Or.inl rfl))
        (pss_one (ps_if (PW.pt (pw_or (pt_not (pt_val (pe_cG c_l_right hr hG (by decide) rfl (pa_cons (pv 2) (pa_cons (pe_cG c_l_odd hr hG (by decide) rfl (pa_cons (pv 1) pa_nil)) pa_nil))))) (pw_or1 (pt_not (pt_val (pe_cG c_l_right hr hG (by decide) rfl (pa_cons (pv 2) (pa_cons (pe_lst (pa_cons (pe_op op_pow pe_int pe_int) (pa_cons pe_str pa_nil))) pa_nil)))))))) (pss_one (ps_ret pe_bl)) pss_nil))))
      (pss_one (ps_ret pe_bl)))), ?_⟩
    refine ⟨_, rfl, a, ms, rfl, ha, hl, fun H1 b e1 hb => ?_⟩
    refine ⟨19, rfl, by decide, by decide, ?_⟩
    refine frG (walk_range (lo := 0) (n := 19)) (fun i σ H' => ∃ x2 : Option V, σ = [some (.ref a), some (.ref b), x2] ∧ Ex H1 H') ⟨_, rfl, Ex.refl _⟩ (fun _ _ _ _ _ => trivial) ?_ ?_
    · rintro i x σ H2 H3 hi ⟨x2, rfl, e2⟩ ⟨rfl, rfl⟩
      have z0 : (0 : Int) + (i : Int) = (i : Int) := Int.zero_add _
      refine ⟨_, rfl, _, rfl, b, rfl, hb.ex e2, fun H4 v d e4 hv kv => ?_⟩
      refine ⟨i, v, by (show [V.int ((0 : Int) + (i : Int)), v] = _; rw [z0]), hi, pl_of hv, fun H5 e5 => ⟨_, rfl, ?_⟩⟩
      refine iteFb (b := !true) rfl ?_
      refine ⟨_, rfl, 10, 59, rfl, rfl, ⟨by decide, by decide, by decide⟩, ?_⟩
      refine ⟨by show 2 ≤ sizeLine; decide, fun l hl2 => ?_⟩
      generalize hq6 : upd H5 l _ = H6
      obtain ⟨e6, h6⟩ := gen1 hq6 hl2
      refine ⟨i, .ref l, by (show [V.int ((0 : Int) + (i : Int)), V.ref l] = _; rw [z0]), hi, rfl, fun H7 e7 => ⟨_, rfl, ?_⟩⟩
      refine iteFb (b := !true) rfl ?_
      exact ⟨_, rfl, (((e2.trans e4).trans e5).trans e6).trans e7⟩
    · rintro σ H2 ⟨x2, rfl, e2⟩
      exact q H2
end
/-! ### the classes of the errors -/
abbrev veB : List Value := [.type "ValueError", .type "Exception", .type "BaseException", .type "object"]
/-- what the text of the program says of one of these classes -/
structure ClsOk (K : PySem.W.Frag) (C PE_ : Addr) : Prop where
  mro : ∀ b : Value, PySem.W.subIn K (.ref C) b = some ((Value.ref C :: .ref PE_ :: veB).contains b)
  cls : (PySem.W.clsIn K C).isSome = true
  ty : PySem.W.typeIn K (.ref C) = some (.type "type")
theorem clsOk_of {K : PySem.W.Frag} {C PE_ : Addr} {nm qn : Str} {NN : Addr} {bs : List Value} {hd : Bool} {sn : List Str} {sub : List Value} {ab : Bool} {col : Option Bool} {dd : Option Addr} {k0 k1 k2 k3 k5 : Option Value}
    (l : K.lookup C = some (excClassObj nm qn C NN bs (.ref PE_ :: veB) hd sn sub ab col dd k0 k1 k2 k3 k5 "ValueError.__new__")) : ClsOk K C PE_ := by
  refine ⟨fun b => ?_, ?_, ?_⟩
  · show PySem.W.mroIn K C b = _
    unfold PySem.W.mroIn PySem.W.clsIn
    rw [l]
    rfl
  · unfold PySem.W.clsIn
    rw [l]
    rfl
  · show (K.lookup C).map (·.cls) = _
    rw [l]
    rfl
theorem kit_of {K : PySem.W.Frag} {cl : Nat → Addr} {PE_ : Addr} (ok : ∀ i, i < 19 → ClsOk K (cl i) PE_) (nd : ∀ i, i < 19 → ∀ j, j < 19 → i ≠ j → cl i ≠ cl j) (np : ∀ j, j < 19 → cl j ≠ PE_) (i j : Nat) (hi : i < 19) (hj : j < 19) :
    PySem.W.kitOne K (.ref (cl i)) (.ref (cl j)) = some (decide (i = j)) := by
  unfold PySem.W.kitOne
  by_cases e : i = j
  · subst e
    rw [if_pos (beq_self_eq_true _), decide_eq_true rfl]
  · have n1 := nd i hi j hj e
    rw [if_neg (fun z => n1 (Value.ref.inj (beq_iff_eq.mp z))), decide_eq_false e]
    show (if ((PySem.W.clsIn K (cl j)).isSome && PySem.W.typeIn K (.ref (cl j)) == some (.type "type")) = true then PySem.W.subIn K (.ref (cl i)) (.ref (cl j)) else none) = some false
    rw [if_pos (by rw [(ok j hj).cls, (ok j hj).ty]; rfl), (ok i hi).mro]
    congr 1
    have n2 := np j hj
    show ((Value.ref (cl j) == Value.ref (cl i)) || ((Value.ref (cl j) == Value.ref PE_) || false)) = false
    have b1 : (Value.ref (cl j) == Value.ref (cl i)) = false := by
      refine Bool.eq_false_iff.mpr fun z => n1 ?_
      exact (Value.ref.inj (beq_iff_eq.mp z)).symm
    have b2 : (Value.ref (cl j) == Value.ref PE_) = false := Bool.eq_false_iff.mpr fun z => n2 (Value.ref.inj (beq_iff_eq.mp z))
    rw [b1, b2]
    rfl
theorem sub_has {K : PySem.W.Frag} {C PE_ : Addr} (ok : ClsOk K C PE_) {T : String} (h : veB.contains (.type T) = true) : PySem.W.subIn K (.ref C) (.type T) = some true := by
  rw [ok.mro]
  refine congrArg some ?_
  show ((Value.type T == Value.ref C) || ((Value.type T == Value.ref PE_) || veB.contains (.type T))) = true
  rw [h, Bool.or_true, Bool.or_true]
theorem sub_pe {K : PySem.W.Frag} {C PE_ : Addr} (ok : ClsOk K C PE_) : PySem.W.subIn K (.ref C) (.ref PE_) = some true := by
  rw [ok.mro]
  refine congrArg some ?_
  show ((Value.ref PE_ == Value.ref C) || ((Value.ref PE_ == Value.ref PE_) || _)) = true
  rw [beq_self_eq_true, Bool.true_or, Bool.or_true]
theorem ve_of {K : PySem.W.Frag} {C PE_ : Addr} (ok : ClsOk K C PE_) : PySem.W.kitOne K (.ref C) (.type "ValueError") = some true := by
  unfold PySem.W.kitOne
  rw [if_neg (by intro z; cases beq_iff_eq.mp z)]
  show (if PySem.W.kitMeta "ValueError" = true then PySem.W.subIn K (.ref C) (.type "ValueError") else none) = some true
  rw [if_pos (by kernel_rfl)]
  exact sub_has ok (by decide +kernel)
end Own

namespace Own
open PySem PySem.Spec PyProof.Rows L2 Evl
/-! ### the end -/
theorem law_callG {P : Program} {w : World} {K : PySem.W.Frag} {mg mb : Str → Option Value} {k : Nat} {fa a : Addr} {fd : FuncData} {x : Str} {sp : Sp} {st : Shared} {vs : List Value} {ns : List Int}
    (inK : K.In st.heap) (gN : st.heap.Ns mainGlobals mg) (bN : st.heap.Ns builtinsNs mb) (bN0 : ∀ x : Str, x ≠ "__name__" → mb x = bootBuiltins x) (noL : st.heap.NoLimit) (g0 : st.gens = #[])
    (at0 : st.heap.get? a = some { cls := .type "list", data := .seq vs.toArray }) (are : IntsAre vs ns) (few : ns.length ≤ sizeLine) (hr : Room k callerA)
    (F : ∀ base : Heap, K.In base → base.Ns mainGlobals mg → FnG P w K mg base k fa fd [x] sp) (bnd : ∀ (s : Shared) (u : Value), BindsTo s fd ⟨[u], []⟩ [(x, u)])
    (want : ∀ H : Hp, Only H → SqL K H a (ns.map V.int) → sp [.ref a] H (fun v _ => v = .bl true) fun _ _ _ => False)
    :
    codeAny (model P w) callerA (.call (.ref fa) ⟨[.ref a], []⟩) (fun r s' => r = .ok (.ret (.bool true)) ∧ OldK st.heap s'.heap ∧ s'.os = st.os ∧ AllBare s'.gens) st := by
  have rvs := vals_ints are
  have lv := are.length
  have main : ∀ H : Hp, Only H → SqL K H a (ns.map V.int) → HOk P w H st.heap → (∀ b, H b ≠ none → b = a) → (H a ≠ none → K.lookup a = none) →
      codeAny (model P w) callerA (.call (.ref fa) ⟨[.ref a], []⟩) (fun r s' => r = .ok (.ret (.bool true)) ∧ OldK st.heap s'.heap ∧ s'.os = st.os ∧ AllBare s'.gens) st := by
    intro H only sq okH ata notK
    have inB : ∀ {b : Addr} {o : Obj}, st.heap.get? b = some o → H b = none → (hidT st.heap H).get? b = some o := fun e n => hidT_get e n
    have nod : ∀ {b : Addr} {o : Obj} {es : Array DictEntry} {ep : Nat}, st.heap.get? b = some o → o.data = .dict es ep → H b = none := fun {b o es ep} e d => by
      cases qq : H b with
      | none => rfl
      | some u =>
        have e' : b = a := ata b (by rw [qq]; simp)
        subst e'
        rw [at0] at e; cases e
        have d' : Data.seq vs.toArray _ = Data.dict es ep := d
        cases d'
    have nsB : ∀ {b : Addr} {m : Str → Option Value}, st.heap.Ns b m → (hidT st.heap H).Ns b m := fun {b m} ⟨o, es, ep, e, d, r⟩ => ⟨o, es, ep, inB e (nod e d), d, r⟩
    have kB : K.In (hidT st.heap H) := fun b o e => inB (inK b o e) (by
      cases qq : H b with
      | none => rfl
      | some u =>
        have e' : b = a := ata b (by rw [qq]; simp)
        subst e'
        rw [notK (by rw [qq]; simp)] at e; cases e)
    have mdl : Mod K mg (hidT st.heap H) := ⟨kB, nsB gN, ⟨mb, nsB bN, bN0⟩, let ⟨mc, h1, h2⟩ := noL; ⟨mc, nsB h1, h2⟩⟩
    have envs : Env0 P w K mg (hidT st.heap H) callerA [] st H := ⟨rfl, mdl, fun b o e => of_hidT e, Nat.le_of_eq (hidT_size _ _), trivial, fun b bN => absurd (show b ∈ ([] : List Addr) from bN) (by simp), okH, .of_eq g0⟩
    refine codeAny_mono ((F _ kB (nsB gN)).run callerA [] st H ⟨[.ref a], []⟩ [.ref a] [.ref a] _ _ hr rfl envs (bnd st (.ref a)) (.cons rfl .nil) (want H only sq)) fun r s' h => ?_
    cases r with
    | error e => exact (show False from h).elim
    | ok fl =>
      cases fl with
      | next => exact False.elim h
      | brk => exact False.elim h
      | cont => exact False.elim h
      | ret u =>
        obtain ⟨v, H', oss, br, uu, hok', r', qq⟩ := h
        have q' : v = .bl true := qq
        subst q'
        obtain rfl : u = Value.bool true := r'
        refine ⟨rfl, OldK.of_keep fun b o e => ?_, oss, br⟩
        cases qq : H b with
        | none => exact uu.keep b o e qq (by intro zz; exact absurd (show b ∈ ([] : List Addr) from zz) (by simp)) (by simp)
        | some u =>
          rcases only b with zz | ⟨ob, xs, zz⟩
          · rw [qq] at zz; cases zz
          · have zz2 := uu.frzs b ob _ zz
            obtain ⟨e1, _⟩ := okH b _ zz
            obtain ⟨e2, _⟩ := hok' b _ zz2
            rw [e] at e1; cases e1
            exact e2
  cases lkK : K.lookup a with
  | some o =>
    have e := inK a o lkK
    rw [at0] at e
    cases e
    refine main (fun _ => none) (fun _ => .inl rfl) (.inr ⟨_, vs.toArray, _, lkK, rfl, rfl, rfl, by rw [List.size_toArray, lv]; exact few, by simpa using rvs⟩) (fun b u zz => by have z' : (none : Option HO) = some u := zz; cases z') (fun b zz => absurd rfl zz) fun zz => absurd rfl zz
  | none =>
    refine main (fun b => if b = a then some (.frz { cls := .type "list", data := .seq vs.toArray } (.lst (ns.map V.int))) else none) (fun b => ?_) (.inl (.inr ⟨{ cls := .type "list", data := .seq vs.toArray }, if_pos rfl⟩)) (fun b u zz => ?_) (fun b zz => ?_) fun _ => lkK
    · by_cases bN : b = a
      · exact .inr ⟨_, _, if_pos bN⟩
      · exact .inl (if_neg bN)
    · by_cases bN : b = a
      · have z' := (if_pos bN).symm.trans zz
        cases z'
        subst bN
        exact ⟨at0, by rw [List.length_map]; exact few, vs, _, rvs, at0⟩
      · have z' := (if_neg bN).symm.trans zz
        cases z'
    · by_cases bN : b = a
      · exact bN
      · exact absurd (if_neg bN) zz
theorem walk_G {l : PySem.W.OpenLaw} {n k : Nat} {q : Program} {loose : List Str} {XP : (Str → Option Value) → Heap → Prop} {YP : World → Heap → Prop} {d : DefRec} {K : Params → PySem.W.Frag} {sp : World → Sp} {x : Str}
    (most : l.most = some n) (small : n ≤ sizeLine) (nodf : d.params.defaults = []) (room : Room k callerA) (inn : ∀ (w : World) (h : Heap), YP w h → (K w.params).In h)
    (F : ∀ (w : World) (mg : Str → Option Value) (fa : Addr) (h : Heap), (K w.params).In h → h.Ns mainGlobals mg → mg d.name = some (.ref fa) →
      ∃ fd : FuncData, (∀ (s : Shared) (u : Value), BindsTo s fd ⟨[u], []⟩ [(x, u)]) ∧ ∀ base : Heap, (K w.params).In base → base.Ns mainGlobals mg → FnG l.prog w (K w.params) mg base k fa fd [x] (sp w))
    (want : ∀ (w : World) (H : Hp) (a : Addr) (ns : List Int), ns.length ≤ n → SqL (K w.params) H a (ns.map V.int) → sp w [.ref a] H (fun v _ => v = .bl true) fun _ _ _ => False) :
    PySem.W.WalkO q loose XP YP l.row.toRowW d [] (fun f vs => PySem.call f vs) := by
  refine Att.attach_call most nodf fun w s₀ st mg mb fa o pm cd doc a vs ns G Y ho hd hcd hmg hobj hints hlen g0 => ?_
  have KI := inn w _ Y
  obtain ⟨fd, bd, good⟩ := F w mg fa _ KI G.T.g hmg
  exact law_callG KI G.T.g G.T.b G.T.builtins G.T.nolimit g0 hobj hints (Nat.le_trans hlen small) room good bd (fun H _ hS => want w H a ns hlen hS)
theorem df_mk {K : PySem.W.Frag} {h : Heap} {mg : Str → Option Value} {x : Str} {st : Stmt} {f : Addr} {oc : Value} {od an : Option Addr} {sl : Array (Option Value)} {kV doc pm cdv ct : Value} (X : K.In h) (G : h.Ns mainGlobals mg)
    (a : PySem.W.nsIn K mainGlobals x = some (some (.ref f))) (l : K.lookup f = some ⟨oc, od, .func (PySem.W.fnOf x x (defArgs st) (defBody st) (defScope st) .none kV doc pm an cdv ct), sl⟩) (c : PySem.W.codeIn K cdv x = true) (kp : PySem.W.keepIn K (.ref f) = true) : Df K mg x st :=
  ⟨f, _, PySem.W.mg_of X G a, fun_mk l c kp⟩
end Own

namespace Own
open PySem PySem.Spec PyProof.Rows L2 Evl
theorem all_mk {P : Program} {w : World} {K : PySem.W.Frag} {h : Heap} {mg : Str → Option Value} {fa : Addr} (X : K.In h) (G : h.Ns mainGlobals mg) (hfa : mg "law" = some (.ref fa))
    {od0 an0 : Option Addr} {sl0 : Array (Option Value)} {oc0 kV0 dc0 pm0 cd0 ct0 : Value} {f0 : Addr}
    {od1 an1 : Option Addr} {sl1 : Array (Option Value)} {oc1 kV1 dc1 pm1 cd1 ct1 : Value} {f1 : Addr}
    {od2 an2 : Option Addr} {sl2 : Array (Option Value)} {oc2 kV2 dc2 pm2 cd2 ct2 : Value} {f2 : Addr}
    {od3 an3 : Option Addr} {sl3 : Array (Option Value)} {oc3 kV3 dc3 pm3 cd3 ct3 : Value} {f3 : Addr}
    {od4 an4 : Option Addr} {sl4 : Array (Option Value)} {oc4 kV4 dc4 pm4 cd4 ct4 : Value} {f4 : Addr}
    {od5 an5 : Option Addr} {sl5 : Array (Option Value)} {oc5 kV5 dc5 pm5 cd5 ct5 : Value} {f5 : Addr}
    {od6 an6 : Option Addr} {sl6 : Array (Option Value)} {oc6 kV6 dc6 pm6 cd6 ct6 : Value} {f6 : Addr}
    {od7 an7 : Option Addr} {sl7 : Array (Option Value)} {oc7 kV7 dc7 pm7 cd7 ct7 : Value} {f7 : Addr}
    {od8 an8 : Option Addr} {sl8 : Array (Option Value)} {oc8 kV8 dc8 pm8 cd8 ct8 : Value} {f8 : Addr}
    {od9 an9 : Option Addr} {sl9 : Array (Option Value)} {oc9 kV9 dc9 pm9 cd9 ct9 : Value} {f9 : Addr} {PE_ : Addr} {C0 NN0 : Addr} {nm0 qn0 : Str} {bs0 sub0 : List Value} {sn0 : List Str} {ab0 : Bool} {col0 : Option Bool} {dd0 : Option Addr} {p0 q0 r0 s0 t0 : Option Value} {fe0 : Addr} {ode0 ane0 : Option Addr} {sle0 : Array (Option Value)} {oce0 kVe0 dce0 pme0 cde0 cte0 : Value} {C1 NN1 : Addr} {nm1 qn1 : Str} {bs1 sub1 : List Value} {sn1 : List Str} {ab1 : Bool} {col1 : Option Bool} {dd1 : Option Addr} {p1 q1 r1 s1 t1 : Option Value} {fe1 : Addr} {ode1 ane1 : Option Addr} {sle1 : Array (Option Value)} {oce1 kVe1 dce1 pme1 cde1 cte1 : Value} {C2 NN2 : Addr} {nm2 qn2 : Str} {bs2 sub2 : List Value} {sn2 : List Str} {ab2 : Bool} {col2 : Option Bool} {dd2 : Option Addr} {p2 q2 r2 s2 t2 : Option Value} {fe2 : Addr} {ode2 ane2 : Option Addr} {sle2 : Array (Option Value)} {oce2 kVe2 dce2 pme2 cde2 cte2 : Value} {C3 NN3 : Addr} {nm3 qn3 : Str} {bs3 sub3 : List Value} {sn3 : List Str} {ab3 : Bool} {col3 : Option Bool} {dd3 : Option Addr} {p3 q3 r3 s3 t3 : Option Value} {fe3 : Addr} {ode3 ane3 : Option Addr} {sle3 : Array (Option Value)} {oce3 kVe3 dce3 pme3 cde3 cte3 : Value} {C4 NN4 : Addr} {nm4 qn4 : Str} {bs4 sub4 : List Value} {sn4 : List Str} {ab4 : Bool} {col4 : Option Bool} {dd4 : Option Addr} {p4 q4 r4 s4 t4 : Option Value} {fe4 : Addr} {ode4 ane4 : Option Addr} {sle4 : Array (Option Value)} {oce4 kVe4 dce4 pme4 cde4 cte4 : Value} {C5 NN5 : Addr} {nm5 qn5 : Str} {bs5 sub5 : List Value} {sn5 : List Str} {ab5 : Bool} {col5 : Option Bool} {dd5 : Option Addr} {p5 q5 r5 s5 t5 : Option Value} {fe5 : Addr} {ode5 ane5 : Option Addr} {sle5 : Array (Option Value)} {oce5 kVe5 dce5 pme5 cde5 cte5 : Value} {C6 NN6 : Addr} {nm6 qn6 : Str} {bs6 sub6 : List Value} {sn6 : List Str} {ab6 : Bool} {col6 : Option Bool} {dd6 : Option Addr} {p6 q6 r6 s6 t6 : Option Value} {fe6 : Addr} {ode6 ane6 : Option Addr} {sle6 : Array (Option Value)} {oce6 kVe6 dce6 pme6 cde6 cte6 : Value} {C7 NN7 : Addr} {nm7 qn7 : Str} {bs7 sub7 : List Value} {sn7 : List Str} {ab7 : Bool} {col7 : Option Bool} {dd7 : Option Addr} {p7 q7 r7 s7 t7 : Option Value} {fe7 : Addr} {ode7 ane7 : Option Addr} {sle7 : Array (Option Value)} {oce7 kVe7 dce7 pme7 cde7 cte7 : Value} {C8 NN8 : Addr} {nm8 qn8 : Str} {bs8 sub8 : List Value} {sn8 : List Str} {ab8 : Bool} {col8 : Option Bool} {dd8 : Option Addr} {p8 q8 r8 s8 t8 : Option Value} {fe8 : Addr} {ode8 ane8 : Option Addr} {sle8 : Array (Option Value)} {oce8 kVe8 dce8 pme8 cde8 cte8 : Value} {C9 NN9 : Addr} {nm9 qn9 : Str} {bs9 sub9 : List Value} {sn9 : List Str} {ab9 : Bool} {col9 : Option Bool} {dd9 : Option Addr} {p9 q9 r9 s9 t9 : Option Value} {fe9 : Addr} {ode9 ane9 : Option Addr} {sle9 : Array (Option Value)} {oce9 kVe9 dce9 pme9 cde9 cte9 : Value} {C10 NN10 : Addr} {nm10 qn10 : Str} {bs10 sub10 : List Value} {sn10 : List Str} {ab10 : Bool} {col10 : Option Bool} {dd10 : Option Addr} {p10 q10 r10 s10 t10 : Option Value} {fe10 : Addr} {ode10 ane10 : Option Addr} {sle10 : Array (Option Value)} {oce10 kVe10 dce10 pme10 cde10 cte10 : Value} {C11 NN11 : Addr} {nm11 qn11 : Str} {bs11 sub11 : List Value} {sn11 : List Str} {ab11 : Bool} {col11 : Option Bool} {dd11 : Option Addr} {p11 q11 r11 s11 t11 : Option Value} {fe11 : Addr} {ode11 ane11 : Option Addr} {sle11 : Array (Option Value)} {oce11 kVe11 dce11 pme11 cde11 cte11 : Value} {C12 NN12 : Addr} {nm12 qn12 : Str} {bs12 sub12 : List Value} {sn12 : List Str} {ab12 : Bool} {col12 : Option Bool} {dd12 : Option Addr} {p12 q12 r12 s12 t12 : Option Value} {C13 NN13 : Addr} {nm13 qn13 : Str} {bs13 sub13 : List Value} {sn13 : List Str} {ab13 : Bool} {col13 : Option Bool} {dd13 : Option Addr} {p13 q13 r13 s13 t13 : Option Value} {C14 NN14 : Addr} {nm14 qn14 : Str} {bs14 sub14 : List Value} {sn14 : List Str} {ab14 : Bool} {col14 : Option Bool} {dd14 : Option Addr} {p14 q14 r14 s14 t14 : Option Value} {C15 NN15 : Addr} {nm15 qn15 : Str} {bs15 sub15 : List Value} {sn15 : List Str} {ab15 : Bool} {col15 : Option Bool} {dd15 : Option Addr} {p15 q15 r15 s15 t15 : Option Value} {C16 NN16 : Addr} {nm16 qn16 : Str} {bs16 sub16 : List Value} {sn16 : List Str} {ab16 : Bool} {col16 : Option Bool} {dd16 : Option Addr} {p16 q16 r16 s16 t16 : Option Value} {C17 NN17 : Addr} {nm17 qn17 : Str} {bs17 sub17 : List Value} {sn17 : List Str} {ab17 : Bool} {col17 : Option Bool} {dd17 : Option Addr} {p17 q17 r17 s17 t17 : Option Value} {C18 NN18 : Addr} {nm18 qn18 : Str} {bs18 sub18 : List Value} {sn18 : List Str} {ab18 : Bool} {col18 : Option Bool} {dd18 : Option Addr} {p18 q18 r18 s18 t18 : Option Value}
    (a0 : PySem.W.nsIn K mainGlobals "_law_bag" = some (some (.ref f0))) (l0 : K.lookup f0 = some ⟨oc0, od0, .func (PySem.W.fnOf "_law_bag" "_law_bag" (defArgs s_l_bag) (defBody s_l_bag) (defScope s_l_bag) .none kV0 dc0 pm0 an0 cd0 ct0), sl0⟩) (c0 : PySem.W.codeIn K cd0 "_law_bag" = true) (k0 : PySem.W.keepIn K (.ref f0) = true)
    (a1 : PySem.W.nsIn K mainGlobals "_law_take" = some (some (.ref f1))) (l1 : K.lookup f1 = some ⟨oc1, od1, .func (PySem.W.fnOf "_law_take" "_law_take" (defArgs s_l_take) (defBody s_l_take) (defScope s_l_take) .none kV1 dc1 pm1 an1 cd1 ct1), sl1⟩) (c1 : PySem.W.codeIn K cd1 "_law_take" = true) (k1 : PySem.W.keepIn K (.ref f1) = true)
    (a2 : PySem.W.nsIn K mainGlobals "_law_some" = some (some (.ref f2))) (l2 : K.lookup f2 = some ⟨oc2, od2, .func (PySem.W.fnOf "_law_some" "_law_some" (defArgs s_l_some) (defBody s_l_some) (defScope s_l_some) .none kV2 dc2 pm2 an2 cd2 ct2), sl2⟩) (c2 : PySem.W.codeIn K cd2 "_law_some" = true) (k2 : PySem.W.keepIn K (.ref f2) = true)
    (a3 : PySem.W.nsIn K mainGlobals "_law_odd" = some (some (.ref f3))) (l3 : K.lookup f3 = some ⟨oc3, od3, .func (PySem.W.fnOf "_law_odd" "_law_odd" (defArgs s_l_odd) (defBody s_l_odd) (defScope s_l_odd) .none kV3 dc3 pm3 an3 cd3 ct3), sl3⟩) (c3 : PySem.W.codeIn K cd3 "_law_odd" = true) (k3 : PySem.W.keepIn K (.ref f3) = true)
    (a4 : PySem.W.nsIn K mainGlobals "_law_raised" = some (some (.ref f4))) (l4 : K.lookup f4 = some ⟨oc4, od4, .func (PySem.W.fnOf "_law_raised" "_law_raised" (defArgs s_l_raised) (defBody s_l_raised) (defScope s_l_raised) .none kV4 dc4 pm4 an4 cd4 ct4), sl4⟩) (c4 : PySem.W.codeIn K cd4 "_law_raised" = true) (k4 : PySem.W.keepIn K (.ref f4) = true)
    (a5 : PySem.W.nsIn K mainGlobals "_law_raised_too" = some (some (.ref f5))) (l5 : K.lookup f5 = some ⟨oc5, od5, .func (PySem.W.fnOf "_law_raised_too" "_law_raised_too" (defArgs s_l_raised_too) (defBody s_l_raised_too) (defScope s_l_raised_too) .none kV5 dc5 pm5 an5 cd5 ct5), sl5⟩) (c5 : PySem.W.codeIn K cd5 "_law_raised_too" = true) (k5 : PySem.W.keepIn K (.ref f5) = true)
    (a6 : PySem.W.nsIn K mainGlobals "_law_flags" = some (some (.ref f6))) (l6 : K.lookup f6 = some ⟨oc6, od6, .func (PySem.W.fnOf "_law_flags" "_law_flags" (defArgs s_l_flags) (defBody s_l_flags) (defScope s_l_flags) .none kV6 dc6 pm6 an6 cd6 ct6), sl6⟩) (c6 : PySem.W.codeIn K cd6 "_law_flags" = true) (k6 : PySem.W.keepIn K (.ref f6) = true)
    (a7 : PySem.W.nsIn K mainGlobals "_law_field" = some (some (.ref f7))) (l7 : K.lookup f7 = some ⟨oc7, od7, .func (PySem.W.fnOf "_law_field" "_law_field" (defArgs s_l_field) (defBody s_l_field) (defScope s_l_field) .none kV7 dc7 pm7 an7 cd7 ct7), sl7⟩) (c7 : PySem.W.codeIn K cd7 "_law_field" = true) (k7 : PySem.W.keepIn K (.ref f7) = true)
    (a8 : PySem.W.nsIn K mainGlobals "_law_right" = some (some (.ref f8))) (l8 : K.lookup f8 = some ⟨oc8, od8, .func (PySem.W.fnOf "_law_right" "_law_right" (defArgs s_l_right) (defBody s_l_right) (defScope s_l_right) .none kV8 dc8 pm8 an8 cd8 ct8), sl8⟩) (c8 : PySem.W.codeIn K cd8 "_law_right" = true) (k8 : PySem.W.keepIn K (.ref f8) = true)
    (a9 : PySem.W.nsIn K mainGlobals "law" = some (some (.ref f9))) (l9 : K.lookup f9 = some ⟨oc9, od9, .func (PySem.W.fnOf "law" "law" (defArgs s_law) (defBody s_law) (defScope s_law) .none kV9 dc9 pm9 an9 cd9 ct9), sl9⟩) (c9 : PySem.W.codeIn K cd9 "law" = true) (k9 : PySem.W.keepIn K (.ref f9) = true)
    (z_abs : PySem.W.nsIn K mainGlobals "abs" = some none)
    (z_int : PySem.W.nsIn K mainGlobals "int" = some none)
    (z_len : PySem.W.nsIn K mainGlobals "len" = some none)
    (z_tuple : PySem.W.nsIn K mainGlobals "tuple" = some none)
    (z_list : PySem.W.nsIn K mainGlobals "list" = some none)
    (z_all : PySem.W.nsIn K mainGlobals "all" = some none)
    (z_any : PySem.W.nsIn K mainGlobals "any" = some none)
    (z_zip : PySem.W.nsIn K mainGlobals "zip" = some none)
    (z_range : PySem.W.nsIn K mainGlobals "range" = some none)
    (z_repr : PySem.W.nsIn K mainGlobals "repr" = some none)
    (z_dict : PySem.W.nsIn K mainGlobals "dict" = some none)
    (z_isinstance : PySem.W.nsIn K mainGlobals "isinstance" = some none)
    (z_ValueError : PySem.W.nsIn K mainGlobals "ValueError" = some none)
    (xg0 : PySem.W.nsIn K mainGlobals "Wrong" = some (some (.ref C0)))
    (l0x : K.lookup C0 = some (excClassObj nm0 qn0 C0 NN0 bs0 (.ref PE_ :: veB) true sn0 sub0 ab0 col0 dd0 p0 q0 r0 s0 t0 "ValueError.__new__"))
    (ga0 : PySem.W.findIn K (.ref C0) "__getattribute__" = some (some (.builtin "BaseException.__getattribute__")))
    (gg0 : PySem.W.findIn K (.ref C0) "__getattr__" = some none)
    (hd0 : PySem.W.hasDictIn K C0 = true)
    (ha0 : PySem.W.findIn K (.ref C0) "__class__" = some (some (.builtin "object.__class__")))
    (mr0 : PySem.W.mroIn K C0 (.type "object") = some true)
    (kp0 : PySem.W.keepIn K (.ref C0) = true)
    (sa0 : PySem.W.findIn K (.ref C0) "__setattr__" = some (some (.builtin "object.__setattr__")))
    (in0 : PySem.W.findIn K (.ref C0) "__init__" = some (some (.ref fe0)))
    (fn0 : PySem.W.typeIn K (.ref fe0) = some (.type "function"))
    (lk0 : K.lookup fe0 = some ⟨oce0, ode0, .func (PySem.W.fnOf "__init__" "Wrong.__init__" (defArgs s_Wrong___init__) (defBody s_Wrong___init__) (defScope s_Wrong___init__) .none kVe0 dce0 pme0 ane0 cde0 cte0), sle0⟩)
    (cc0 : PySem.W.codeIn K cde0 "Wrong.__init__" = true)
    (kk0 : PySem.W.keepIn K (.ref fe0) = true)
    (no0 : PySem.W.findIn K (.ref C0) "place" = some none)
    (xg1 : PySem.W.nsIn K mainGlobals "NoRow" = some (some (.ref C1)))
    (l1x : K.lookup C1 = some (excClassObj nm1 qn1 C1 NN1 bs1 (.ref PE_ :: veB) true sn1 sub1 ab1 col1 dd1 p1 q1 r1 s1 t1 "ValueError.__new__"))
    (ga1 : PySem.W.findIn K (.ref C1) "__getattribute__" = some (some (.builtin "BaseException.__getattribute__")))
    (gg1 : PySem.W.findIn K (.ref C1) "__getattr__" = some none)
    (hd1 : PySem.W.hasDictIn K C1 = true)
    (ha1 : PySem.W.findIn K (.ref C1) "__class__" = some (some (.builtin "object.__class__")))
    (mr1 : PySem.W.mroIn K C1 (.type "object") = some true)
    (kp1 : PySem.W.keepIn K (.ref C1) = true)
    (sa1 : PySem.W.findIn K (.ref C1) "__setattr__" = some (some (.builtin "object.__setattr__")))
    (in1 : PySem.W.findIn K (.ref C1) "__init__" = some (some (.ref fe1)))
    (fn1 : PySem.W.typeIn K (.ref fe1) = some (.type "function"))
    (lk1 : K.lookup fe1 = some ⟨oce1, ode1, .func (PySem.W.fnOf "__init__" "NoRow.__init__" (defArgs s_NoRow___init__) (defBody s_NoRow___init__) (defScope s_NoRow___init__) .none kVe1 dce1 pme1 ane1 cde1 cte1), sle1⟩)
    (cc1 : PySem.W.codeIn K cde1 "NoRow.__init__" = true)
    (kk1 : PySem.W.keepIn K (.ref fe1) = true)
    (no1 : PySem.W.findIn K (.ref C1) "at" = some none)
    (xg2 : PySem.W.nsIn K mainGlobals "BadStep" = some (some (.ref C2)))
    (l2x : K.lookup C2 = some (excClassObj nm2 qn2 C2 NN2 bs2 (.ref PE_ :: veB) true sn2 sub2 ab2 col2 dd2 p2 q2 r2 s2 t2 "ValueError.__new__"))
    (ga2 : PySem.W.findIn K (.ref C2) "__getattribute__" = some (some (.builtin "BaseException.__getattribute__")))
    (gg2 : PySem.W.findIn K (.ref C2) "__getattr__" = some none)
    (hd2 : PySem.W.hasDictIn K C2 = true)
    (ha2 : PySem.W.findIn K (.ref C2) "__class__" = some (some (.builtin "object.__class__")))
    (mr2 : PySem.W.mroIn K C2 (.type "object") = some true)
    (kp2 : PySem.W.keepIn K (.ref C2) = true)
    (sa2 : PySem.W.findIn K (.ref C2) "__setattr__" = some (some (.builtin "object.__setattr__")))
    (in2 : PySem.W.findIn K (.ref C2) "__init__" = some (some (.ref fe2)))
    (fn2 : PySem.W.typeIn K (.ref fe2) = some (.type "function"))
    (lk2 : K.lookup fe2 = some ⟨oce2, ode2, .func (PySem.W.fnOf "__init__" "BadStep.__init__" (defArgs s_BadStep___init__) (defBody s_BadStep___init__) (defScope s_BadStep___init__) .none kVe2 dce2 pme2 ane2 cde2 cte2), sle2⟩)
    (cc2 : PySem.W.codeIn K cde2 "BadStep.__init__" = true)
    (kk2 : PySem.W.keepIn K (.ref fe2) = true)
    (no2 : PySem.W.findIn K (.ref C2) "index" = some none)
    (xg3 : PySem.W.nsIn K mainGlobals "NoStep" = some (some (.ref C3)))
    (l3x : K.lookup C3 = some (excClassObj nm3 qn3 C3 NN3 bs3 (.ref PE_ :: veB) true sn3 sub3 ab3 col3 dd3 p3 q3 r3 s3 t3 "ValueError.__new__"))
    (ga3 : PySem.W.findIn K (.ref C3) "__getattribute__" = some (some (.builtin "BaseException.__getattribute__")))
    (gg3 : PySem.W.findIn K (.ref C3) "__getattr__" = some none)
    (hd3 : PySem.W.hasDictIn K C3 = true)
    (ha3 : PySem.W.findIn K (.ref C3) "__class__" = some (some (.builtin "object.__class__")))
    (mr3 : PySem.W.mroIn K C3 (.type "object") = some true)
    (kp3 : PySem.W.keepIn K (.ref C3) = true)
    (sa3 : PySem.W.findIn K (.ref C3) "__setattr__" = some (some (.builtin "object.__setattr__")))
    (in3 : PySem.W.findIn K (.ref C3) "__init__" = some (some (.ref fe3)))
    (fn3 : PySem.W.typeIn K (.ref fe3) = some (.type "function"))
    (lk3 : K.lookup fe3 = some ⟨oce3, ode3, .func (PySem.W.fnOf "__init__" "NoStep.__init__" (defArgs s_NoStep___init__) (defBody s_NoStep___init__) (defScope s_NoStep___init__) .none kVe3 dce3 pme3 ane3 cde3 cte3), sle3⟩)
    (cc3 : PySem.W.codeIn K cde3 "NoStep.__init__" = true)
    (kk3 : PySem.W.keepIn K (.ref fe3) = true)
    (no3 : PySem.W.findIn K (.ref C3) "index" = some none)
    (xg4 : PySem.W.nsIn K mainGlobals "NotPicked" = some (some (.ref C4)))
    (l4x : K.lookup C4 = some (excClassObj nm4 qn4 C4 NN4 bs4 (.ref PE_ :: veB) true sn4 sub4 ab4 col4 dd4 p4 q4 r4 s4 t4 "ValueError.__new__"))
    (ga4 : PySem.W.findIn K (.ref C4) "__getattribute__" = some (some (.builtin "BaseException.__getattribute__")))
    (gg4 : PySem.W.findIn K (.ref C4) "__getattr__" = some none)
    (hd4 : PySem.W.hasDictIn K C4 = true)
    (ha4 : PySem.W.findIn K (.ref C4) "__class__" = some (some (.builtin "object.__class__")))
    (mr4 : PySem.W.mroIn K C4 (.type "object") = some true)
    (kp4 : PySem.W.keepIn K (.ref C4) = true)
    (sa4 : PySem.W.findIn K (.ref C4) "__setattr__" = some (some (.builtin "object.__setattr__")))
    (in4 : PySem.W.findIn K (.ref C4) "__init__" = some (some (.ref fe4)))
    (fn4 : PySem.W.typeIn K (.ref fe4) = some (.type "function"))
    (lk4 : K.lookup fe4 = some ⟨oce4, ode4, .func (PySem.W.fnOf "__init__" "NotPicked.__init__" (defArgs s_NotPicked___init__) (defBody s_NotPicked___init__) (defScope s_NotPicked___init__) .none kVe4 dce4 pme4 ane4 cde4 cte4), sle4⟩)
    (cc4 : PySem.W.codeIn K cde4 "NotPicked.__init__" = true)
    (kk4 : PySem.W.keepIn K (.ref fe4) = true)
    (no4 : PySem.W.findIn K (.ref C4) "number" = some none)
    (xg5 : PySem.W.nsIn K mainGlobals "Stopped" = some (some (.ref C5)))
    (l5x : K.lookup C5 = some (excClassObj nm5 qn5 C5 NN5 bs5 (.ref PE_ :: veB) true sn5 sub5 ab5 col5 dd5 p5 q5 r5 s5 t5 "ValueError.__new__"))
    (ga5 : PySem.W.findIn K (.ref C5) "__getattribute__" = some (some (.builtin "BaseException.__getattribute__")))
    (gg5 : PySem.W.findIn K (.ref C5) "__getattr__" = some none)
    (hd5 : PySem.W.hasDictIn K C5 = true)
    (ha5 : PySem.W.findIn K (.ref C5) "__class__" = some (some (.builtin "object.__class__")))
    (mr5 : PySem.W.mroIn K C5 (.type "object") = some true)
    (kp5 : PySem.W.keepIn K (.ref C5) = true)
    (sa5 : PySem.W.findIn K (.ref C5) "__setattr__" = some (some (.builtin "object.__setattr__")))
    (in5 : PySem.W.findIn K (.ref C5) "__init__" = some (some (.ref fe5)))
    (fn5 : PySem.W.typeIn K (.ref fe5) = some (.type "function"))
    (lk5 : K.lookup fe5 = some ⟨oce5, ode5, .func (PySem.W.fnOf "__init__" "Stopped.__init__" (defArgs s_Stopped___init__) (defBody s_Stopped___init__) (defScope s_Stopped___init__) .none kVe5 dce5 pme5 ane5 cde5 cte5), sle5⟩)
    (cc5 : PySem.W.codeIn K cde5 "Stopped.__init__" = true)
    (kk5 : PySem.W.keepIn K (.ref fe5) = true)
    (no5 : PySem.W.findIn K (.ref C5) "index" = some none)
    (xg6 : PySem.W.nsIn K mainGlobals "BadEdit" = some (some (.ref C6)))
    (l6x : K.lookup C6 = some (excClassObj nm6 qn6 C6 NN6 bs6 (.ref PE_ :: veB) true sn6 sub6 ab6 col6 dd6 p6 q6 r6 s6 t6 "ValueError.__new__"))
    (ga6 : PySem.W.findIn K (.ref C6) "__getattribute__" = some (some (.builtin "BaseException.__getattribute__")))
    (gg6 : PySem.W.findIn K (.ref C6) "__getattr__" = some none)
    (hd6 : PySem.W.hasDictIn K C6 = true)
    (ha6 : PySem.W.findIn K (.ref C6) "__class__" = some (some (.builtin "object.__class__")))
    (mr6 : PySem.W.mroIn K C6 (.type "object") = some true)
    (kp6 : PySem.W.keepIn K (.ref C6) = true)
    (sa6 : PySem.W.findIn K (.ref C6) "__setattr__" = some (some (.builtin "object.__setattr__")))
    (in6 : PySem.W.findIn K (.ref C6) "__init__" = some (some (.ref fe6)))
    (fn6 : PySem.W.typeIn K (.ref fe6) = some (.type "function"))
    (lk6 : K.lookup fe6 = some ⟨oce6, ode6, .func (PySem.W.fnOf "__init__" "BadEdit.__init__" (defArgs s_BadEdit___init__) (defBody s_BadEdit___init__) (defScope s_BadEdit___init__) .none kVe6 dce6 pme6 ane6 cde6 cte6), sle6⟩)
    (cc6 : PySem.W.codeIn K cde6 "BadEdit.__init__" = true)
    (kk6 : PySem.W.keepIn K (.ref fe6) = true)
    (no6 : PySem.W.findIn K (.ref C6) "index" = some none)
    (xg7 : PySem.W.nsIn K mainGlobals "HasPlace" = some (some (.ref C7)))
    (l7x : K.lookup C7 = some (excClassObj nm7 qn7 C7 NN7 bs7 (.ref PE_ :: veB) true sn7 sub7 ab7 col7 dd7 p7 q7 r7 s7 t7 "ValueError.__new__"))
    (ga7 : PySem.W.findIn K (.ref C7) "__getattribute__" = some (some (.builtin "BaseException.__getattribute__")))
    (gg7 : PySem.W.findIn K (.ref C7) "__getattr__" = some none)
    (hd7 : PySem.W.hasDictIn K C7 = true)
    (ha7 : PySem.W.findIn K (.ref C7) "__class__" = some (some (.builtin "object.__class__")))
    (mr7 : PySem.W.mroIn K C7 (.type "object") = some true)
    (kp7 : PySem.W.keepIn K (.ref C7) = true)
    (sa7 : PySem.W.findIn K (.ref C7) "__setattr__" = some (some (.builtin "object.__setattr__")))
    (in7 : PySem.W.findIn K (.ref C7) "__init__" = some (some (.ref fe7)))
    (fn7 : PySem.W.typeIn K (.ref fe7) = some (.type "function"))
    (lk7 : K.lookup fe7 = some ⟨oce7, ode7, .func (PySem.W.fnOf "__init__" "HasPlace.__init__" (defArgs s_HasPlace___init__) (defBody s_HasPlace___init__) (defScope s_HasPlace___init__) .none kVe7 dce7 pme7 ane7 cde7 cte7), sle7⟩)
    (cc7 : PySem.W.codeIn K cde7 "HasPlace.__init__" = true)
    (kk7 : PySem.W.keepIn K (.ref fe7) = true)
    (no7 : PySem.W.findIn K (.ref C7) "index" = some none)
    (xg8 : PySem.W.nsIn K mainGlobals "TooMany" = some (some (.ref C8)))
    (l8x : K.lookup C8 = some (excClassObj nm8 qn8 C8 NN8 bs8 (.ref PE_ :: veB) true sn8 sub8 ab8 col8 dd8 p8 q8 r8 s8 t8 "ValueError.__new__"))
    (ga8 : PySem.W.findIn K (.ref C8) "__getattribute__" = some (some (.builtin "BaseException.__getattribute__")))
    (gg8 : PySem.W.findIn K (.ref C8) "__getattr__" = some none)
    (hd8 : PySem.W.hasDictIn K C8 = true)
    (ha8 : PySem.W.findIn K (.ref C8) "__class__" = some (some (.builtin "object.__class__")))
    (mr8 : PySem.W.mroIn K C8 (.type "object") = some true)
    (kp8 : PySem.W.keepIn K (.ref C8) = true)
    (sa8 : PySem.W.findIn K (.ref C8) "__setattr__" = some (some (.builtin "object.__setattr__")))
    (in8 : PySem.W.findIn K (.ref C8) "__init__" = some (some (.ref fe8)))
    (fn8 : PySem.W.typeIn K (.ref fe8) = some (.type "function"))
    (lk8 : K.lookup fe8 = some ⟨oce8, ode8, .func (PySem.W.fnOf "__init__" "TooMany.__init__" (defArgs s_TooMany___init__) (defBody s_TooMany___init__) (defScope s_TooMany___init__) .none kVe8 dce8 pme8 ane8 cde8 cte8), sle8⟩)
    (cc8 : PySem.W.codeIn K cde8 "TooMany.__init__" = true)
    (kk8 : PySem.W.keepIn K (.ref fe8) = true)
    (no8 : PySem.W.findIn K (.ref C8) "most" = some none)
    (xg9 : PySem.W.nsIn K mainGlobals "Full" = some (some (.ref C9)))
    (l9x : K.lookup C9 = some (excClassObj nm9 qn9 C9 NN9 bs9 (.ref PE_ :: veB) true sn9 sub9 ab9 col9 dd9 p9 q9 r9 s9 t9 "ValueError.__new__"))
    (ga9 : PySem.W.findIn K (.ref C9) "__getattribute__" = some (some (.builtin "BaseException.__getattribute__")))
    (gg9 : PySem.W.findIn K (.ref C9) "__getattr__" = some none)
    (hd9 : PySem.W.hasDictIn K C9 = true)
    (ha9 : PySem.W.findIn K (.ref C9) "__class__" = some (some (.builtin "object.__class__")))
    (mr9 : PySem.W.mroIn K C9 (.type "object") = some true)
    (kp9 : PySem.W.keepIn K (.ref C9) = true)
    (sa9 : PySem.W.findIn K (.ref C9) "__setattr__" = some (some (.builtin "object.__setattr__")))
    (in9 : PySem.W.findIn K (.ref C9) "__init__" = some (some (.ref fe9)))
    (fn9 : PySem.W.typeIn K (.ref fe9) = some (.type "function"))
    (lk9 : K.lookup fe9 = some ⟨oce9, ode9, .func (PySem.W.fnOf "__init__" "Full.__init__" (defArgs s_Full___init__) (defBody s_Full___init__) (defScope s_Full___init__) .none kVe9 dce9 pme9 ane9 cde9 cte9), sle9⟩)
    (cc9 : PySem.W.codeIn K cde9 "Full.__init__" = true)
    (kk9 : PySem.W.keepIn K (.ref fe9) = true)
    (no9 : PySem.W.findIn K (.ref C9) "limit" = some none)
    (xg10 : PySem.W.nsIn K mainGlobals "Refused" = some (some (.ref C10)))
    (l10x : K.lookup C10 = some (excClassObj nm10 qn10 C10 NN10 bs10 (.ref PE_ :: veB) true sn10 sub10 ab10 col10 dd10 p10 q10 r10 s10 t10 "ValueError.__new__"))
    (ga10 : PySem.W.findIn K (.ref C10) "__getattribute__" = some (some (.builtin "BaseException.__getattribute__")))
    (gg10 : PySem.W.findIn K (.ref C10) "__getattr__" = some none)
    (hd10 : PySem.W.hasDictIn K C10 = true)
    (ha10 : PySem.W.findIn K (.ref C10) "__class__" = some (some (.builtin "object.__class__")))
    (mr10 : PySem.W.mroIn K C10 (.type "object") = some true)
    (kp10 : PySem.W.keepIn K (.ref C10) = true)
    (sa10 : PySem.W.findIn K (.ref C10) "__setattr__" = some (some (.builtin "object.__setattr__")))
    (in10 : PySem.W.findIn K (.ref C10) "__init__" = some (some (.ref fe10)))
    (fn10 : PySem.W.typeIn K (.ref fe10) = some (.type "function"))
    (lk10 : K.lookup fe10 = some ⟨oce10, ode10, .func (PySem.W.fnOf "__init__" "Refused.__init__" (defArgs s_Refused___init__) (defBody s_Refused___init__) (defScope s_Refused___init__) .none kVe10 dce10 pme10 ane10 cde10 cte10), sle10⟩)
    (cc10 : PySem.W.codeIn K cde10 "Refused.__init__" = true)
    (kk10 : PySem.W.keepIn K (.ref fe10) = true)
    (no10 : PySem.W.findIn K (.ref C10) "deed" = some none)
    (xg11 : PySem.W.nsIn K mainGlobals "NoEntry" = some (some (.ref C11)))
    (l11x : K.lookup C11 = some (excClassObj nm11 qn11 C11 NN11 bs11 (.ref PE_ :: veB) true sn11 sub11 ab11 col11 dd11 p11 q11 r11 s11 t11 "ValueError.__new__"))
    (ga11 : PySem.W.findIn K (.ref C11) "__getattribute__" = some (some (.builtin "BaseException.__getattribute__")))
    (gg11 : PySem.W.findIn K (.ref C11) "__getattr__" = some none)
    (hd11 : PySem.W.hasDictIn K C11 = true)
    (ha11 : PySem.W.findIn K (.ref C11) "__class__" = some (some (.builtin "object.__class__")))
    (mr11 : PySem.W.mroIn K C11 (.type "object") = some true)
    (kp11 : PySem.W.keepIn K (.ref C11) = true)
    (sa11 : PySem.W.findIn K (.ref C11) "__setattr__" = some (some (.builtin "object.__setattr__")))
    (in11 : PySem.W.findIn K (.ref C11) "__init__" = some (some (.ref fe11)))
    (fn11 : PySem.W.typeIn K (.ref fe11) = some (.type "function"))
    (lk11 : K.lookup fe11 = some ⟨oce11, ode11, .func (PySem.W.fnOf "__init__" "NoEntry.__init__" (defArgs s_NoEntry___init__) (defBody s_NoEntry___init__) (defScope s_NoEntry___init__) .none kVe11 dce11 pme11 ane11 cde11 cte11), sle11⟩)
    (cc11 : PySem.W.codeIn K cde11 "NoEntry.__init__" = true)
    (kk11 : PySem.W.keepIn K (.ref fe11) = true)
    (no11 : PySem.W.findIn K (.ref C11) "many" = some none)
    (xg12 : PySem.W.nsIn K mainGlobals "Stuck" = some (some (.ref C12)))
    (l12x : K.lookup C12 = some (excClassObj nm12 qn12 C12 NN12 bs12 (.ref PE_ :: veB) true sn12 sub12 ab12 col12 dd12 p12 q12 r12 s12 t12 "ValueError.__new__"))
    (ga12 : PySem.W.findIn K (.ref C12) "__getattribute__" = some (some (.builtin "BaseException.__getattribute__")))
    (gg12 : PySem.W.findIn K (.ref C12) "__getattr__" = some none)
    (hd12 : PySem.W.hasDictIn K C12 = true)
    (ha12 : PySem.W.findIn K (.ref C12) "__class__" = some (some (.builtin "object.__class__")))
    (mr12 : PySem.W.mroIn K C12 (.type "object") = some true)
    (kp12 : PySem.W.keepIn K (.ref C12) = true)
    (eq12 : PySem.W.excIn K C12 veB "ValueError.__new__" = true)
    (xg13 : PySem.W.nsIn K mainGlobals "Closed" = some (some (.ref C13)))
    (l13x : K.lookup C13 = some (excClassObj nm13 qn13 C13 NN13 bs13 (.ref PE_ :: veB) true sn13 sub13 ab13 col13 dd13 p13 q13 r13 s13 t13 "ValueError.__new__"))
    (ga13 : PySem.W.findIn K (.ref C13) "__getattribute__" = some (some (.builtin "BaseException.__getattribute__")))
    (gg13 : PySem.W.findIn K (.ref C13) "__getattr__" = some none)
    (hd13 : PySem.W.hasDictIn K C13 = true)
    (ha13 : PySem.W.findIn K (.ref C13) "__class__" = some (some (.builtin "object.__class__")))
    (mr13 : PySem.W.mroIn K C13 (.type "object") = some true)
    (kp13 : PySem.W.keepIn K (.ref C13) = true)
    (eq13 : PySem.W.excIn K C13 veB "ValueError.__new__" = true)
    (xg14 : PySem.W.nsIn K mainGlobals "Unlike" = some (some (.ref C14)))
    (l14x : K.lookup C14 = some (excClassObj nm14 qn14 C14 NN14 bs14 (.ref PE_ :: veB) true sn14 sub14 ab14 col14 dd14 p14 q14 r14 s14 t14 "ValueError.__new__"))
    (ga14 : PySem.W.findIn K (.ref C14) "__getattribute__" = some (some (.builtin "BaseException.__getattribute__")))
    (gg14 : PySem.W.findIn K (.ref C14) "__getattr__" = some none)
    (hd14 : PySem.W.hasDictIn K C14 = true)
    (ha14 : PySem.W.findIn K (.ref C14) "__class__" = some (some (.builtin "object.__class__")))
    (mr14 : PySem.W.mroIn K C14 (.type "object") = some true)
    (kp14 : PySem.W.keepIn K (.ref C14) = true)
    (eq14 : PySem.W.excIn K C14 veB "ValueError.__new__" = true)
    (xg15 : PySem.W.nsIn K mainGlobals "Nothing" = some (some (.ref C15)))
    (l15x : K.lookup C15 = some (excClassObj nm15 qn15 C15 NN15 bs15 (.ref PE_ :: veB) true sn15 sub15 ab15 col15 dd15 p15 q15 r15 s15 t15 "ValueError.__new__"))
    (ga15 : PySem.W.findIn K (.ref C15) "__getattribute__" = some (some (.builtin "BaseException.__getattribute__")))
    (gg15 : PySem.W.findIn K (.ref C15) "__getattr__" = some none)
    (hd15 : PySem.W.hasDictIn K C15 = true)
    (ha15 : PySem.W.findIn K (.ref C15) "__class__" = some (some (.builtin "object.__class__")))
    (mr15 : PySem.W.mroIn K C15 (.type "object") = some true)
    (kp15 : PySem.W.keepIn K (.ref C15) = true)
    (eq15 : PySem.W.excIn K C15 veB "ValueError.__new__" = true)
    (xg16 : PySem.W.nsIn K mainGlobals "NoDeed" = some (some (.ref C16)))
    (l16x : K.lookup C16 = some (excClassObj nm16 qn16 C16 NN16 bs16 (.ref PE_ :: veB) true sn16 sub16 ab16 col16 dd16 p16 q16 r16 s16 t16 "ValueError.__new__"))
    (ga16 : PySem.W.findIn K (.ref C16) "__getattribute__" = some (some (.builtin "BaseException.__getattribute__")))
    (gg16 : PySem.W.findIn K (.ref C16) "__getattr__" = some none)
    (hd16 : PySem.W.hasDictIn K C16 = true)
    (ha16 : PySem.W.findIn K (.ref C16) "__class__" = some (some (.builtin "object.__class__")))
    (mr16 : PySem.W.mroIn K C16 (.type "object") = some true)
    (kp16 : PySem.W.keepIn K (.ref C16) = true)
    (eq16 : PySem.W.excIn K C16 veB "ValueError.__new__" = true)
    (xg17 : PySem.W.nsIn K mainGlobals "NoText" = some (some (.ref C17)))
    (l17x : K.lookup C17 = some (excClassObj nm17 qn17 C17 NN17 bs17 (.ref PE_ :: veB) true sn17 sub17 ab17 col17 dd17 p17 q17 r17 s17 t17 "ValueError.__new__"))
    (ga17 : PySem.W.findIn K (.ref C17) "__getattribute__" = some (some (.builtin "BaseException.__getattribute__")))
    (gg17 : PySem.W.findIn K (.ref C17) "__getattr__" = some none)
    (hd17 : PySem.W.hasDictIn K C17 = true)
    (ha17 : PySem.W.findIn K (.ref C17) "__class__" = some (some (.builtin "object.__class__")))
    (mr17 : PySem.W.mroIn K C17 (.type "object") = some true)
    (kp17 : PySem.W.keepIn K (.ref C17) = true)
    (eq17 : PySem.W.excIn K C17 veB "ValueError.__new__" = true)
    (xg18 : PySem.W.nsIn K mainGlobals "NoCommand" = some (some (.ref C18)))
    (l18x : K.lookup C18 = some (excClassObj nm18 qn18 C18 NN18 bs18 (.ref PE_ :: veB) true sn18 sub18 ab18 col18 dd18 p18 q18 r18 s18 t18 "ValueError.__new__"))
    (ga18 : PySem.W.findIn K (.ref C18) "__getattribute__" = some (some (.builtin "BaseException.__getattribute__")))
    (gg18 : PySem.W.findIn K (.ref C18) "__getattr__" = some none)
    (hd18 : PySem.W.hasDictIn K C18 = true)
    (ha18 : PySem.W.findIn K (.ref C18) "__class__" = some (some (.builtin "object.__class__")))
    (mr18 : PySem.W.mroIn K C18 (.type "object") = some true)
    (kp18 : PySem.W.keepIn K (.ref C18) = true)
    (eq18 : PySem.W.excIn K C18 veB "ValueError.__new__" = true)
    (gP : PySem.W.nsIn K mainGlobals "PickError" = some (some (.ref PE_)))
    (cHn : PySem.W.specialIn K (.builtin "object.__class__") "__get__" = some (some (.builtin "getset_descriptor.__get__")))
    (cTk : PySem.W.takesIn K (.builtin "object.__class__") = some true)
    (pEx : PySem.W.subIn K (.ref PE_) (.type "BaseException") = some true)
    (pHd : PySem.W.hasDictIn K PE_ = true)
    (pTy : PySem.W.typeIn K (.ref PE_) = some (.type "type"))
    (nd : ∀ i, i < 19 → ∀ j, j < 19 → i ≠ j → ([C0, C1, C2, C3, C4, C5, C6, C7, C8, C9, C10, C11, C12, C13, C14, C15, C16, C17, C18] : List Addr).getD i 0 ≠ ([C0, C1, C2, C3, C4, C5, C6, C7, C8, C9, C10, C11, C12, C13, C14, C15, C16, C17, C18] : List Addr).getD j 0)
    (np : ∀ j, j < 19 → ([C0, C1, C2, C3, C4, C5, C6, C7, C8, C9, C10, C11, C12, C13, C14, C15, C16, C17, C18] : List Addr).getD j 0 ≠ PE_) :
    ∃ fd : FuncData, (∀ (s : Shared) (v : Value), BindsTo s fd ⟨[v], []⟩ [("_law_script", v)]) ∧ ∀ base : Heap, K.In base → base.Ns mainGlobals mg → FnG P w K mg base 6 fa fd ["_law_script"] (spLaw K) := by
  have e := hfa.symm.trans (PySem.W.mg_of X G a9)
  cases e
  have D_l_bag : Df K mg "_law_bag" s_l_bag := df_mk X G a0 l0 c0 k0
  have D_l_take : Df K mg "_law_take" s_l_take := df_mk X G a1 l1 c1 k1
  have D_l_some : Df K mg "_law_some" s_l_some := df_mk X G a2 l2 c2 k2
  have D_l_odd : Df K mg "_law_odd" s_l_odd := df_mk X G a3 l3 c3 k3
  have D_l_raised : Df K mg "_law_raised" s_l_raised := df_mk X G a4 l4 c4 k4
  have D_l_raised_too : Df K mg "_law_raised_too" s_l_raised_too := df_mk X G a5 l5 c5 k5
  have D_l_flags : Df K mg "_law_flags" s_l_flags := df_mk X G a6 l6 c6 k6
  have D_l_field : Df K mg "_law_field" s_l_field := df_mk X G a7 l7 c7 k7
  have D_l_right : Df K mg "_law_right" s_l_right := df_mk X G a8 l8 c8 k8
  have F_law := fun_mk (st := s_law) l9 c9 k9
  refine ⟨PySem.W.fnOf "law" "law" (defArgs s_law) (defBody s_law) (defScope s_law) .none kV9 dc9 pm9 an9 cd9 ct9, fun s v => .of_eq rfl, fun base _ _ => ?_⟩
  have T : Txt0 mg := ⟨PySem.W.mg_none_of X G z_abs, PySem.W.mg_none_of X G z_int, PySem.W.mg_none_of X G z_len, PySem.W.mg_none_of X G z_tuple, PySem.W.mg_none_of X G z_list, PySem.W.mg_none_of X G z_all, PySem.W.mg_none_of X G z_any, PySem.W.mg_none_of X G z_zip, PySem.W.mg_none_of X G z_range, PySem.W.mg_none_of X G z_repr, PySem.W.mg_none_of X G z_dict⟩
  let cl : Nat → Addr := fun i => ([C0, C1, C2, C3, C4, C5, C6, C7, C8, C9, C10, C11, C12, C13, C14, C15, C16, C17, C18] : List Addr).getD i 0
  have ok0 := clsOk_of l0x
  have ok1 := clsOk_of l1x
  have ok2 := clsOk_of l2x
  have ok3 := clsOk_of l3x
  have ok4 := clsOk_of l4x
  have ok5 := clsOk_of l5x
  have ok6 := clsOk_of l6x
  have ok7 := clsOk_of l7x
  have ok8 := clsOk_of l8x
  have ok9 := clsOk_of l9x
  have ok10 := clsOk_of l10x
  have ok11 := clsOk_of l11x
  have ok12 := clsOk_of l12x
  have ok13 := clsOk_of l13x
  have ok14 := clsOk_of l14x
  have ok15 := clsOk_of l15x
  have ok16 := clsOk_of l16x
  have ok17 := clsOk_of l17x
  have ok18 := clsOk_of l18x
  have oks : ∀ i, i < 19 → ClsOk K (cl i) PE_ := fun k hk => match k, hk with | 0, _ => ok0 | 1, _ => ok1 | 2, _ => ok2 | 3, _ => ok3 | 4, _ => ok4 | 5, _ => ok5 | 6, _ => ok6 | 7, _ => ok7 | 8, _ => ok8 | 9, _ => ok9 | 10, _ => ok10 | 11, _ => ok11 | 12, _ => ok12 | 13, _ => ok13 | 14, _ => ok14 | 15, _ => ok15 | 16, _ => ok16 | 17, _ => ok17 | 18, _ => ok18 | n + 19, h => absurd h (by omega)
  have OX0 : OexC K C0 := ⟨⟨_, _, _, _, _, _, _, _, _, _, _, _, _, _, _, l0x, rfl⟩, sa0, sub_has ok0 (by decide +kernel), ok0.ty, kp0⟩
  have FI0 := fun_mk (st := s_Wrong___init__) lk0 cc0 kk0
  have BI0 := FI0.binds (ps := ["self", "place"]) fun _ _ _ _ _ _ us hl => match us, hl with | [_, _], _ => rfl
  have OX1 : OexC K C1 := ⟨⟨_, _, _, _, _, _, _, _, _, _, _, _, _, _, _, l1x, rfl⟩, sa1, sub_has ok1 (by decide +kernel), ok1.ty, kp1⟩
  have FI1 := fun_mk (st := s_NoRow___init__) lk1 cc1 kk1
  have BI1 := FI1.binds (ps := ["self", "at"]) fun _ _ _ _ _ _ us hl => match us, hl with | [_, _], _ => rfl
  have OX2 : OexC K C2 := ⟨⟨_, _, _, _, _, _, _, _, _, _, _, _, _, _, _, l2x, rfl⟩, sa2, sub_has ok2 (by decide +kernel), ok2.ty, kp2⟩
  have FI2 := fun_mk (st := s_BadStep___init__) lk2 cc2 kk2
  have BI2 := FI2.binds (ps := ["self", "index"]) fun _ _ _ _ _ _ us hl => match us, hl with | [_, _], _ => rfl
  have OX3 : OexC K C3 := ⟨⟨_, _, _, _, _, _, _, _, _, _, _, _, _, _, _, l3x, rfl⟩, sa3, sub_has ok3 (by decide +kernel), ok3.ty, kp3⟩
  have FI3 := fun_mk (st := s_NoStep___init__) lk3 cc3 kk3
  have BI3 := FI3.binds (ps := ["self", "index"]) fun _ _ _ _ _ _ us hl => match us, hl with | [_, _], _ => rfl
  have OX4 : OexC K C4 := ⟨⟨_, _, _, _, _, _, _, _, _, _, _, _, _, _, _, l4x, rfl⟩, sa4, sub_has ok4 (by decide +kernel), ok4.ty, kp4⟩
  have FI4 := fun_mk (st := s_NotPicked___init__) lk4 cc4 kk4
  have BI4 := FI4.binds (ps := ["self", "number"]) fun _ _ _ _ _ _ us hl => match us, hl with | [_, _], _ => rfl
  have OX5 : OexC K C5 := ⟨⟨_, _, _, _, _, _, _, _, _, _, _, _, _, _, _, l5x, rfl⟩, sa5, sub_has ok5 (by decide +kernel), ok5.ty, kp5⟩
  have FI5 := fun_mk (st := s_Stopped___init__) lk5 cc5 kk5
  have BI5 := FI5.binds (ps := ["self", "index"]) fun _ _ _ _ _ _ us hl => match us, hl with | [_, _], _ => rfl
  have OX6 : OexC K C6 := ⟨⟨_, _, _, _, _, _, _, _, _, _, _, _, _, _, _, l6x, rfl⟩, sa6, sub_has ok6 (by decide +kernel), ok6.ty, kp6⟩
  have FI6 := fun_mk (st := s_BadEdit___init__) lk6 cc6 kk6
  have BI6 := FI6.binds (ps := ["self", "index"]) fun _ _ _ _ _ _ us hl => match us, hl with | [_, _], _ => rfl
  have OX7 : OexC K C7 := ⟨⟨_, _, _, _, _, _, _, _, _, _, _, _, _, _, _, l7x, rfl⟩, sa7, sub_has ok7 (by decide +kernel), ok7.ty, kp7⟩
  have FI7 := fun_mk (st := s_HasPlace___init__) lk7 cc7 kk7
  have BI7 := FI7.binds (ps := ["self", "index"]) fun _ _ _ _ _ _ us hl => match us, hl with | [_, _], _ => rfl
  have OX8 : OexC K C8 := ⟨⟨_, _, _, _, _, _, _, _, _, _, _, _, _, _, _, l8x, rfl⟩, sa8, sub_has ok8 (by decide +kernel), ok8.ty, kp8⟩
  have FI8 := fun_mk (st := s_TooMany___init__) lk8 cc8 kk8
  have BI8 := FI8.binds (ps := ["self", "most"]) fun _ _ _ _ _ _ us hl => match us, hl with | [_, _], _ => rfl
  have OX9 : OexC K C9 := ⟨⟨_, _, _, _, _, _, _, _, _, _, _, _, _, _, _, l9x, rfl⟩, sa9, sub_has ok9 (by decide +kernel), ok9.ty, kp9⟩
  have FI9 := fun_mk (st := s_Full___init__) lk9 cc9 kk9
  have BI9 := FI9.binds (ps := ["self", "limit"]) fun _ _ _ _ _ _ us hl => match us, hl with | [_, _], _ => rfl
  have OX10 : OexC K C10 := ⟨⟨_, _, _, _, _, _, _, _, _, _, _, _, _, _, _, l10x, rfl⟩, sa10, sub_has ok10 (by decide +kernel), ok10.ty, kp10⟩
  have FI10 := fun_mk (st := s_Refused___init__) lk10 cc10 kk10
  have BI10 := FI10.binds (ps := ["self", "deed"]) fun _ _ _ _ _ _ us hl => match us, hl with | [_, _], _ => rfl
  have OX11 : OexC K C11 := ⟨⟨_, _, _, _, _, _, _, _, _, _, _, _, _, _, _, l11x, rfl⟩, sa11, sub_has ok11 (by decide +kernel), ok11.ty, kp11⟩
  have FI11 := fun_mk (st := s_NoEntry___init__) lk11 cc11 kk11
  have BI11 := FI11.binds (ps := ["self", "many"]) fun _ _ _ _ _ _ us hl => match us, hl with | [_, _], _ => rfl
  have ES : Errs P w K mg base cl PE_ := ⟨⟨PySem.W.mg_of X G xg0, OX0, _, _, in0, fn0, ok_i_Wrong OX0 no0 FI0, BI0⟩, ⟨PySem.W.mg_of X G xg1, OX1, _, _, in1, fn1, ok_i_NoRow OX1 no1 FI1, BI1⟩, ⟨PySem.W.mg_of X G xg2, OX2, _, _, in2, fn2, ok_i_BadStep OX2 no2 FI2, BI2⟩, ⟨PySem.W.mg_of X G xg3, OX3, _, _, in3, fn3, ok_i_NoStep OX3 no3 FI3, BI3⟩, ⟨PySem.W.mg_of X G xg4, OX4, _, _, in4, fn4, ok_i_NotPicked OX4 no4 FI4, BI4⟩, ⟨PySem.W.mg_of X G xg5, OX5, _, _, in5, fn5, ok_i_Stopped OX5 no5 FI5, BI5⟩, ⟨PySem.W.mg_of X G xg6, OX6, _, _, in6, fn6, ok_i_BadEdit OX6 no6 FI6, BI6⟩, ⟨PySem.W.mg_of X G xg7, OX7, _, _, in7, fn7, ok_i_HasPlace OX7 no7 FI7, BI7⟩, ⟨PySem.W.mg_of X G xg8, OX8, _, _, in8, fn8, ok_i_TooMany OX8 no8 FI8, BI8⟩, ⟨PySem.W.mg_of X G xg9, OX9, _, _, in9, fn9, ok_i_Full OX9 no9 FI9, BI9⟩, ⟨PySem.W.mg_of X G xg10, OX10, _, _, in10, fn10, ok_i_Refused OX10 no10 FI10, BI10⟩, ⟨PySem.W.mg_of X G xg11, OX11, _, _, in11, fn11, ok_i_NoEntry OX11 no11 FI11, BI11⟩, ⟨PySem.W.mg_of X G xg12, eq12, kp12, sub_has ok12 (by decide +kernel), ok12.ty⟩, ⟨PySem.W.mg_of X G xg13, eq13, kp13, sub_has ok13 (by decide +kernel), ok13.ty⟩, ⟨PySem.W.mg_of X G xg14, eq14, kp14, sub_has ok14 (by decide +kernel), ok14.ty⟩, ⟨PySem.W.mg_of X G xg15, eq15, kp15, sub_has ok15 (by decide +kernel), ok15.ty⟩, ⟨PySem.W.mg_of X G xg16, eq16, kp16, sub_has ok16 (by decide +kernel), ok16.ty⟩, ⟨PySem.W.mg_of X G xg17, eq17, kp17, sub_has ok17 (by decide +kernel), ok17.ty⟩, ⟨PySem.W.mg_of X G xg18, eq18, kp18, sub_has ok18 (by decide +kernel), ok18.ty⟩, PySem.W.mg_of X G gP, fun k hk => match k, hk with | 0, _ => ⟨ga0, gg0, sub_has ok0 (by decide +kernel), hd0, ha0, cHn, cTk, mr0⟩ | 1, _ => ⟨ga1, gg1, sub_has ok1 (by decide +kernel), hd1, ha1, cHn, cTk, mr1⟩ | 2, _ => ⟨ga2, gg2, sub_has ok2 (by decide +kernel), hd2, ha2, cHn, cTk, mr2⟩ | 3, _ => ⟨ga3, gg3, sub_has ok3 (by decide +kernel), hd3, ha3, cHn, cTk, mr3⟩ | 4, _ => ⟨ga4, gg4, sub_has ok4 (by decide +kernel), hd4, ha4, cHn, cTk, mr4⟩ | 5, _ => ⟨ga5, gg5, sub_has ok5 (by decide +kernel), hd5, ha5, cHn, cTk, mr5⟩ | 6, _ => ⟨ga6, gg6, sub_has ok6 (by decide +kernel), hd6, ha6, cHn, cTk, mr6⟩ | 7, _ => ⟨ga7, gg7, sub_has ok7 (by decide +kernel), hd7, ha7, cHn, cTk, mr7⟩ | 8, _ => ⟨ga8, gg8, sub_has ok8 (by decide +kernel), hd8, ha8, cHn, cTk, mr8⟩ | 9, _ => ⟨ga9, gg9, sub_has ok9 (by decide +kernel), hd9, ha9, cHn, cTk, mr9⟩ | 10, _ => ⟨ga10, gg10, sub_has ok10 (by decide +kernel), hd10, ha10, cHn, cTk, mr10⟩ | 11, _ => ⟨ga11, gg11, sub_has ok11 (by decide +kernel), hd11, ha11, cHn, cTk, mr11⟩ | 12, _ => ⟨ga12, gg12, sub_has ok12 (by decide +kernel), hd12, ha12, cHn, cTk, mr12⟩ | 13, _ => ⟨ga13, gg13, sub_has ok13 (by decide +kernel), hd13, ha13, cHn, cTk, mr13⟩ | 14, _ => ⟨ga14, gg14, sub_has ok14 (by decide +kernel), hd14, ha14, cHn, cTk, mr14⟩ | 15, _ => ⟨ga15, gg15, sub_has ok15 (by decide +kernel), hd15, ha15, cHn, cTk, mr15⟩ | 16, _ => ⟨ga16, gg16, sub_has ok16 (by decide +kernel), hd16, ha16, cHn, cTk, mr16⟩ | 17, _ => ⟨ga17, gg17, sub_has ok17 (by decide +kernel), hd17, ha17, cHn, cTk, mr17⟩ | 18, _ => ⟨ga18, gg18, sub_has ok18 (by decide +kernel), hd18, ha18, cHn, cTk, mr18⟩ | n + 19, h => absurd h (by omega), fun k hk => match k, hk with | 0, _ => no0 | 1, _ => no1 | 2, _ => no2 | 3, _ => no3 | 4, _ => no4 | 5, _ => no5 | 6, _ => no6 | 7, _ => no7 | 8, _ => no8 | 9, _ => no9 | 10, _ => no10 | 11, _ => no11 | n + 12, h => absurd h (by omega), kit_of oks nd np, fun i hi => ve_of (oks i hi), fun i hi => PySem.W.exm_ref pEx pHd pTy (sub_pe (oks i hi))⟩
  have c1 : CalG P w K mg base 1 "_law_take" spTake := take_ext (ok_takeL T D_l_take)
  have c2 := bag_ext (ok_bagL (P := P) (w := w) (base := base) T D_l_bag)
  have c3 := ok_some (K := K) T D_l_some c1
  have c4 := ok_odd T D_l_odd c3
  have c5 := ok_raised ES D_l_raised
  have c6 := ok_raised_too ES D_l_raised_too
  have TI := PySem.W.mg_none_of X G z_isinstance
  have c7 := ok_flags ES TI D_l_flags
  have c8 := ok_field ES D_l_field
  have c9 := ok_right ES T TI (PySem.W.mg_none_of X G z_ValueError) D_l_right c5 c6 c7 c8
  exact ok_law T F_law c2 c4 c9
theorem walk {l : PySem.W.OpenLaw} {q : Program} {loose : List Str} {XP : (Str → Option Value) → Heap → Prop} {YP : World → Heap → Prop} {d : DefRec} {K : Params → PySem.W.Frag} (most : l.most = some 63) (nodf : d.params.defaults = [])
    (inn : ∀ (w : World) (h : Heap), YP w h → (K w.params).In h)
    (F : ∀ (w : World) (mg : Str → Option Value) (fa : Addr) (h : Heap), (K w.params).In h → h.Ns mainGlobals mg → mg d.name = some (.ref fa) →
      ∃ fd : FuncData, (∀ (s : Shared) (u : Value), BindsTo s fd ⟨[u], []⟩ [("_law_script", u)]) ∧ ∀ base : Heap, (K w.params).In base → base.Ns mainGlobals mg → FnG l.prog w (K w.params) mg base 6 fa fd ["_law_script"] (spLaw (K w.params))) :
    PySem.W.WalkO q loose XP YP l.row.toRowW d [] (fun f vs => PySem.call f vs) :=
  walk_G (n := 63) (k := 6) (x := "_law_script") (sp := fun w => spLaw (K w.params)) most (by decide) nodf ⟨rfl, by decide, by decide⟩ inn F (fun _ _ a ns hl hS => ⟨a, ns, rfl, hS, hl, fun _ => rfl⟩)
end Own
open PySem PySem.W PyProof.Rows in
set_option maxRecDepth 100000 in
set_option maxHeartbeats 0 in
theorem PySem.Challenge.cw_scriptpicks_k10_errors_kept_holds : PySem.Challenge.rw_scriptpicks_k10_errors_kept.Holds := by
  w_on; o_law; k_head; (case hw => w_witness2)
  k_fill
  refine Own.walk (l := PySem.Challenge.rw_scriptpicks_k10_errors_kept) rfl rfl (fun w h Y => PySem.W.kIn_of Y) ?F
  case F =>
    intro w mg fa h KX G hmg
    refine' Own.all_mk KX G hmg ?a0 ?l0 ?c0 ?k0 ?a1 ?l1 ?c1 ?k1 ?a2 ?l2 ?c2 ?k2 ?a3 ?l3 ?c3 ?k3 ?a4 ?l4 ?c4 ?k4 ?a5 ?l5 ?c5 ?k5 ?a6 ?l6 ?c6 ?k6 ?a7 ?l7 ?c7 ?k7 ?a8 ?l8 ?c8 ?k8 ?a9 ?l9 ?c9 ?k9 ?z_abs ?z_int ?z_len ?z_tuple ?z_list ?z_all ?z_any ?z_zip ?z_range ?z_repr ?z_dict ?z_isinstance ?z_ValueError ?xg0 ?l0x ?ga0 ?gg0 ?hd0 ?ha0 ?mr0 ?kp0 ?sa0 ?in0 ?fn0 ?lk0 ?cc0 ?kk0 ?no0 ?xg1 ?l1x ?ga1 ?gg1 ?hd1 ?ha1 ?mr1 ?kp1 ?sa1 ?in1 ?fn1 ?lk1 ?cc1 ?kk1 ?no1 ?xg2 ?l2x ?ga2 ?gg2 ?hd2 ?ha2 ?mr2 ?kp2 ?sa2 ?in2 ?fn2 ?lk2 ?cc2 ?kk2 ?no2 ?xg3 ?l3x ?ga3 ?gg3 ?hd3 ?ha3 ?mr3 ?kp3 ?sa3 ?in3 ?fn3 ?lk3 ?cc3 ?kk3 ?no3 ?xg4 ?l4x ?ga4 ?gg4 ?hd4 ?ha4 ?mr4 ?kp4 ?sa4 ?in4 ?fn4 ?lk4 ?cc4 ?kk4 ?no4 ?xg5 ?l5x ?ga5 ?gg5 ?hd5 ?ha5 ?mr5 ?kp5 ?sa5 ?in5 ?fn5 ?lk5 ?cc5 ?kk5 ?no5 ?xg6 ?l6x ?ga6 ?gg6 ?hd6 ?ha6 ?mr6 ?kp6 ?sa6 ?in6 ?fn6 ?lk6 ?cc6 ?kk6 ?no6 ?xg7 ?l7x ?ga7 ?gg7 ?hd7 ?ha7 ?mr7 ?kp7 ?sa7 ?in7 ?fn7 ?lk7 ?cc7 ?kk7 ?no7 ?xg8 ?l8x ?ga8 ?gg8 ?hd8 ?ha8 ?mr8 ?kp8 ?sa8 ?in8 ?fn8 ?lk8 ?cc8 ?kk8 ?no8 ?xg9 ?l9x ?ga9 ?gg9 ?hd9 ?ha9 ?mr9 ?kp9 ?sa9 ?in9 ?fn9 ?lk9 ?cc9 ?kk9 ?no9 ?xg10 ?l10x ?ga10 ?gg10 ?hd10 ?ha10 ?mr10 ?kp10 ?sa10 ?in10 ?fn10 ?lk10 ?cc10 ?kk10 ?no10 ?xg11 ?l11x ?ga11 ?gg11 ?hd11 ?ha11 ?mr11 ?kp11 ?sa11 ?in11 ?fn11 ?lk11 ?cc11 ?kk11 ?no11 ?xg12 ?l12x ?ga12 ?gg12 ?hd12 ?ha12 ?mr12 ?kp12 ?eq12 ?xg13 ?l13x ?ga13 ?gg13 ?hd13 ?ha13 ?mr13 ?kp13 ?eq13 ?xg14 ?l14x ?ga14 ?gg14 ?hd14 ?ha14 ?mr14 ?kp14 ?eq14 ?xg15 ?l15x ?ga15 ?gg15 ?hd15 ?ha15 ?mr15 ?kp15 ?eq15 ?xg16 ?l16x ?ga16 ?gg16 ?hd16 ?ha16 ?mr16 ?kp16 ?eq16 ?xg17 ?l17x ?ga17 ?gg17 ?hd17 ?ha17 ?mr17 ?kp17 ?eq17 ?xg18 ?l18x ?ga18 ?gg18 ?hd18 ?ha18 ?mr18 ?kp18 ?eq18 ?gP ?cHn ?cTk ?pEx ?pHd ?pTy ?nd ?np
    (case a0 => k_is)
    (case l0 => k_is)
    (case c0 => k_is)
    (case k0 => k_is)
    (case a1 => k_is)
    (case l1 => k_is)
    (case c1 => k_is)
    (case k1 => k_is)
    (case a2 => k_is)
    (case l2 => k_is)
    (case c2 => k_is)
    (case k2 => k_is)
    (case a3 => k_is)
    (case l3 => k_is)
    (case c3 => k_is)
    (case k3 => k_is)
    (case a4 => k_is)
    (case l4 => k_is)
    (case c4 => k_is)
    (case k4 => k_is)
    (case a5 => k_is)
    (case l5 => k_is)
    (case c5 => k_is)
    (case k5 => k_is)
    (case a6 => k_is)
    (case l6 => k_is)
    (case c6 => k_is)
    (case k6 => k_is)
    (case a7 => k_is)
    (case l7 => k_is)
    (case c7 => k_is)
    (case k7 => k_is)
    (case a8 => k_is)
    (case l8 => k_is)
    (case c8 => k_is)
    (case k8 => k_is)
    (case a9 => k_is)
    (case l9 => k_is)
    (case c9 => k_is)
    (case k9 => k_is)
    (case z_abs => k_is)
    (case z_int => k_is)
    (case z_len => k_is)
    (case z_tuple => k_is)
    (case z_list => k_is)
    (case z_all => k_is)
    (case z_any => k_is)
    (case z_zip => k_is)
    (case z_range => k_is)
    (case z_repr => k_is)
    (case z_dict => k_is)
    (case z_isinstance => k_is)
    (case z_ValueError => k_is)
    (case xg0 => k_is)
    (case l0x => k_is)
    (case ga0 => k_is)
    (case gg0 => k_is)
    (case hd0 => k_is)
    (case ha0 => k_is)
    (case mr0 => k_is)
    (case kp0 => k_is)
    (case sa0 => k_is)
    (case in0 => k_is)
    (case fn0 => k_is)
    (case lk0 => k_is)
    (case cc0 => k_is)
    (case kk0 => k_is)
    (case no0 => k_is)
    (case xg1 => k_is)
    (case l1x => k_is)
    (case ga1 => k_is)
    (case gg1 => k_is)
    (case hd1 => k_is)
    (case ha1 => k_is)
    (case mr1 => k_is)
    (case kp1 => k_is)
    (case sa1 => k_is)
    (case in1 => k_is)
    (case fn1 => k_is)
    (case lk1 => k_is)
    (case cc1 => k_is)
    (case kk1 => k_is)
    (case no1 => k_is)
    (case xg2 => k_is)
    (case l2x => k_is)
    (case ga2 => k_is)
    (case gg2 => k_is)
    (case hd2 => k_is)
    (case ha2 => k_is)
    (case mr2 => k_is)
    (case kp2 => k_is)
    (case sa2 => k_is)
    (case in2 => k_is)
    (case fn2 => k_is)
    (case lk2 => k_is)
    (case cc2 => k_is)
    (case kk2 => k_is)
    (case no2 => k_is)
    (case xg3 => k_is)
    (case l3x => k_is)
    (case ga3 => k_is)
    (case gg3 => k_is)
    (case hd3 => k_is)
    (case ha3 => k_is)
    (case mr3 => k_is)
    (case kp3 => k_is)
    (case sa3 => k_is)
    (case in3 => k_is)
    (case fn3 => k_is)
    (case lk3 => k_is)
    (case cc3 => k_is)
    (case kk3 => k_is)
    (case no3 => k_is)
    (case xg4 => k_is)
    (case l4x => k_is)
    (case ga4 => k_is)
    (case gg4 => k_is)
    (case hd4 => k_is)
    (case ha4 => k_is)
    (case mr4 => k_is)
    (case kp4 => k_is)
    (case sa4 => k_is)
    (case in4 => k_is)
    (case fn4 => k_is)
    (case lk4 => k_is)
    (case cc4 => k_is)
    (case kk4 => k_is)
    (case no4 => k_is)
    (case xg5 => k_is)
    (case l5x => k_is)
    (case ga5 => k_is)
    (case gg5 => k_is)
    (case hd5 => k_is)
    (case ha5 => k_is)
    (case mr5 => k_is)
    (case kp5 => k_is)
    (case sa5 => k_is)
    (case in5 => k_is)
    (case fn5 => k_is)
    (case lk5 => k_is)
    (case cc5 => k_is)
    (case kk5 => k_is)
    (case no5 => k_is)
    (case xg6 => k_is)
    (case l6x => k_is)
    (case ga6 => k_is)
    (case gg6 => k_is)
    (case hd6 => k_is)
    (case ha6 => k_is)
    (case mr6 => k_is)
    (case kp6 => k_is)
    (case sa6 => k_is)
    (case in6 => k_is)
    (case fn6 => k_is)
    (case lk6 => k_is)
    (case cc6 => k_is)
    (case kk6 => k_is)
    (case no6 => k_is)
    (case xg7 => k_is)
    (case l7x => k_is)
    (case ga7 => k_is)
    (case gg7 => k_is)
    (case hd7 => k_is)
    (case ha7 => k_is)
    (case mr7 => k_is)
    (case kp7 => k_is)
    (case sa7 => k_is)
    (case in7 => k_is)
    (case fn7 => k_is)
    (case lk7 => k_is)
    (case cc7 => k_is)
    (case kk7 => k_is)
    (case no7 => k_is)
    (case xg8 => k_is)
    (case l8x => k_is)
    (case ga8 => k_is)
    (case gg8 => k_is)
    (case hd8 => k_is)
    (case ha8 => k_is)
    (case mr8 => k_is)
    (case kp8 => k_is)
    (case sa8 => k_is)
    (case in8 => k_is)
    (case fn8 => k_is)
    (case lk8 => k_is)
    (case cc8 => k_is)
    (case kk8 => k_is)
    (case no8 => k_is)
    (case xg9 => k_is)
    (case l9x => k_is)
    (case ga9 => k_is)
    (case gg9 => k_is)
    (case hd9 => k_is)
    (case ha9 => k_is)
    (case mr9 => k_is)
    (case kp9 => k_is)
    (case sa9 => k_is)
    (case in9 => k_is)
    (case fn9 => k_is)
    (case lk9 => k_is)
    (case cc9 => k_is)
    (case kk9 => k_is)
    (case no9 => k_is)
    (case xg10 => k_is)
    (case l10x => k_is)
    (case ga10 => k_is)
    (case gg10 => k_is)
    (case hd10 => k_is)
    (case ha10 => k_is)
    (case mr10 => k_is)
    (case kp10 => k_is)
    (case sa10 => k_is)
    (case in10 => k_is)
    (case fn10 => k_is)
    (case lk10 => k_is)
    (case cc10 => k_is)
    (case kk10 => k_is)
    (case no10 => k_is)
    (case xg11 => k_is)
    (case l11x => k_is)
    (case ga11 => k_is)
    (case gg11 => k_is)
    (case hd11 => k_is)
    (case ha11 => k_is)
    (case mr11 => k_is)
    (case kp11 => k_is)
    (case sa11 => k_is)
    (case in11 => k_is)
    (case fn11 => k_is)
    (case lk11 => k_is)
    (case cc11 => k_is)
    (case kk11 => k_is)
    (case no11 => k_is)
    (case xg12 => k_is)
    (case l12x => k_is)
    (case ga12 => k_is)
    (case gg12 => k_is)
    (case hd12 => k_is)
    (case ha12 => k_is)
    (case mr12 => k_is)
    (case kp12 => k_is)
    (case eq12 => kernel_rfl)
    (case xg13 => k_is)
    (case l13x => k_is)
    (case ga13 => k_is)
    (case gg13 => k_is)
    (case hd13 => k_is)
    (case ha13 => k_is)
    (case mr13 => k_is)
    (case kp13 => k_is)
    (case eq13 => kernel_rfl)
    (case xg14 => k_is)
    (case l14x => k_is)
    (case ga14 => k_is)
    (case gg14 => k_is)
    (case hd14 => k_is)
    (case ha14 => k_is)
    (case mr14 => k_is)
    (case kp14 => k_is)
    (case eq14 => kernel_rfl)
    (case xg15 => k_is)
    (case l15x => k_is)
    (case ga15 => k_is)
    (case gg15 => k_is)
    (case hd15 => k_is)
    (case ha15 => k_is)
    (case mr15 => k_is)
    (case kp15 => k_is)
    (case eq15 => kernel_rfl)
    (case xg16 => k_is)
    (case l16x => k_is)
    (case ga16 => k_is)
    (case gg16 => k_is)
    (case hd16 => k_is)
    (case ha16 => k_is)
    (case mr16 => k_is)
    (case kp16 => k_is)
    (case eq16 => kernel_rfl)
    (case xg17 => k_is)
    (case l17x => k_is)
    (case ga17 => k_is)
    (case gg17 => k_is)
    (case hd17 => k_is)
    (case ha17 => k_is)
    (case mr17 => k_is)
    (case kp17 => k_is)
    (case eq17 => kernel_rfl)
    (case xg18 => k_is)
    (case l18x => k_is)
    (case ga18 => k_is)
    (case gg18 => k_is)
    (case hd18 => k_is)
    (case ha18 => k_is)
    (case mr18 => k_is)
    (case kp18 => k_is)
    (case eq18 => kernel_rfl)
    (case gP => k_is)
    (case cHn => k_is)
    (case cTk => k_is)
    (case pEx => k_is)
    (case pHd => k_is)
    (case pTy => k_is)
    (case nd => decide +kernel)
    (case np => decide +kernel)
