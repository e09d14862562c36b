import PyProof.Rows.All
import Wide.All
import OpenK.AllK
import Wide.FinOn
import HandS.ForMost
import HandS.Wide
import HandS.Zip
import HandS.Style
import HandS.TupAny
import HandS.Replace
import HandS.IsInst
import HandS.Codes
import HandS.Conv
import HandS.More
import HandS.Evl
import HandS.NoneIn
import HandS.Deep
import HandS.Flow
import PyProof.ReprRoads
import HandS.Walk
import PyProof.StrLawsRepr
import PyProof.Rows.RegStrFacts
import PyProof.P3Eq
import HandS.TupMul
import HandS.Dict
import KE.KRevSl
import HandS.WrittenGet
import HandS.ExcInit
import HandS.ExcField
import HandS.ExcIs
import HandS.ExcOwn
import HandS.WordsExc
import KE.KExcIs
import HandS.HotCalls
import KE.KEqNest
import HandS.RaiseMore
import HandS.ExcInitHot
import HandS.Set
import HandS.SetTxt0
import HandS.SetFor
import HandS.Strs
import PyProof.Rows.SortShellAny
import PyProof.SumAny
import PyProof.ListOps
import HandS.Property
import PyProof.EqKinds
import OpenK.KMeth
import HandS.DictComp
import PyProof.ListStr
import HandS.Lambda
import HandS.Iter
import KE.GoesEnum
import HandS.TupSets
import KE.KeyNested
import KE.SortData
import HandS.Keys
import KE.KDictZip
import KE.DataCmp
import HandS.EndOwn
import PySem.Challenge.RW_scriptpicks_k34_scripts_changed
set_option Elab.async false
set_option linter.all false
set_option maxRecDepth 100000
/-! rules of our own over the hand layer -/
namespace Own
open PySem PySem.Spec PyProof.Rows L2
section
variable {X : Cx}
theorem CallR.or {f : Value} {r r' : List V → Hp → VK → Prop} (h : CallR X f r) (h' : CallR X f r') : CallR X f (fun xs H Z => r xs H Z ∨ r' xs H Z) := by
  intro pk s τ H xs us Z I rs q
  rcases q with q | q
  · exact h pk s τ H xs us Z I rs q
  · exact h' pk s τ H xs us Z I rs q
theorem SlR.or {r r' : V → Option Int → Option Int → Hp → VK → Prop} (h : SlR X r) (h' : SlR X r') : SlR X (fun x lo hi H Z => r x lo hi H Z ∨ r' x lo hi H Z) := by
  intro pk s τ H x v vl vu lo hi sl Z I rx hst pl pu q
  rcases q with q | q
  · exact h pk s τ H x v vl vu lo hi sl Z I rx hst pl pu q
  · exact h' pk s τ H x v vl vu lo hi sl Z I rx hst pl pu q
theorem PI.or {tg iter : Expr} {w w' : TI} (h : PI X tg iter w) (h' : PI X tg iter w') : PI X tg iter (fun τ H R => w τ H R ∨ w' τ H R) :=
  ⟨fun pk s τ H R I q => q.elim (h.run pk s τ H R I) (h'.run pk s τ H R I)⟩
/-! ### unions: the reading chooses -/
def rAddI : R2 := rI0 fun i j => .int (i + j)
def rAddS : R2 := fun x y H Z => ∃ i j, x = .str i ∧ y = .str j ∧ i.length + j.length ≤ sizeLine ∧ Z (.str (i ++ j)) H
def rAdd (K : PySem.W.Frag) : R2 := fun x y H Z => rAddI x y H Z ∨ rAddS x y H Z ∨ rCat x y H Z ∨ rCatA K x y H Z
theorem opAdd : OpR X (binaryOp .Add) (rAdd X.K) := OpR.or op_add (OpR.or op_add_str (OpR.or op_cat op_catA))
def rMulI : R2 := rI CMul fun i j => .int (i * j)
def rMul : R2 := fun x y H Z => rMulI x y H Z ∨ rRep x y H Z
theorem opMul : OpR X (binaryOp .Mult) rMul := OpR.or op_mul op_rep
def rEqA (K : PySem.W.Frag) : R2 := fun x y H Z => rEq x y H Z ∨ rEqD K x y H Z
def rNeA (K : PySem.W.Frag) : R2 := fun x y H Z => rNe x y H Z ∨ rNeD K x y H Z
theorem opEq {k : Nat} (hr : Room k X.A) : OpR X (compareOp .Eq) (rEqA X.K) := OpR.or op_eq (op_eqD hr.units)
theorem opNe {k : Nat} (hr : Room k X.A) : OpR X (compareOp .NotEq) (rNeA X.K) := OpR.or op_ne (op_neD hr.units)
def rLtI : R2 := rI0 fun i j => .bl (decide (i < j))
def rLeI : R2 := rI0 fun i j => .bl (decide (i ≤ j))
def rGtI : R2 := rI0 fun i j => .bl (decide (j < i))
def rGeI : R2 := rI0 fun i j => .bl (decide (j ≤ i))
theorem opLt : OpR X (compareOp .Lt) rLtI := op_lt
theorem opLe : OpR X (compareOp .LtE) rLeI := op_le
theorem opGt : OpR X (compareOp .Gt) rGtI := op_gt
theorem opGe : OpR X (compareOp .GtE) rGeI := op_ge
def rInS : R2 := fun x y H Z => ∃ i j, x = .str i ∧ y = .str j ∧ Z (.bl (!(Builtin.Str.occurrences j i 0 j.length 1).isEmpty)) H
def rNotInS : R2 := fun x y H Z => ∃ i j, x = .str i ∧ y = .str j ∧ Z (.bl (!(!(Builtin.Str.occurrences j i 0 j.length 1).isEmpty))) H
def rInA (K : PySem.W.Frag) : R2 := fun x y H Z => rIn K false x y H Z ∨ rInS x y H Z
def rNotInA (K : PySem.W.Frag) : R2 := fun x y H Z => rIn K true x y H Z ∨ rNotInS x y H Z
theorem opIn : OpR X (compareOp .In) (rInA X.K) := OpR.or op_in_seq op_in_str
theorem opNotIn : OpR X (compareOp .NotIn) (rNotInA X.K) := OpR.or op_notIn_seq L2.op_notin_str
def rIxA (K : PySem.W.Frag) (w : World) : R2 := fun x y H Z => rIxL K x y H Z ∨ rIxT K x y H Z ∨ rIxS x y H Z ∨ rIxD K w x y H Z
theorem ixAny : IxR X (rIxA X.K X.w) := IxR.or ix_list (IxR.or ix_tup (IxR.or ix_str ix_kdict))
def rSlAny (K : PySem.W.Frag) : V → Option Int → Option Int → Hp → VK → Prop := fun x lo hi H Z => rSlL K x lo hi H Z ∨ rSlA K x lo hi H Z ∨ rSlS x lo hi H Z
theorem slAny : SlR X (rSlAny X.K) := SlR.or sl_list (SlR.or sl_tupA sl_str)
def iAny (K : PySem.W.Frag) (tl : TE) : TI := fun τ H R => iList K tl τ H R ∨ iTup K tl τ H R ∨ iStr tl τ H R
theorem piAny {tg l : Expr} {tl : TE} (hlen : PE X l tl) : PI X tg l (iAny X.K tl) := PI.or (pi_list hlen) (PI.or (pi_tup hlen) (pi_str hlen))
def rLenA (K : PySem.W.Frag) : List V → Hp → VK → Prop := fun xs H Z => (∃ p ys, xs = [.ref p] ∧ (SqL K H p ys ∨ SqT K H p ys) ∧ Z (.int ys.length) H) ∨ (∃ z, xs = [.str z] ∧ z.length ≤ sizeLine ∧ Z (.int z.length) H)
theorem callLen : CallR X (.builtin "len") (rLenA X.K) := CallR.or call_len_seq call_len_str
theorem pgetL : PGet X (rIxL X.K) := by
  intro pk s τ H x y v u Z I rx ry h
  obtain ⟨p, xs, i, z, rfl, rfl, hsq, hes, q⟩ := h
  cases rx
  obtain ⟨t, rfl⟩ := ry
  obtain ⟨gs, r, pl, hz⟩ := I.list hsq
  obtain ⟨j, h1, h2, h3, h4, h5⟩ := atI_get hes
  obtain ⟨w, ew, rw'⟩ := r.get h2
  have hlen := r.length
  have hn := line63
  have ready : EP X pk τ Z w s := ⟨z, H, I, rw', q⟩
  by_cases h0 : 0 ≤ i
  · have hj : i.toNat = j := by
      rw [seqIndex_of h0 h5] at h1
      exact Option.some.inj h1
    exact wpAny_getItem_list pl.isList h0 (by omega) (by rw [hj]; simpa using ew) ready
  · have hj : (i + (gs.toArray.size : Int)).toNat = j := by
      rw [seqIndex_neg (by omega) h4] at h1
      rw [List.size_toArray, ← hlen]
      exact Option.some.inj h1
    exact wpAny_getItem_list_neg pl.isList (by omega) (by rw [List.size_toArray] <;> omega) (by omega) (by rw [hj]; simpa using ew) ready
/-- repr of data -/
def rRepr (K : PySem.W.Frag) : List V → Hp → VK → Prop := fun xs H Z => ∃ a d, xs = [.ref a] ∧ Dp K H (.ref a) d ∧ d.showable = true ∧ d.hasDict = false ∧ d.depth ≤ 20 ∧ d.shown.length ≤ sizeLine ∧ Z (.str d.shown) H
theorem callRepr {k : Nat} (hg : X.A.guards = some []) (hr : Room k X.A) : CallR X (.builtin "repr") (rRepr X.K) := by
  intro pk s τ H xs us Z I r h
  obtain ⟨a, d, rfl, hd, hst, hn, hz, hlen, q⟩ := h
  rw [Vals.ref1 r]
  obtain ⟨as, rd⟩ := Dp.reads I d _ _ hd rfl
  have hu := hr.units
  exact repr_of_reads' rd hst (fun e => by rw [hn] at e; cases e) hg (by omega) (fun _ _ e => e) (fun h' u tk hkp => ⟨.str d.shown, H, I.kept (h' := h') (t' := tk) hkp, ⟨_, rfl⟩, q⟩) hlen
end
/-! ### defs that are called where no container is being shown -/
structure FnG (P : Program) (w : World) (K : PySem.W.Frag) (mg : Str → Option Value) (base : Heap) (k : Nat) (f : Addr) (fd : FuncData) (ps : List Str) (sp : Sp) : Prop where
  len : ∀ vs H Z EE, sp vs H Z EE → vs.length = ps.length
  run : ∀ (A : Around) (outer : List Env) (s : Shared) (H : Hp) (args : Args) (us : List Value) (vs : List V) (Z : VK) (EE : XK), Room k A → A.guards = some [] → Env0 P w K mg base A outer s H → BindsTo s fd args (ps.zip us) → Vals vs us → sp vs H Z EE →
    codeAny (model P w) A (.call (.ref f) args) (CR CX0 outer P w H s Z EE) s
structure CalG (P : Program) (w : World) (K : PySem.W.Frag) (mg : Str → Option Value) (base : Heap) (k : Nat) (x : Str) (sp : Sp) : Prop where
  ex : ∃ (f : Addr) (fd : FuncData) (ps : List Str), FnG P w K mg base k f fd ps sp ∧ mg x = some (.ref f) ∧ PySem.W.keepIn K (.ref f) = true ∧ Binds K fd ps []
structure Df (K : PySem.W.Frag) (mg : Str → Option Value) (x : Str) (st : Stmt) : Prop where
  ex : ∃ (f : Addr) (fd : FuncData), mg x = some (.ref f) ∧ Fun K x x st f fd
section
variable {P : Program} {w : World} {K : PySem.W.Frag} {mg : Str → Option Value} {base : Heap}
theorem CalG.imp {k : Nat} {x : Str} {sp sp' : Sp} (c : CalG P w K mg base k x sp) (h : ∀ vs H Z EE, sp' vs H Z EE → sp vs H Z EE) : CalG P w K mg base k x sp' := by
  obtain ⟨f, fd, ps, F, a, b, d⟩ := c.ex
  exact ⟨f, fd, ps, ⟨fun vs H Z EE q => F.len vs H Z EE (h _ _ _ _ q), fun A outer s H args us vs Z EE hr hg hes hbd hv hst => F.run A outer s H args us vs Z EE hr hg hes hbd hv (h _ _ _ _ hst)⟩, a, b, d⟩
theorem fn_mk {x : Str} {f : Addr} {fd : FuncData} {st : Stmt} {N ps : List Str} {k : Nat} {sp : Sp} (F : Fun K x x st f fd) (S : FnScope N ps (defScope st))
    (len : ∀ vs H Z EE, sp vs H Z EE → vs.length = ps.length)
    (hbody : ∀ (cdv : Value) (A : Around) (outer : List Env) (s : Shared) (H : Hp) (vs : List V) (Z : VK) (EE : XK), Room k (A.deeper (envOfC x (defScope st) s.heap.objs.size f cdv)) → (A.deeper (envOfC x (defScope st) s.heap.objs.size f cdv)).guards = some [] → sp vs H Z EE →
      ∃ t, PSs (cxOf CX0 P w K mg base N x (defScope st) f cdv A outer s H EE).nox (defBody st) t ∧ t { nx := fun _ H' => Z .non H', rt := Z } (start N vs) H) : FnG P w K mg base (k + 1) f fd ps sp := by
  obtain ⟨oc, od, kV, doc, pm, an, cdv, ct, sl, rfl, lkp, hcd⟩ := F.ex
  refine ⟨len, fun A outer s H args us vs Z EE hr hg e0 hbt r hsp => ?_⟩
  have body : ∀ (A : Around) (outer : List Env) (s : Shared) (H : Hp) (vs : List V) (Z : VK) (EE : XK), Room k (A.deeper (envOfC x (defScope st) s.heap.objs.size f cdv)) → A.guards = some [] → sp vs H Z EE →
      ∃ t, PSs (cxOf CX0 P w K mg base N x (defScope st) f cdv A outer s H EE) (defBody st) t ∧ t { nx := fun _ H' => Z .non H', rt := Z } (start N vs) H := fun A outer s H vs Z EE hr hg hsp => by
    obtain ⟨t, h, q⟩ := hbody cdv A outer s H vs Z EE hr hg hsp
    exact ⟨t, h.nox, q⟩
  have hlen := len _ _ _ _ hsp
  have KI : K.In s.heap := e0.mod.kin.keeps fun b o e => (e0.bs b o e).1
  have nlm : s.heap.NoLimit := e0.mod.nolimit.keeps fun b o e => (e0.bs b o e).1
  have hkind : ∀ y ∈ ps.zip us, (defScope st).names.lookup y.1 = some .local ∨ ((defScope st).names.lookup y.1 = some .cell ∧ ((cellsFrom (s.heap.objs.size + 1) (defScope st).names []).lookup y.1).isSome = true) := fun ⟨n, v⟩ hyy => by
    rcases S.par n (List.of_mem_zip hyy).1 with q | q
    · exact .inl q
    · exact .inr ⟨q, PySem.W.cellsFrom_some _ _ _ (.inl q)⟩
  refine codeAny_call_function hr.depth (KI _ _ lkp) rfl S.co S.gen rfl (PySem.W.codeRec_of KI hcd) (hbt _ _ _ _ ?_)
  refine wpAny_newFunctionEnv_cells S.kind hkind fun env hes st1 xx => ?_
  subst hes
  refine ⟨nlm.keeps xx.toInCall.keep, codeAny_func ?_⟩
  obtain ⟨t, ht, hsq⟩ := body A outer s H vs Z EE (hr.deeper _) hg hsp
  have I : Inv (cxOf CX0 P w K mg base N x (defScope st) f cdv A outer s H EE) [] (start N vs) H st1 := inv_start S hr.hd e0 hlen r xx
  refine wpAny_mono (ht.run [] st1 (start N vs) H _ I hsq) (fun fl s' hst => ?_) fun e s' hst => hst
  have ready : ∀ {τ' : L2.St} {H' : Hp} {v : V} {u : Value}, Inv (cxOf CX0 P w K mg base N x (defScope st) f cdv A outer s H EE) [] τ' H' s' → RelV v u → Z v H' → CE outer P w H s Z u s' :=
    fun {τ' H' v u} J rv q => ⟨v, H', J.os, J.bare, J.base, J.hok, rv, q⟩
  cases fl with
  | ret u =>
    obtain ⟨v, τ', H', J, rv, q⟩ := hst
    exact ready J rv q
  | next =>
    obtain ⟨τ', H', J, q⟩ := hst
    exact ready (v := V.non) (u := Value.none) J rfl q
  | brk =>
    obtain ⟨_, _, _, q⟩ := hst
    exact False.elim q
  | cont =>
    obtain ⟨_, _, _, q⟩ := hst
    exact False.elim q
theorem cal_mk {x : Str} {st : Stmt} {N ps : List Str} {k : Nat} {sp : Sp} (D : Df K mg x st) (S : FnScope N ps (defScope st))
    (hbd : ∀ (kV doc pm : Value) (an : Option Addr) (cdv ct : Value) (us : List Value), us.length = ps.length → bindArgs (PySem.W.fnOf x x (defArgs st) (defBody st) (defScope st) .none kV doc pm an cdv ct) ⟨us, []⟩ = pure (ps.zip us))
    (len : ∀ vs H Z EE, sp vs H Z EE → vs.length = ps.length)
    (hbody : ∀ (f : Addr) (cdv : Value) (A : Around) (outer : List Env) (s : Shared) (H : Hp) (vs : List V) (Z : VK) (EE : XK), Room k (A.deeper (envOfC x (defScope st) s.heap.objs.size f cdv)) → (A.deeper (envOfC x (defScope st) s.heap.objs.size f cdv)).guards = some [] → sp vs H Z EE →
      ∃ t, PSs (cxOf CX0 P w K mg base N x (defScope st) f cdv A outer s H EE).nox (defBody st) t ∧ t { nx := fun _ H' => Z .non H', rt := Z } (start N vs) H) : CalG P w K mg base (k + 1) x sp := by
  obtain ⟨f, fd, hmg, F⟩ := D.ex
  exact ⟨f, fd, ps, fn_mk F S len (hbody f), hmg, F.kp, F.binds hbd⟩
end
section
variable {X : Cx} {pk : List (Addr × Obj)} {τ : L2.St} {H : Hp} {s : Shared} {k j : Nat} {sp : Sp} {f : Addr} {fd : FuncData} {ps : List Str} {Z : VK} {us : List Value} {vs : List V} {x : Str} {p pos : Pos} {e : Expr} {es : List Expr} {t : TA}
theorem run_fnG (F : FnG X.prog X.w X.K X.mg X.base k f fd ps sp) (hr : Room k X.A) (hg : X.A.guards = some []) (hbd : Binds X.K fd ps [])
    (I : Inv X pk τ H s) (r : Vals vs us) (h : sp vs H Z E0) : wpAny (model X.prog X.w) X.A (call (.ref f) us) (EP X pk τ Z) X.xe s := by
  have hlen : us.length = ps.length := by rw [← r.length]; exact F.len _ _ _ _ h
  have e1 : us ++ [] = us := List.append_nil us
  refine wpAny_call (codeAny_mono (F.run X.A X.stack s H ⟨us, []⟩ us vs Z E0 hr hg I.env0 (by have q := hbd s us I.kIn (by rw [e1]; exact hlen); rw [e1] at q; exact q) r h) fun r s' hsq => ?_)
  cases r with
  | error e => exact (show False from hsq).elim
  | ok fl =>
    cases fl with
    | ret u => exact I.after hsq
    | next => exact False.elim hsq
    | brk => exact False.elim hsq
    | cont => exact False.elim hsq
theorem pe_cG (c : CalG X.prog X.w X.K X.mg X.base k x sp) (hr : Room j X.A) (hg0 : X.A.guards = some []) (hkp : k ≤ j) (hg : Gl X x) (ha : PA X (e :: es) t)
    (hdb : (x == ("__debug__" : Str)) = false := by decide) (hes : starEach (e :: es) X.env = (false, eval e X.env) :: starEach es X.env := by rfl) (hpl : (backTo pos (starEach es X.env)).any (·.1) = false := by rfl) :
    PE X (.Call (.Name x p) (e :: es) [] pos) (tCall sp [] E0 t) := by
  obtain ⟨f, fd, ps, F, hmg, kp, b⟩ := c.ex
  refine ⟨fun pk s τ H Z I h => ?_⟩
  refine wpAny_Call_Name_kw (ld_glob I hg hmg ?_ hdb)
  refine PySem.W.callWith_K (h₀ := X.base) I.ok.mod.kin kp (thn (ha.run pos pk s τ H _ I h) fun us st1 ⟨vs, H1, I1, r, q⟩ => ⟨I1.kIn, ?_⟩) hes hpl
  have q : sp (vs ++ []) H1 Z E0 := q
  rw [List.append_nil] at q
  exact run_fnG F (hr.mono hkp) hg0 b I1 r q
end
end Own

namespace Own
open PySem PySem.Spec PyProof.Rows L2 Evl
theorem up_old {H : Hp} {p q : Addr} {o u : HO} (hp : H p = none) (h : H q = some u) : upd H p o q = some u := by
  rw [upd_ne (ne_of_none h hp)]
  exact h
theorem gen1 {H H1 : Hp} {p : Addr} {o : HO} (hq : upd H p o = H1) (hp : H p = none) : Ex H H1 ∧ H1 p = some o := by
  subst hq
  exact ⟨Ex.new hp, upd_same⟩
/-! ### tuples never change -/
def TEx (H H' : Hp) : Prop := ∀ a xs, H a = some (.tup xs) → H' a = some (.tup xs)
theorem TEx.refl (H : Hp) : TEx H H := fun _ _ h => h
theorem TEx.trans {H H1 H2 : Hp} (a : TEx H H1) (b : TEx H1 H2) : TEx H H2 := fun x o h => b x o (a x o h)
theorem TEx.of {H H' : Hp} (e : Ex H H') : TEx H H' := fun a _ h => e a _ h
theorem TEx.lst {H : Hp} {D : Addr} {xs : List V} {o : HO} (h : H D = some (.lst xs)) : TEx H (upd H D o) := fun a ys q => by
  rw [upd_ne (fun z => by rw [z, h] at q; cases q)]
  exact q
/-- two tuples, zipped -/
theorem walk_zipT {K : PySem.W.Frag} {a b : Addr} {xs ys : List V} {n : Nat} (hn : n = min xs.length ys.length) :
    Walk (RZ.ItzT K a b) n (fun H => SqT K H a xs ∧ SqT K H b ys) (YPair (fun i => xs[i]?) (fun i => ys[i]?)) := by
  refine ⟨fun i H hi h => ?_, fun H h => ⟨xs, ys, h.1, h.2, by omega⟩, fun i H x H' hi h y => ?_⟩
  · exact ⟨xs, ys, xs[i], ys[i], h.1, h.2, List.getElem?_eq_getElem (by omega), List.getElem?_eq_getElem (by omega)⟩
  · obtain ⟨T, u, v, rfl, h1, h2, h3, h4⟩ := y
    exact ⟨T, u, v, rfl, h1, h2, h3 _ h.1, h4 _ h.2⟩
/-- what is left of a comprehension, of a for, behind its source -/
def LcRest (g : TG) (tt : TT) (te : TE) (vs : List Nat) (σ : L2.St) (Q : VK) : It → Hp → Prop := fun J H1 => tLc (fun _ _ R => R J H1) g tt te vs σ H1 Q
def tLcO (wi : TI) (g : TG) (tt : TT) (te : TE) (vs : List Nat) : TE := fun σ H Q => wi σ H (LcRest g tt te vs σ Q)
def ForRest (g : TG) (tb : TS) (D : Ends) : L2.St → It → Hp → Prop := fun σ J H1 => tFor (fun _ _ R => R J H1) g tb D σ H1
def tForO (wi : TI) (g : TG) (tb : TS) : TS := fun D σ H => wi σ H (ForRest g tb D σ)
theorem pe_lcO {X : Cx} {e : Expr} {wi : TI} {g : TG} {tt : TT} {te : TE} {vs : List Nat} (h : PE X e (tLc wi g tt te vs)) : PE X e (tLcO wi g tt te vs) := h
theorem ps_setLcO {X : Cx} {st : Stmt} {wi : TI} {g k : TG} {tt : TT} {te : TE} {vs : List Nat} (h : PS X st (tAsg (tLc wi g tt te vs) k)) : PS X st (tAsg (tLcO wi g tt te vs) k) := h
theorem ps_forO {X : Cx} {st : Stmt} {wi : TI} {g : TG} {tb : TS} (h : PS X st (tFor wi g tb)) : PS X st (tForO wi g tb) := h
/-! ### the unions within a comprehension -/
section
variable {X : Cx} {s : Shared} {H : Hp} {sc : Scope} {ce : Env} {fp : List Addr} {s' : Shared} {H' : Hp} {sc' : Scope} {ce' : Env} {fp' : List Addr}
theorem pg_tupB {es : List Expr} {k n : Nat} {pos : Pos} {t : TGs} (hc : X.calm = true) (h : PGs (X.blk s H sc ce fp) es t) (hn : (assignEach es (X.blk s H sc ce fp).env).length = n := by rfl)
    (hst : (assignEach es (X.blk s H sc ce fp).env).findIdx? (·.1) = none := by rfl) : PG (X.blk s H sc ce fp) (.Tuple es k pos) (gTup X.K n t) := pg_tup (X := X.blk s H sc ce fp) hc h hn hst
theorem opAddB : OpR (X.blk s H sc ce fp) (binaryOp .Add) (rAdd X.K) := opAdd
theorem opEqB {k : Nat} (hr : Room k X.A) : OpR (X.blk s H sc ce fp) (compareOp .Eq) (rEqA X.K) := opEq hr
theorem opNeB {k : Nat} (hr : Room k X.A) : OpR (X.blk s H sc ce fp) (compareOp .NotEq) (rNeA X.K) := opNe hr
theorem opInB : OpR (X.blk s H sc ce fp) (compareOp .In) (rInA X.K) := opIn
theorem opNotInB : OpR (X.blk s H sc ce fp) (compareOp .NotIn) (rNotInA X.K) := opNotIn
theorem ixAnyB : IxR (X.blk s H sc ce fp) (rIxA X.K X.w) := ixAny
theorem slAnyB : SlR (X.blk s H sc ce fp) (rSlAny X.K) := slAny
theorem callLenB : CallR (X.blk s H sc ce fp) (.builtin "len") (rLenA X.K) := callLen
theorem opAddBB : OpR ((X.blk s H sc ce fp).blk s' H' sc' ce' fp') (binaryOp .Add) (rAdd X.K) := opAdd
theorem opEqBB {k : Nat} (hr : Room k X.A) : OpR ((X.blk s H sc ce fp).blk s' H' sc' ce' fp') (compareOp .Eq) (rEqA X.K) := opEq hr
theorem opNeBB {k : Nat} (hr : Room k X.A) : OpR ((X.blk s H sc ce fp).blk s' H' sc' ce' fp') (compareOp .NotEq) (rNeA X.K) := opNe hr
theorem opInBB : OpR ((X.blk s H sc ce fp).blk s' H' sc' ce' fp') (compareOp .In) (rInA X.K) := opIn
theorem opNotInBB : OpR ((X.blk s H sc ce fp).blk s' H' sc' ce' fp') (compareOp .NotIn) (rNotInA X.K) := opNotIn
theorem ixAnyBB : IxR ((X.blk s H sc ce fp).blk s' H' sc' ce' fp') (rIxA X.K X.w) := ixAny
theorem slAnyBB : SlR ((X.blk s H sc ce fp).blk s' H' sc' ce' fp') (rSlAny X.K) := slAny
theorem callLenBB : CallR ((X.blk s H sc ce fp).blk s' H' sc' ce' fp') (.builtin "len") (rLenA X.K) := callLen
end
/-- a for: Pv by the turn, the slots and the heap -/
theorem frG {J : It} {n : Nat} {G : Hp → Prop} {Y : Nat → Hp → V → Hp → Prop} (w : Walk J n G Y) {g : TG} {tb : TS} {D : Ends} {σ : L2.St} {H : Hp} (Pv : Nat → L2.St → Hp → Prop) (h0 : Pv 0 σ H) (hG : ∀ i σ H, i ≤ n → Pv i σ H → G H)
    (hs : ∀ i x σ H H', i < n → Pv i σ H → Y i H x H' → g x σ H' fun σ2 H2 => tb { D with nx := Pv (i + 1), ct := Pv (i + 1), bk := D.nx } σ2 H2) (hd : ∀ σ H, Pv n σ H → D.nx σ H) : ForRest g tb D σ J H := for_it w Pv h0 hG hs hd
/-- a comprehension whose turns may give anything: Pa speaks of the turn, what has been given, and tuples -/
theorem lcG {J : It} {n : Nat} {G : Hp → Prop} {Y : Nat → Hp → V → Hp → Prop} (w : Walk J n G Y) {g : TG} {tt : TT} {te : TE} {vs : List Nat} {σ : L2.St} {H1 : Hp} {Q : VK} (hn : n ≤ 40000) (hG0 : G H1) (hGm : ∀ H H', Ex H H' → G H → G H') (hY : ∀ i H x H', Y i H x H' → Ex H H')
    (Pa : Nat → List V → Hp → Prop) (hm : ∀ i ys H H', TEx H H' → Pa i ys H → Pa i ys H') (p0 : Pa 0 [] H1)
    (hs : ∀ i x H H' ys, i < n → Ex H1 H → Y i H x H' → Pa i ys H' → ∀ (N : V → Hp → Prop) (N0 : Hp → Prop), (∀ y H4, Ex H' H4 → Pa (i + 1) (ys ++ [y]) H4 → N y H4) → (∀ H3, Ex H' H3 → Pa (i + 1) ys H3 → N0 H3) →
      g x (wipe σ vs) H' fun σ2 H2 => wipe σ2 vs = wipe σ vs ∧ tt σ2 H2 fun b H3 => if b = true then te σ2 H3 N else N0 H3)
    (k : ∀ D H2 ys, H1 D = none → Ex H1 H2 → H2 D = some (.lst ys) → ys.length ≤ n → Pa n ys H2 → Q (.ref D) H2) :
    LcRest g tt te vs σ Q J H1 := by
  intro D hD
  refine lc_it w (fun i H => ∃ ys, Ex H1 H ∧ H D = some (.lst ys) ∧ ys.length ≤ i ∧ Pa i ys H) ⟨[], Ex.new hD, upd_same, Nat.zero_le _, hm _ _ _ _ (TEx.of (Ex.new hD)) p0⟩ (fun i H hi ⟨ys, e, _⟩ => hGm _ _ e hG0) ?_ ?_
  · rintro i x H H' hi ⟨ys, e, hd, hl, hp⟩ hy
    have e' := hY _ _ _ _ hy
    refine hs i x H H' ys hi e hy (hm _ _ _ _ (TEx.of e') hp) _ _ (fun y H4 e4 p4 => ?_) (fun H3 e3 p3 => ?_)
    · have d4 := e4 _ _ (e' _ _ hd)
      refine ⟨ys, d4, sz_lt (by omega), ys ++ [y], Ex.mut ((e.trans e').trans e4) hD, upd_same, ?_, hm _ _ _ _ (TEx.lst d4) p4⟩
      rw [List.length_append]
      show ys.length + 1 ≤ i + 1
      omega
    · exact ⟨ys, (e.trans e').trans e3, e3 _ _ (e' _ _ hd), by omega, p3⟩
  · rintro H ⟨ys, e, hd, hl, hp⟩
    exact k D H ys hD e hd hl hp
theorem ex_eq {H H' : Hp} (h : H' = H) : Ex H H' := by
  subst h
  exact Ex.refl _
theorem yAt_ex {xs : List V} : ∀ i H x H', YAt xs i H x H' → Ex H H' := fun _ _ _ _ h => ex_eq h.1
theorem yFn_ex {f : Nat → V} : ∀ i H x H', YFn f i H x H' → Ex H H' := fun _ _ _ _ h => ex_eq h.1
theorem yPair_ex {xs ys : Nat → Option V} : ∀ i H x H', YPair xs ys i H x H' → Ex H H' := fun _ _ _ _ h => by
  obtain ⟨T, u, v, _, h1, rfl, _, _⟩ := h
  exact Ex.new h1
/-! ### texts by their signs -/
def cs (z : Str) : List Nat := z.cps.toList
theorem cs_ext {a b : Str} (h : cs a = cs b) : a = b := PyProof.Rows.ext_toList h
theorem cs_len (z : Str) : z.length = (cs z).length := by simp [cs, Str.length]
theorem cs_add (a b : Str) : cs (a ++ b) = cs a ++ cs b := TL.tl_append a b
theorem cs_one (c : Nat) : cs ⟨#[c]⟩ = [c] := rfl
theorem cut_from (xs : List V) (j : Nat) : cutV xs (some (j : Int)) none = xs.drop j := by
  unfold cutV
  rw [HT.sIx_nat, HT.sIx_none]
  by_cases h : j ≤ xs.length
  · rw [Nat.min_eq_left h]
    apply List.take_of_length_le
    rw [List.length_drop]
    exact Nat.le_refl _
  · rw [Nat.min_eq_right (by omega), Nat.sub_self, List.take_zero, List.drop_of_length_le (by omega)]
theorem joinL_one : ∀ l : List Nat, TL.joinL [] (l.map fun c => [c]) = l
  | [] => rfl
  | [c] => rfl
  | c :: d :: r => by
    show [c] ++ ([] ++ TL.joinL [] ((d :: r).map fun c => [c])) = c :: d :: r
    rw [joinL_one (d :: r)]
    rfl
def sgn (c : Nat) : Str := ⟨#[c]⟩
theorem sum_sgn : ∀ cr : List Nat, ((cr.map sgn).map (·.length)).sum = cr.length
  | [] => rfl
  | c :: r => by
    rw [List.map_cons, List.map_cons, List.sum_cons, sum_sgn r, List.length_cons]
    show 1 + r.length = r.length + 1
    omega
theorem join_sgn (l : List Nat) : Txt.join ("" : Str) (l.map sgn) = SX.S l := by
  have e : l.map sgn = (l.map fun c => [c]).map SX.S := by
    rw [List.map_map]
    rfl
  rw [e]
  have q := SX.join_S [] (l.map fun c => [c])
  rw [joinL_one] at q
  exact q
theorem in_strs (z : Str) : ∀ ns : List Str, inV (.str z) (ns.map V.str) = decide (z ∈ ns)
  | [] => rfl
  | n :: ns => by
    have ih := in_strs z ns
    unfold inV at ih ⊢
    rw [List.map_cons, List.any_cons, ih]
    show ((n == z) || decide (z ∈ ns)) = decide (z ∈ n :: ns)
    by_cases h : n = z
    · subst h
      simp
    · have h2 : ¬ z = n := fun e => h e.symm
      have h3 : (n == z) = false := beq_eq_false_iff_ne.mpr h
      rw [h3, Bool.false_or]
      simp [h2]
theorem flat_strs (ns : List Str) : (ns.map V.str).all flatV = true := by
  rw [List.all_eq_true]
  intro x hx
  obtain ⟨y, _, rfl⟩ := List.mem_map.mp hx
  rfl
theorem str_at {ns : List Str} {i : Nat} {x : V} (h : (ns.map V.str)[i]? = some x) : ∃ z, ns[i]? = some z ∧ x = .str z := by
  rw [List.getElem?_map] at h
  cases e : ns[i]? with
  | none => rw [e] at h; cases h
  | some z => rw [e] at h; exact ⟨z, rfl, (Option.some.inj h).symm⟩
end Own

namespace Own
open PySem PySem.Spec PyProof.Rows L2 Evl
theorem listText_le (ts : List Str) : (listText ts).length ≤ piled ts + 3 := by
  unfold listText
  rw [strLen_append]
  cases ts with
  | nil => decide
  | cons t r =>
    show (textFrom 1 (("[" : Str) ++ ("" : Str) ++ t) r).length + 1 ≤ _
    rw [textFrom_length_pos _ _ _ (by decide), piled_cons, strLen_append, strLen_append]
    show 1 + 0 + t.length + piled r + 1 ≤ _
    omega
theorem tupleText_le (ts : List Str) : (tupleText ts).length ≤ piled ts + 3 := by
  unfold tupleText
  rw [strLen_append, strLen_append]
  have e3 : (((if ts.length == 1 then ",)" else ")" : String) : Str)).length ≤ 2 := by split <;> decide
  have e1 : ((("(" : String) : Str)).length = 1 := rfl
  by_cases h : ts = []
  · subst h
    decide
  · have := join_length_add ts h
    omega
mutual
/-- no text of d is longer -/
def wt : PyData → Nat
  | .none => 4
  | .bool _ => 5
  | .int _ => 1921
  | .str x => 10 * x.length + 2
  | .list xs => wts xs + 3
  | .tuple xs => wts xs + 3
  | .dict _ => 0
def wts : List PyData → Nat
  | [] => 0
  | x :: xs => wt x + 2 + wts xs
end
mutual
theorem shown_le : ∀ d : PyData, d.canLay0 = true → d.showable = true → d.shown.length ≤ wt d
  | .none, _, _ => by decide
  | .bool b, _, _ => by cases b <;> decide
  | .int i, _, h => int_text_len_1921 (of_decide_eq_true h)
  | .str x, h, _ => by
    refine StrLaws.reprText_len x fun c hc => ?_
    have h2 : x.cps.all (· < 0x110000) = true := h
    rw [← Array.all_toList] at h2
    have q := of_decide_eq_true ((List.all_eq_true.mp h2) c hc)
    exact Nat.lt_trans q (by decide)
  | .list xs, h, h2 => by
    have q := shownAll_le xs h h2
    have z := listText_le (PyData.shownAll xs)
    show (listText (PyData.shownAll xs)).length ≤ wts xs + 3
    omega
  | .tuple xs, h, h2 => by
    have q := shownAll_le xs h h2
    have z := tupleText_le (PyData.shownAll xs)
    show (tupleText (PyData.shownAll xs)).length ≤ wts xs + 3
    omega
  | .dict _, h, _ => by cases h
theorem shownAll_le : ∀ ds : List PyData, PyData.canLayAll0 ds = true → PyData.showableAll ds = true → piled (PyData.shownAll ds) ≤ wts ds
  | [], _, _ => Nat.le_refl _
  | d :: ds, h, h2 => by
    have h' : (d.canLay0 && PyData.canLayAll0 ds) = true := h
    have h2' : (d.showable && PyData.showableAll ds) = true := h2
    rw [Bool.and_eq_true] at h' h2'
    have q1 := shown_le d h'.1 h2'.1
    have q2 := shownAll_le ds h'.2 h2'.2
    show piled (d.shown :: PyData.shownAll ds) ≤ wt d + 2 + wts ds
    rw [piled_cons]
    omega
end
/-- data that may be shown and compared -/
def fine (d : PyData) : Prop := d.canLay0 = true ∧ d.showable = true ∧ d.depth ≤ 20 ∧ wt d ≤ 16000000
theorem fine.noDict {d : PyData} (h : fine d) : d.hasDict = false := PyData.hasDict_of_canLay d h.1
theorem fine.shp {d : PyData} (h : fine d) : SeqAt.shaped d = true := by
  unfold SeqAt.shaped
  rw [h.1, Bool.true_and]
  exact decide_eq_true (Nat.le_trans h.2.2.1 (by decide))
theorem fine.len {d : PyData} (h : fine d) : d.shown.length ≤ sizeLine := Nat.le_trans (shown_le d h.1 h.2.1) (Nat.le_trans h.2.2.2 (by decide))
/-- repr of any data -/
def rReprA (K : PySem.W.Frag) : List V → Hp → VK → Prop := fun xs H Q => ∃ v d, xs = [v] ∧ Dp K H v d ∧ fine d ∧ Q (.str d.shown) H
theorem callReprA {X : Cx} {k : Nat} (hg : X.A.guards = some []) (hr : Room k X.A) : CallR X (.builtin "repr") (rReprA X.K) := by
  intro pk s τ H xs us Q I r h
  obtain ⟨v, d, rfl, hd, hf, q⟩ := h
  cases hd with
  | lst h1 h2 => exact callRepr hg hr pk s τ H _ us Q I r ⟨_, _, rfl, .lst h1 h2, hf.2.1, hf.noDict, hf.2.2.1, hf.len, q⟩
  | tup h1 h2 => exact callRepr hg hr pk s τ H _ us Q I r ⟨_, _, rfl, .tup h1 h2, hf.2.1, hf.noDict, hf.2.2.1, hf.len, q⟩
  | non =>
    obtain ⟨u, rfl, ru⟩ := vals1 r
    cases ru
    exact PySem.P.repr_of_none ⟨.str "None", H, I.tok _, ⟨_, rfl⟩, q⟩
  | bl b =>
    obtain ⟨u, rfl, ru⟩ := vals1 r
    cases ru
    exact PySem.P.repr_of_bool ⟨.str (if b then "True" else "False"), H, I.tok _, ⟨_, by cases b <;> rfl⟩, by cases b <;> exact q⟩
  | int i =>
    obtain ⟨u, rfl, t, rfl⟩ := vals1 r
    exact PySem.P.repr_of_int (of_decide_eq_true hf.2.1) ⟨.str (toString i), H, I.tok _, ⟨_, rfl⟩, q⟩
  | str x =>
    obtain ⟨u, rfl, t, rfl⟩ := vals1 r
    exact PySem.P.repr_of_str ⟨.str (reprText x), H, I.tok _, ⟨_, rfl⟩, q⟩ hf.len
def spAlike (K : PySem.W.Frag) : Sp := fun vs H Q _ => ∃ (x y : V) (d : PyData), vs = [x, y] ∧ Dp K H x d ∧ Dp K H y d ∧ fine d ∧ Q (.bl true) H
/-- bounds by parts -/
def fin (n W : Nat) (d : PyData) : Prop := d.canLay0 = true ∧ d.showable = true ∧ d.depth ≤ n ∧ wt d ≤ W
theorem fin.fine {n W : Nat} {d : PyData} (h : fin n W d) (h1 : n ≤ 20) (h2 : W ≤ 16000000) : fine d := ⟨h.1, h.2.1, Nat.le_trans h.2.2.1 h1, Nat.le_trans h.2.2.2 h2⟩
theorem fin.mono {n W n' W' : Nat} {d : PyData} (h : fin n W d) (h1 : n ≤ n') (h2 : W ≤ W') : fin n' W' d := ⟨h.1, h.2.1, Nat.le_trans h.2.2.1 h1, Nat.le_trans h.2.2.2 h2⟩
theorem fin_all {n W : Nat} : ∀ {ds : List PyData}, (∀ d ∈ ds, fin n W d) → PyData.canLayAll0 ds = true ∧ PyData.showableAll ds = true ∧ PyData.depthAll ds ≤ n ∧ wts ds ≤ ds.length * (W + 2)
  | [], _ => ⟨rfl, rfl, Nat.zero_le _, Nat.zero_le _⟩
  | d :: ds, h => by
    obtain ⟨a1, a2, a3, a4⟩ := h d List.mem_cons_self
    obtain ⟨b1, b2, b3, b4⟩ := fin_all fun x hx => h x (List.mem_cons_of_mem _ hx)
    refine ⟨?_, ?_, ?_, ?_⟩
    · show (d.canLay0 && PyData.canLayAll0 ds) = true
      rw [a1, b1]
      rfl
    · show (d.showable && PyData.showableAll ds) = true
      rw [a2, b2]
      rfl
    · show max d.depth (PyData.depthAll ds) ≤ n
      omega
    · show wt d + 2 + wts ds ≤ (ds.length + 1) * (W + 2)
      rw [Nat.add_mul]
      omega
theorem fin_list {n W m : Nat} {ds : List PyData} (h : ∀ d ∈ ds, fin n W d) (hm : ds.length ≤ m) : fin (n + 1) (m * (W + 2) + 3) (.list ds) := by
  obtain ⟨b1, b2, b3, b4⟩ := fin_all h
  refine ⟨b1, b2, Nat.succ_le_succ b3, ?_⟩
  show wts ds + 3 ≤ _
  have q := Nat.mul_le_mul_right (W + 2) hm
  omega
theorem fin_tup {n W m : Nat} {ds : List PyData} (h : ∀ d ∈ ds, fin n W d) (hm : ds.length ≤ m) : fin (n + 1) (m * (W + 2) + 3) (.tuple ds) := by
  obtain ⟨b1, b2, b3, b4⟩ := fin_all h
  refine ⟨b1, b2, Nat.succ_le_succ b3, ?_⟩
  show wts ds + 3 ≤ _
  have q := Nat.mul_le_mul_right (W + 2) hm
  omega
theorem fin_str {z : Str} {L : Nat} (h : (PyData.str z).canLay0 = true) (hl : z.length ≤ L) : fin 0 (10 * L + 2) (.str z) := by
  refine ⟨h, rfl, Nat.le_refl _, ?_⟩
  show 10 * z.length + 2 ≤ _
  omega
theorem fin_bool (b : Bool) : fin 0 5 (.bool b) := ⟨rfl, rfl, Nat.le_refl _, Nat.le_refl _⟩
theorem fin_none : fin 0 5 .none := ⟨rfl, rfl, Nat.le_refl _, by show 4 ≤ 5; decide⟩
theorem fin_int {i : Int} (h : i.natAbs.log2 < 1920) : fin 0 1921 (.int i) := ⟨rfl, decide_eq_true h, Nat.le_refl _, Nat.le_refl _⟩
/-- a text times 0 or 1 -/
def rMulS : R2 := fun x y H Q => ∃ (z : Str) (k : Bool), x = .str z ∧ y = .int (if k then 1 else 0) ∧ z.length ≤ 100000 ∧ Q (.str (if k then z else Str.empty)) H
theorem op_mulS {X : Cx} : OpR X (binaryOp .Mult) rMulS := by
  intro pk s τ H x y v u Q I rx ry h
  obtain ⟨z, k, rfl, rfl, hl, q⟩ := h
  obtain ⟨t, rfl⟩ := rx
  cases k with
  | false =>
    obtain ⟨t', rfl⟩ := ry
    exact PySem.P.mul_str_none (by decide) (by decide) ⟨.str _, H, I.tok _, ⟨_, rfl⟩, q⟩
  | true =>
    obtain ⟨t', rfl⟩ := ry
    have z : EP X pk τ Q (.str z t) s := ⟨.str _, H, I, ⟨_, rfl⟩, q⟩
    refine PySem.P.mul_str (by decide) (fun _ h => absurd h (by simp)) (fun _ h => absurd h (by simp)) ?_
    rw [if_neg (by decide), if_pos (by simp)]
    exact z
end Own

namespace Own
open PySem PySem.Spec PyProof.Rows L2 Evl
/-! ### two sources in one comprehension -/
def Lc2Rest (g : TG) (tt : TT) (wi1 : TI) (g1 : TG) (tt1 : TT) (te : TE) (vs vs1 : List Nat) (σ : L2.St) (Q : VK) : It → Hp → Prop := fun J H1 => tLc2 (fun _ _ R => R J H1) g tt wi1 g1 tt1 te vs vs1 σ H1 Q
def tLc2O (wi : TI) (g : TG) (tt : TT) (wi1 : TI) (g1 : TG) (tt1 : TT) (te : TE) (vs vs1 : List Nat) : TE := fun σ H Q => wi σ H (Lc2Rest g tt wi1 g1 tt1 te vs vs1 σ Q)
theorem pe_lc2O {X : Cx} {e : Expr} {wi wi1 : TI} {g g1 : TG} {tt tt1 : TT} {te : TE} {vs vs1 : List Nat} (h : PE X e (tLc2 wi g tt wi1 g1 tt1 te vs vs1)) : PE X e (tLc2O wi g tt wi1 g1 tt1 te vs vs1) := h
theorem ps_setLc2O {X : Cx} {st : Stmt} {wi wi1 : TI} {g g1 k : TG} {tt tt1 : TT} {te : TE} {vs vs1 : List Nat} (h : PS X st (tAsg (tLc2 wi g tt wi1 g1 tt1 te vs vs1) k)) : PS X st (tAsg (tLc2O wi g tt wi1 g1 tt1 te vs vs1) k) := h
theorem piAnyB {X : Cx} {s : Shared} {H : Hp} {sc : Scope} {ce : Env} {fp : List Addr} {tg l : Expr} {tl : TE} (hl : PE (X.blk s H sc ce fp) l tl) : PI (X.blk s H sc ce fp) tg l (iAny X.K tl) := piAny hl
/-- what is left of the second source's loop -/
def InRest (D : Addr) (Nx : Hp → Prop) (g1 : TG) (tt1 : TT) (te : TE) (vs1 : List Nat) (σ2 : L2.St) : It → Hp → Prop := fun J1 H4 => ∃ W1 : Nat → Nat → Hp → Prop, (∃ m, W1 0 m H4) ∧ ∀ j k H, W1 j k H →
  (J1.stop j H ∧ Nx H) ∨ (J1.go j H ∧ ∃ Nx1 : Hp → Prop, (∀ H', Nx1 H' → ∃ k', k' < k ∧ W1 (j + 1) k' H') ∧ ∀ x H', J1.yld j H x H' → g1 x (wipe σ2 vs1) H' fun σ3 H5 => wipe σ3 vs1 = wipe σ2 vs1 ∧ tt1 σ3 H5 fun b H6 =>
    if b = true then te σ3 H6 fun y H7 => ∃ acc, H7 D = some (.lst acc) ∧ acc.length < sizeLine ∧ Nx1 (upd H7 D (.lst (acc ++ [y]))) else Nx1 H6)
theorem inG {J1 : It} {n1 : Nat} {G1 : Hp → Prop} {Y1 : Nat → Hp → V → Hp → Prop} (w1 : Walk J1 n1 G1 Y1) {D : Addr} {Nx : Hp → Prop} {g1 : TG} {tt1 : TT} {te : TE} {vs1 : List Nat} {σ2 : L2.St} {H1 H4 : Hp} {ys : List V}
    (hD : H1 D = none) (e0 : Ex H1 H4) (hd : H4 D = some (.lst ys)) (hG1 : ∀ H, Ex H1 H → TEx H4 H → G1 H) (hY1 : ∀ i H x H', Y1 i H x H' → Ex H H') (Pb : Nat → List V → Hp → Prop) (hm : ∀ j zs H H', TEx H H' → Pb j zs H → Pb j zs H') (hl : ∀ j zs H, Pb j zs H → zs.length ≤ 40000) (p0 : Pb 0 ys H4)
    (hs : ∀ j x H5 H6 zs, j < n1 → Ex H1 H5 → TEx H4 H5 → Y1 j H5 x H6 → Pb j zs H6 → ∀ (N : V → Hp → Prop) (N1 : Hp → Prop), (∀ y H7, Ex H6 H7 → Pb (j + 1) (zs ++ [y]) H7 → N y H7) → (∀ H7, Ex H6 H7 → Pb (j + 1) zs H7 → N1 H7) →
      g1 x (wipe σ2 vs1) H6 fun σ3 H7 => wipe σ3 vs1 = wipe σ2 vs1 ∧ tt1 σ3 H7 fun b H8 => if b = true then te σ3 H8 N else N1 H8)
    (hend : ∀ zs H, Ex H1 H → TEx H4 H → H D = some (.lst zs) → Pb n1 zs H → Nx H) : InRest D Nx g1 tt1 te vs1 σ2 J1 H4 := by
  refine ⟨fun j k H => k = n1 - j ∧ j ≤ n1 ∧ ∃ zs, Ex H1 H ∧ TEx H4 H ∧ H D = some (.lst zs) ∧ Pb j zs H, ⟨n1, by simp, Nat.zero_le _, ys, e0, TEx.refl _, hd, p0⟩, ?_⟩
  rintro j k H ⟨rfl, hj, zs, e, t, d, p⟩
  have hg := hG1 H e t
  by_cases hlt : j < n1
  · refine .inr ⟨w1.goes j H hlt hg, fun H' => ∃ zs, Ex H1 H' ∧ TEx H4 H' ∧ H' D = some (.lst zs) ∧ Pb (j + 1) zs H', fun H' q => ⟨n1 - (j + 1), by omega, rfl, hlt, q⟩, fun x H' y => ?_⟩
    have hy := w1.yields j H x H' hlt hg y
    have e' := hY1 _ _ _ _ hy
    refine hs j x H H' zs hlt e t hy (hm _ _ _ _ (TEx.of e') p) _ _ (fun v H7 e7 p7 => ?_) (fun H7 e7 p7 => ?_)
    · have d7 := e7 _ _ (e' _ _ d)
      have b := hl _ _ _ p
      exact ⟨zs, d7, sz_lt (by omega), zs ++ [v], Ex.mut ((e.trans e').trans e7) hD, (t.trans (TEx.of (e'.trans e7))).trans (TEx.lst d7), upd_same, hm _ _ _ _ (TEx.lst d7) p7⟩
    · exact ⟨zs, (e.trans e').trans e7, t.trans (TEx.of (e'.trans e7)), e7 _ _ (e' _ _ d), p7⟩
  · have ej : j = n1 := by omega
    subst ej
    exact .inl ⟨w1.stops H hg, hend zs H e t d p⟩
/-- a comprehension over two sources whose turns may give anything -/
theorem lc2G {J : It} {n : Nat} {G : Hp → Prop} {Y : Nat → Hp → V → Hp → Prop} (w : Walk J n G Y) {g : TG} {tt : TT} {wi1 : TI} {g1 : TG} {tt1 : TT} {te : TE} {vs vs1 : List Nat} {σ : L2.St} {H1 : Hp} {Q : VK} (hG0 : G H1) (hGm : ∀ H H', Ex H H' → G H → G H') (hY : ∀ i H x H', Y i H x H' → Ex H H')
    (Pa : Nat → List V → Hp → Prop) (hm : ∀ i ys H H', TEx H H' → Pa i ys H → Pa i ys H') (p0 : Pa 0 [] H1)
    (hs : ∀ i x H H' ys, i < n → Ex H1 H → Y i H x H' → Pa i ys H' → ∀ (D : Addr) (Nx : Hp → Prop), H1 D = none → H' D = some (.lst ys) → (∀ zs H3, Ex H1 H3 → H3 D = some (.lst zs) → Pa (i + 1) zs H3 → Nx H3) →
      g x (wipe σ vs) H' fun σ2 H2 => wipe σ2 vs = wipe σ vs ∧ tt σ2 H2 fun b H3 => if b = true then wi1 σ2 H3 (InRest D Nx g1 tt1 te vs1 σ2) else Nx H3)
    (k : ∀ D H2 ys, H1 D = none → Ex H1 H2 → H2 D = some (.lst ys) → Pa n ys H2 → Q (.ref D) H2) : Lc2Rest g tt wi1 g1 tt1 te vs vs1 σ Q J H1 := by
  intro D hD
  refine ⟨fun i m H => m = n - i ∧ i ≤ n ∧ ∃ ys, Ex H1 H ∧ H D = some (.lst ys) ∧ Pa i ys H, ⟨n, by simp, Nat.zero_le _, [], Ex.new hD, upd_same, hm _ _ _ _ (TEx.of (Ex.new hD)) p0⟩, ?_⟩
  rintro i m H ⟨rfl, hi, ys, e, d, p⟩
  have hg := hGm _ _ e hG0
  by_cases hlt : i < n
  · refine .inr ⟨w.goes i H hlt hg, fun H' => ∃ ys, Ex H1 H' ∧ H' D = some (.lst ys) ∧ Pa (i + 1) ys H', fun H' q => ⟨n - (i + 1), by omega, rfl, hlt, q⟩, fun x H' y => ?_⟩
    have hy := w.yields i H x H' hlt hg y
    have e' := hY _ _ _ _ hy
    exact hs i x H H' ys hlt e hy (hm _ _ _ _ (TEx.of e') p) D _ hD (e' _ _ d) fun zs H3 e3 d3 p3 => ⟨zs, e3, d3, p3⟩
  · have ej : i = n := by omega
    subst ej
    exact .inl ⟨w.stops H hg, k D H ys hD e d p⟩
/-! ### xs[::s], s being 1 or -1 -/
def tDirL (K : PySem.W.Frag) (te ts : TE) : TE := fun σ H Q => te σ H fun x H1 => tPart ts σ H1 fun o H2 => ∃ (a : Addr) (xs : List V) (i : Bool), x = .ref a ∧ SqL K H2 a xs ∧ o = some (if i = true then 1 else -1) ∧ ∀ p, H2 p = none → Q (.ref p) (upd H2 p (.lst (if i = true then xs else xs.reverse)))
theorem cut_all (xs : List V) : cutV xs none none = xs := by
  unfold cutV
  rw [HT.sIx_none, HT.sIx_none, List.drop_zero, Nat.sub_zero, List.take_length]
theorem pe_dirL {X : Cx} {e es : Expr} {te ts : TE} {p3 pos : Pos} (he : PE X e te) (hs : PE X es ts)
    (hsub : ∀ (a l : Addr), subscripted (.Slice none none (some es) p3) false (.ref a) (.ref l) = operate [.ref a, .ref l] (getItem (.ref a) (.ref l)) := by intro _ _; with_unfolding_all rfl) : PE X (.Subscript e (.Slice none none (some es) p3) pos) (tDirL X.K te ts) := by
  refine ⟨fun pins s σ H Q I h => ?_⟩
  refine Subscript_ (thn (he.run pins s σ H _ I h) fun v s1 ⟨x, H1, I1, r1, q1⟩ => ?_)
  refine wpAny_Slice (thn (po_none.run pins s1 σ H1 (fun o H2 => o = none ∧ H2 = H1) I1 ⟨rfl, rfl⟩) fun vl s2 ⟨l, H2, I2, pl, el, e2⟩ => ?_)
  subst el e2
  refine thn (po_none.run pins s2 σ H2 (fun o H3 => o = none ∧ H3 = H2) I2 ⟨rfl, rfl⟩) fun vu s3 ⟨u, H3, I3, pu, eu, e3⟩ => ?_
  subst eu e3
  have hst : PO X (some es) (tPart ts) := po_some hs
  refine thn (hst.run pins s3 σ H3 _ I3 q1) fun vs s4 ⟨o, H4, I4, ps, a, xs, ib, ex, hx, eo, q⟩ => ?_
  subst ex
  cases r1
  subst eo
  have I5 : Inv X pins σ H4 { s4 with heap := s4.heap.push { cls := .type "slice", data := .fields #[vl, vu, vs] } } := I4.kept (t' := s4.toks) fun b ob q => Heap.get?_push_of_some _ q
  obtain ⟨its, r, ht, hz⟩ := I5.list hx
  have hlen := r.length
  show wpAny (model X.prog X.w) X.A (subscriptTail e (.Slice none none (some es) p3) (.ref a) (.ref s4.heap.objs.size)) (EP X pins σ Q) X.xe { s4 with heap := s4.heap.push { cls := .type "slice", data := .fields #[vl, vu, vs] } }
  refine tail_any (ops := [.ref a, .ref s4.heap.objs.size]) ht.isList.typeIs (PySem.slot_list_getitem.lookup) ?_ (hsub _ _)
  cases ib with
  | true =>
    simp only [if_true] at q ps ⊢
    refine wpAny_getItem_list_slice ht.isList (Heap.IsSliceOf.new _ vl vu vs) pl pu ps (by decide) ?_ (by rw [List.size_toArray]; omega)
    rw [show slicePick its.toArray none none (some 1) = slicePick its.toArray none none none from rfl, slicePick_cut, HT.sIx_none, HT.sIx_none, List.drop_zero, Nat.sub_zero, List.take_length]
    exact ⟨.ref _, _, I5.laid (t' := s4.toks) (o := .lst xs) (fun b ob q => Heap.get?_push_of_some _ q) (Nat.le_refl _) ⟨hz, _, 0, r, Heap.get?_push_size _ rfl⟩, rfl, q _ (I5.hok.fresh (Nat.le_refl _))⟩
  | false =>
    simp only [Bool.false_eq_true, if_false] at q ps ⊢
    refine wpAny_getItem_list_slice ht.isList (Heap.IsSliceOf.new _ vl vu vs) pl pu ps (by decide) ?_ (by rw [List.size_toArray]; omega)
    rw [PySem.W.krv_pick]
    exact ⟨.ref _, _, I5.laid (t' := s4.toks) (o := .lst xs.reverse) (fun b ob q => Heap.get?_push_of_some _ q) (Nat.le_refl _) ⟨by rw [List.length_reverse]; exact hz, _, 0, r.reverse, Heap.get?_push_size _ rfl⟩, rfl, q _ (I5.hok.fresh (Nat.le_refl _))⟩
theorem ifT {b : Bool} {p q : Prop} (h : b = true) (x : p) : if b = true then p else q := by
  rw [h]
  exact iteT x
theorem ifF {b : Bool} {p q : Prop} (h : b = false) (x : q) : if b = true then p else q := by
  rw [h]
  exact iteF x
theorem cut_to (xs : List V) (j : Nat) : cutV xs none (some (j : Int)) = xs.take j := by
  unfold cutV
  rw [HT.sIx_nat, HT.sIx_none, List.drop_zero, Nat.sub_zero]
  by_cases h : j ≤ xs.length
  · rw [Nat.min_eq_left h]
  · rw [Nat.min_eq_right (by omega), List.take_of_length_le (Nat.le_refl _), List.take_of_length_le (by omega)]
/-! ### repr of a dict of texts and ints -/
def kvV (p : Str × Int) : Key × V := (Sum.inr p.1, .int p.2)
def kvP (p : Str × Int) : PyData × PyData := (.str p.1, .int p.2)
def dcD (kv : List (Str × Int)) : PyData := .dict (kv.map kvP)
theorem dc_reads {P : Program} {w : World} {h : Heap} : ∀ {kv : List (Str × Int)} {us : List (Key × Value)} {es : List DictEntry}, KV (kv.map kvV) us → Pairs (mixKind P w) es us →
    ReadsAll h (es.map (·.key)) ((kv.map kvP).map (·.1)) [] ∧ ReadsAll h (es.map (·.val)) ((kv.map kvP).map (·.2)) []
  | [], _, _, .nil, .nil => ⟨.nil, .nil⟩
  | p :: kv, u :: us, e :: es, .cons a b, .cons c d f => by
    obtain ⟨q1, q2⟩ := dc_reads b f
    obtain ⟨a1, t, a2⟩ := a
    have a1 : Sum.inr p.1 = u.1 := a1
    rcases keyIs_shape (show keyIs u.1 e.key = true from c) with ⟨i, t', e1, e2⟩ | ⟨x, t', e1, e2⟩
    · rw [← a1] at e1
      cases e1
    · rw [← a1] at e1
      cases e1
      refine ⟨?_, ?_⟩
      · show ReadsAll h (e.key :: es.map (·.key)) (PyData.str p.1 :: (kv.map kvP).map (·.1)) ([] ++ [])
        rw [e2]
        exact .cons (.str _ _) q1
      · show ReadsAll h (e.val :: es.map (·.val)) (PyData.int p.2 :: (kv.map kvP).map (·.2)) ([] ++ [])
        rw [d, a2]
        exact .cons (.int _ _) q2
def kvOk (p : Str × Int) : Prop := (PyData.str p.1).canLay0 = true ∧ p.1.length ≤ 100 ∧ p.2.natAbs.log2 < 1920
theorem dc_depth : ∀ kv : List (Str × Int), PyData.depthKv (kv.map kvP) = 0
  | [] => rfl
  | p :: kv => by
    show max (max 0 0) (PyData.depthKv (kv.map kvP)) = 0
    rw [dc_depth kv]
    rfl
theorem dc_show : ∀ {kv : List (Str × Int)}, (∀ p ∈ kv, kvOk p) → PyData.showableKv (kv.map kvP) = true ∧ ((PyData.shownKv (kv.map kvP)).map (·.length)).sum ≤ kv.length * 3000 ∧ (PyData.shownKv (kv.map kvP)).length = kv.length
  | [], _ => ⟨rfl, Nat.le_refl _, rfl⟩
  | p :: kv, h => by
    obtain ⟨a1, a2, a3⟩ := dc_show fun q hq => h q (List.mem_cons_of_mem _ hq)
    obtain ⟨b1, b2, b3⟩ := h p List.mem_cons_self
    have s1 := shown_le (.str p.1) b1 rfl
    have s2 := shown_le (.int p.2) rfl (decide_eq_true b3)
    have s1 : (PyData.shown (.str p.1)).length ≤ 10 * p.1.length + 2 := s1
    have s2 : (PyData.shown (.int p.2)).length ≤ 1921 := s2
    refine ⟨?_, ?_, ?_⟩
    · show ((PyData.str p.1).showable && (PyData.int p.2).showable && PyData.showableKv (kv.map kvP)) = true
      rw [a1, show (PyData.str p.1).showable = true from rfl, show (PyData.int p.2).showable = true from decide_eq_true b3]
      rfl
    · show ((PyData.shownKv ((PyData.str p.1, PyData.int p.2) :: kv.map kvP)).map (·.length)).sum ≤ (kv.length + 1) * 3000
      rw [PyData.shownKv_cons, List.map_cons, List.sum_cons, strLen_append, strLen_append]
      have : (": " : Str).length = 2 := rfl
      omega
    · show (PyData.shownKv ((PyData.str p.1, PyData.int p.2) :: kv.map kvP)).length = kv.length + 1
      rw [PyData.shownKv_cons, List.length_cons, a3]
def rReprK : List V → Hp → VK → Prop := fun xs H Q => ∃ (a : Addr) (kv : List (Str × Int)), xs = [.ref a] ∧ H a = some (.dK (kv.map kvV)) ∧ (∀ p ∈ kv, kvOk p) ∧ kv.length ≤ 1000 ∧ Q (.str (dcD kv).shown) H
theorem callReprK {X : Cx} {k : Nat} (hg : X.A.guards = some []) (hr : Room k X.A) : CallR X (.builtin "repr") rReprK := by
  intro pk s τ H xs us Q I r h
  obtain ⟨a, kv, rfl, ha, hok, hl, q⟩ := h
  rw [Vals.ref1 r]
  obtain ⟨hz, hsm, vs, rel, o, es, ep, ho, hex, hdat, hko, hp, hn⟩ := dk_of I.hok ha
  obtain ⟨r1, r2⟩ := dc_reads (h := s.heap) rel hp
  obtain ⟨s1, s2, s3⟩ := dc_show hok
  have rd : Reads s.heap (.ref a) (dcD kv) (a :: [] ++ []) := Reads.dict ho hex.1 hdat r1 r2
  have hu := hr.units
  have hlen : (dcD kv).shown.length ≤ sizeLine := by
    show (dictText (PyData.shownKv (kv.map kvP))).length ≤ sizeLine
    have z := dictText_len_le (PyData.shownKv (kv.map kvP))
    rw [s3] at z
    have := line63
    have z2 : (dictText (PyData.shownKv (kv.map kvP))).length ≤ 4000000 := by
      have := Nat.mul_le_mul_right 3000 hl
      omega
    exact Nat.le_trans z2 (by decide)
  have hdep : (dcD kv).depth = 1 := by
    show PyData.depthKv (kv.map kvP) + 1 = 1
    rw [dc_depth]
  refine repr_of_reads' rd s1 (fun _ hm => ?_) hg (by omega) (fun _ _ e => e) (fun h' u tk hkp => ⟨.str (dcD kv).shown, H, I.kept (h' := h') (t' := tk) hkp, ⟨_, rfl⟩, q⟩) hlen
  have hm : sysModules ∈ [a] := hm
  rw [List.mem_singleton] at hm
  rw [← hm] at hsm
  exact absurd hsm (by decide)
end Own

namespace Own
open PySem PySem.Spec PyProof.Rows L2 Evl
/-! ### values of all kinds -/
mutual
/-- data that is tracked; dicts of texts and ints may stand in it -/
inductive Da (H : Hp) : V → PyData → Prop
  | non : Da H .non .none
  | bl (b : Bool) : Da H (.bl b) (.bool b)
  | int (i : Int) : Da H (.int i) (.int i)
  | str (z : Str) : Da H (.str z) (.str z)
  | lst {a : Addr} {xs : List V} {ds : List PyData} : H a = some (.lst xs) → DaAll H xs ds → Da H (.ref a) (.list ds)
  | tup {a : Addr} {xs : List V} {ds : List PyData} : H a = some (.tup xs) → DaAll H xs ds → Da H (.ref a) (.tuple ds)
  | dct {a : Addr} {kv : List (Str × Int)} {ks : List (PyData × PyData)} : H a = some (.dK (kv.map kvV)) → ks = kv.map kvP → Da H (.ref a) (.dict ks)
inductive DaAll (H : Hp) : List V → List PyData → Prop
  | nil : DaAll H [] []
  | cons {v : V} {vs : List V} {d : PyData} {ds : List PyData} : Da H v d → DaAll H vs ds → DaAll H (v :: vs) (d :: ds)
end
mutual
theorem Da.ex {H H' : Hp} (e : Ex H H') : ∀ (d : PyData) {v : V}, Da H v d → Da H' v d
  | .none, _, h => by cases h; exact .non
  | .bool _, _, h => by cases h; exact .bl _
  | .int _, _, h => by cases h; exact .int _
  | .str _, _, h => by cases h; exact .str _
  | .list ds, _, h => by
    cases h with
    | lst h1 h2 => exact .lst (e _ _ h1) (DaAll.ex e ds h2)
  | .tuple ds, _, h => by
    cases h with
    | tup h1 h2 => exact .tup (e _ _ h1) (DaAll.ex e ds h2)
  | .dict _, _, h => by
    cases h with
    | dct h1 h2 => exact .dct (e _ _ h1) h2
theorem DaAll.ex {H H' : Hp} (e : Ex H H') : ∀ (ds : List PyData) {vs : List V}, DaAll H vs ds → DaAll H' vs ds
  | [], _, h => by cases h; exact .nil
  | d :: ds, _, h => by
    cases h with
    | cons h1 h2 => exact .cons (Da.ex e d h1) (DaAll.ex e ds h2)
end
theorem DaAll.len {H : Hp} : ∀ {vs : List V} {ds : List PyData}, DaAll H vs ds → vs.length = ds.length
  | _, _, .nil => rfl
  | _, _, .cons _ h => by rw [List.length_cons, List.length_cons, h.len]
theorem DaAll.at {H : Hp} : ∀ {vs : List V} {ds : List PyData} {i : Nat} {v : V}, DaAll H vs ds → vs[i]? = some v → ∃ d, ds[i]? = some d ∧ Da H v d
  | _, _, _, _, .nil, e => by simp at e
  | _, _, 0, _, .cons h _, e => by cases e; exact ⟨_, rfl, h⟩
  | _, _, i + 1, _, .cons _ h, e => DaAll.at (i := i) h e
theorem DaAll.at2 {H : Hp} : ∀ {vs : List V} {ds : List PyData} {i : Nat} {d : PyData}, DaAll H vs ds → ds[i]? = some d → ∃ v, vs[i]? = some v ∧ Da H v d
  | _, _, _, _, .nil, e => by simp at e
  | _, _, 0, _, .cons h _, e => by cases e; exact ⟨_, rfl, h⟩
  | _, _, i + 1, _, .cons _ h, e => DaAll.at2 (i := i) h e
theorem DaAll.app {H : Hp} : ∀ {vs ws : List V} {ds es : List PyData}, DaAll H vs ds → DaAll H ws es → DaAll H (vs ++ ws) (ds ++ es)
  | _, _, _, _, .nil, k => k
  | _, _, _, _, .cons h t, k => .cons h (t.app k)
theorem DaAll.take {H : Hp} : ∀ {vs : List V} {ds : List PyData} (n : Nat), DaAll H vs ds → DaAll H (vs.take n) (ds.take n)
  | _, _, 0, _ => .nil
  | _, _, _ + 1, .nil => .nil
  | _, _, n + 1, .cons h t => .cons h (t.take n)
theorem DaAll.drop {H : Hp} : ∀ {vs : List V} {ds : List PyData} (n : Nat), DaAll H vs ds → DaAll H (vs.drop n) (ds.drop n)
  | _, _, 0, h => h
  | _, _, _ + 1, .nil => .nil
  | _, _, n + 1, .cons _ t => t.drop n
theorem DaAll.put {H : Hp} {v : V} {d : PyData} (hv : Da H v d) : ∀ {vs : List V} {ds : List PyData} {i : Nat}, DaAll H vs ds → DaAll H (vs.set i v) (ds.set i d)
  | _, _, _, .nil => .nil
  | _, _, 0, .cons _ t => .cons hv t
  | _, _, i + 1, .cons h t => .cons h (DaAll.put hv (i := i) t)
theorem DaAll.snoc {H : Hp} {v : V} {d : PyData} {vs : List V} {ds : List PyData} (h : DaAll H vs ds) (hv : Da H v d) : DaAll H (vs ++ [v]) (ds ++ [d]) := h.app (.cons hv .nil)
/-! kinds -/
def tyD : PyData → String
  | .none => "NoneType"
  | .bool _ => "bool"
  | .int _ => "int"
  | .str _ => "str"
  | .list _ => "list"
  | .tuple _ => "tuple"
  | .dict _ => "dict"
theorem Da.ty {K : PySem.W.Frag} {H : Hp} {v : V} {d : PyData} (h : Da H v d) : TyX K H v (.type (tyD d)) := by
  cases h with
  | non => exact .base .non
  | bl b => exact .base (.bl b)
  | int i => exact .base (.int i)
  | str z => exact .base (.str z)
  | lst h1 h2 => exact .base (.lst h1)
  | tup h1 h2 => exact .base (.tup h1)
  | dct h1 h2 => exact .base (.dK h1)
def isStrD : PyData → Bool | .str _ => true | _ => false
def isTupD : PyData → Bool | .tuple _ => true | _ => false
def isLstD : PyData → Bool | .list _ => true | _ => false
def isBoolD : PyData → Bool | .bool _ => true | _ => false
def isIntD : PyData → Bool | .int _ => true | .bool _ => true | _ => false
theorem kit7 {T : String} {a b c e f g i : Bool} (h1 : kitB "NoneType" T = some a) (h2 : kitB "bool" T = some b) (h3 : kitB "int" T = some c) (h4 : kitB "str" T = some e) (h5 : kitB "list" T = some f) (h6 : kitB "tuple" T = some g) (h7 : kitB "dict" T = some i)
    {p : PyData → Bool} (q1 : p .none = a) (q2 : ∀ x, p (.bool x) = b) (q3 : ∀ x, p (.int x) = c) (q4 : ∀ x, p (.str x) = e) (q5 : ∀ x, p (.list x) = f) (q6 : ∀ x, p (.tuple x) = g) (q7 : ∀ x, p (.dict x) = i) : ∀ d, kitB (tyD d) T = some (p d)
  | .none => by rw [q1]; exact h1
  | .bool x => by rw [q2]; exact h2
  | .int x => by rw [q3]; exact h3
  | .str x => by rw [q4]; exact h4
  | .list x => by rw [q5]; exact h5
  | .tuple x => by rw [q6]; exact h6
  | .dict x => by rw [q7]; exact h7
theorem kit_str : ∀ d, kitB (tyD d) "str" = some (isStrD d) := kit7 (a := false) (b := false) (c := false) (e := true) (f := false) (g := false) (i := false) (by decide +kernel) (by decide +kernel) (by decide +kernel) (by decide +kernel) (by decide +kernel) (by decide +kernel) (by decide +kernel) rfl (fun _ => rfl) (fun _ => rfl) (fun _ => rfl) (fun _ => rfl) (fun _ => rfl) (fun _ => rfl)
theorem kit_tuple : ∀ d, kitB (tyD d) "tuple" = some (isTupD d) := kit7 (a := false) (b := false) (c := false) (e := false) (f := false) (g := true) (i := false) (by decide +kernel) (by decide +kernel) (by decide +kernel) (by decide +kernel) (by decide +kernel) (by decide +kernel) (by decide +kernel) rfl (fun _ => rfl) (fun _ => rfl) (fun _ => rfl) (fun _ => rfl) (fun _ => rfl) (fun _ => rfl)
theorem kit_list : ∀ d, kitB (tyD d) "list" = some (isLstD d) := kit7 (a := false) (b := false) (c := false) (e := false) (f := true) (g := false) (i := false) (by decide +kernel) (by decide +kernel) (by decide +kernel) (by decide +kernel) (by decide +kernel) (by decide +kernel) (by decide +kernel) rfl (fun _ => rfl) (fun _ => rfl) (fun _ => rfl) (fun _ => rfl) (fun _ => rfl) (fun _ => rfl)
theorem kit_bool : ∀ d, kitB (tyD d) "bool" = some (isBoolD d) := kit7 (a := false) (b := true) (c := false) (e := false) (f := false) (g := false) (i := false) (by decide +kernel) (by decide +kernel) (by decide +kernel) (by decide +kernel) (by decide +kernel) (by decide +kernel) (by decide +kernel) rfl (fun _ => rfl) (fun _ => rfl) (fun _ => rfl) (fun _ => rfl) (fun _ => rfl) (fun _ => rfl)
theorem kit_int : ∀ d, kitB (tyD d) "int" = some (isIntD d) := kit7 (a := false) (b := true) (c := true) (e := false) (f := false) (g := false) (i := false) (by decide +kernel) (by decide +kernel) (by decide +kernel) (by decide +kernel) (by decide +kernel) (by decide +kernel) (by decide +kernel) rfl (fun _ => rfl) (fun _ => rfl) (fun _ => rfl) (fun _ => rfl) (fun _ => rfl) (fun _ => rfl)
section
variable {K : PySem.W.Frag} {H : Hp} {v : V} {d : PyData} {Q : VK}
theorem isi_str (h : Da H v d) (q : Q (.bl (isStrD d)) H) : rIsi K [v, .ty "str"] H Q :=
  ⟨v, .ty "str", _, _, isStrD d, rfl, .ty _, h.ty, kit_ty (kit_str d), q⟩
theorem isi_tup (h : Da H v d) (q : Q (.bl (isTupD d)) H) : rIsi K [v, .ty "tuple"] H Q :=
  ⟨v, .ty "tuple", _, _, isTupD d, rfl, .ty _, h.ty, kit_ty (kit_tuple d), q⟩
theorem isi_lst (h : Da H v d) (q : Q (.bl (isLstD d)) H) : rIsi K [v, .ty "list"] H Q :=
  ⟨v, .ty "list", _, _, isLstD d, rfl, .ty _, h.ty, kit_ty (kit_list d), q⟩
theorem isi_bool (h : Da H v d) (q : Q (.bl (isBoolD d)) H) : rIsi K [v, .ty "bool"] H Q :=
  ⟨v, .ty "bool", _, _, isBoolD d, rfl, .ty _, h.ty, kit_ty (kit_bool d), q⟩
theorem isi_int (h : Da H v d) (q : Q (.bl (isIntD d)) H) : rIsi K [v, .ty "int"] H Q :=
  ⟨v, .ty "int", _, _, isIntD d, rfl, .ty _, h.ty, kit_ty (kit_int d), q⟩
theorem isi_two {a b : String} {r1 r2 : Bool} {tp : Addr} (h : Da H v d) (ht : H tp = some (.tup [.ty a, .ty b])) (h1 : PySem.W.kitOne K (.type (tyD d)) (.type a) = some r1) (h2 : PySem.W.kitOne K (.type (tyD d)) (.type b) = some r2) (q : Q (.bl (r1 || r2)) H) : rIsiT K [v, .ref tp] H Q := by
  refine ⟨v, tp, _, _, [.type a, .type b], r1 || r2, rfl, ht, .cons (.ty _) (.cons (.ty _) .nil), h.ty, ?_, q⟩
  refine kitAny_cons h1 (fun e => ?_) (fun e => by rw [e]; rfl)
  rw [e, Bool.false_or]
  exact kitAny_cons h2 (fun e => by rw [e]; exact kitAny_nil) (fun e => by rw [e])
theorem isi_tl {tp : Addr} (h : Da H v d) (ht : H tp = some (.tup [.ty "tuple", .ty "list"])) (q : Q (.bl (isTupD d || isLstD d)) H) : rIsiT K [v, .ref tp] H Q :=
  isi_two h ht (r1 := isTupD d) (r2 := isLstD d) (kit_ty (kit_tuple d)) (kit_ty (kit_list d)) q
theorem isi_lt {tp : Addr} (h : Da H v d) (ht : H tp = some (.tup [.ty "list", .ty "tuple"])) (q : Q (.bl (isLstD d || isTupD d)) H) : rIsiT K [v, .ref tp] H Q :=
  isi_two h ht (r1 := isLstD d) (r2 := isTupD d) (kit_ty (kit_list d)) (kit_ty (kit_tuple d)) q
end
/-! a list beside the empty one -/
def rEq0 (K : PySem.W.Frag) : R2 := fun x y H Q => ∃ (a b : Addr) (xs : List V), x = .ref a ∧ y = .ref b ∧ SqL K H a xs ∧ SqL K H b [] ∧ Q (.bl xs.isEmpty) H
def rNe0 (K : PySem.W.Frag) : R2 := fun x y H Q => ∃ (a b : Addr) (xs : List V), x = .ref a ∧ y = .ref b ∧ SqL K H a xs ∧ SqL K H b [] ∧ Q (.bl (!xs.isEmpty)) H
theorem op_eq0 {X : Cx} {k : Nat} (hr : Room k X.A) : OpR X (compareOp .Eq) (rEq0 X.K) := by
  intro pk s τ H x y v u Q I rx ry h
  obtain ⟨a, b, xs, rfl, rfl, h1, h2, q⟩ := h
  cases rx
  cases ry
  obtain ⟨its, r, pl, hz⟩ := I.list h1
  obtain ⟨its2, r2, pl2, hz2⟩ := I.list h2
  cases r2
  have hu : X.A.units < cLine := by
    have := hr.units
    omega
  have hlen := r.length
  cases xs with
  | nil =>
    cases r
    exact SeqAt.eq_listAt (e := fun _ => true) pl.isList pl2.isList rfl hu (fun j h1 => absurd h1 (by simp)) ⟨.bl true, H, I, rfl, q⟩
  | cons z zs =>
    refine SeqAt.eq_list_lengthsAt pl.isList pl2.isList ?_ hu ⟨.bl false, H, I, rfl, q⟩
    rw [List.length_cons] at hlen
    simp only [List.size_toArray, List.length_nil, bne_iff_ne, ne_eq]
    omega
theorem op_ne0 {X : Cx} {k : Nat} (hr : Room k X.A) : OpR X (compareOp .NotEq) (rNe0 X.K) := by
  intro pk s τ H x y v u Q I rx ry h
  obtain ⟨a, b, xs, rfl, rfl, h1, h2, q⟩ := h
  cases rx
  cases ry
  obtain ⟨its, r, pl, hz⟩ := I.list h1
  obtain ⟨its2, r2, pl2, hz2⟩ := I.list h2
  cases r2
  have hu : X.A.units < cLine := by
    have := hr.units
    omega
  have hlen := r.length
  cases xs with
  | nil =>
    cases r
    exact SeqAt.RcNeAt.lists (e := fun _ => true) pl.isList pl2.isList rfl hu (fun j h1 => absurd h1 (by simp)) _ _ _ _ ⟨.bl false, H, I, rfl, q⟩
  | cons z zs =>
    refine SeqAt.RcNeAt.lists_lengths pl.isList pl2.isList ?_ hu _ _ _ _ ⟨.bl true, H, I, rfl, q⟩
    rw [List.length_cons] at hlen
    simp only [List.size_toArray, List.length_nil, bne_iff_ne, ne_eq]
    omega
theorem op_eq0B {X : Cx} {k : Nat} {s : Shared} {H : Hp} {sc : Scope} {ce : Env} {fp : List Addr} (hr : Room k X.A) : OpR (X.blk s H sc ce fp) (compareOp .Eq) (rEq0 X.K) := op_eq0 hr
theorem op_ne0B {X : Cx} {k : Nat} {s : Shared} {H : Hp} {sc : Scope} {ce : Env} {fp : List Addr} (hr : Room k X.A) : OpR (X.blk s H sc ce fp) (compareOp .NotEq) (rNe0 X.K) := op_ne0 hr
/-! sizes -/
mutual
def gD : PyData → Bool
  | .none => true
  | .bool _ => true
  | .int i => decide (i.natAbs.log2 < 1920)
  | .str x => x.cps.all (· < 0x110000)
  | .list xs => gDs xs
  | .tuple xs => gDs xs
  | .dict ks => gDk ks
def gDs : List PyData → Bool
  | [] => true
  | x :: xs => gD x && gDs xs
def gDk : List (PyData × PyData) → Bool
  | [] => true
  | (k, v) :: r => gD k && (gD v && gDk r)
end
mutual
/-- no text of d is longer -/
def wd : PyData → Nat
  | .none => 5
  | .bool _ => 5
  | .int _ => 1921
  | .str x => 10 * x.length + 5
  | .list xs => wds xs + 3
  | .tuple xs => wds xs + 3
  | .dict ks => wdk ks + 3
def wds : List PyData → Nat
  | [] => 0
  | x :: xs => wd x + 2 + wds xs
def wdk : List (PyData × PyData) → Nat
  | [] => 0
  | (k, v) :: r => wd k + wd v + 4 + wdk r
end
theorem str_wd {x : Str} (h : x.cps.all (· < 0x110000) = true) : (PyData.shown (.str x)).length ≤ 10 * x.length + 5 := by
  have z : (PyData.shown (.str x)).length ≤ 10 * x.length + 2 := by
    refine StrLaws.reprText_len x fun c hc => ?_
    rw [← Array.all_toList] at h
    have q := of_decide_eq_true ((List.all_eq_true.mp h) c hc)
    exact Nat.lt_trans q (by decide)
  omega
mutual
theorem shownD : ∀ d : PyData, gD d = true → d.showable = true ∧ d.shown.length ≤ wd d
  | .none, _ => ⟨rfl, by decide⟩
  | .bool b, _ => ⟨rfl, by cases b <;> decide⟩
  | .int i, h => ⟨h, int_text_len_1921 (of_decide_eq_true h)⟩
  | .str x, h => ⟨rfl, str_wd h⟩
  | .list xs, h => by
    obtain ⟨q1, q2⟩ := shownDs xs h
    have z := listText_le (PyData.shownAll xs)
    refine ⟨q1, ?_⟩
    show (listText (PyData.shownAll xs)).length ≤ wds xs + 3
    omega
  | .tuple xs, h => by
    obtain ⟨q1, q2⟩ := shownDs xs h
    have z := tupleText_le (PyData.shownAll xs)
    refine ⟨q1, ?_⟩
    show (tupleText (PyData.shownAll xs)).length ≤ wds xs + 3
    omega
  | .dict ks, h => by
    obtain ⟨q1, q2⟩ := shownDk ks h
    refine ⟨q1, ?_⟩
    show (dictText (PyData.shownKv ks)).length ≤ wdk ks + 3
    have z := dictText_len_le (PyData.shownKv ks)
    omega
theorem shownDs : ∀ ds : List PyData, gDs ds = true → PyData.showableAll ds = true ∧ piled (PyData.shownAll ds) ≤ wds ds
  | [], _ => ⟨rfl, Nat.le_refl _⟩
  | d :: ds, h => by
    have h' : (gD d && gDs ds) = true := h
    rw [Bool.and_eq_true] at h'
    obtain ⟨a1, a2⟩ := shownD d h'.1
    obtain ⟨b1, b2⟩ := shownDs ds h'.2
    refine ⟨?_, ?_⟩
    · show (d.showable && PyData.showableAll ds) = true
      rw [a1, b1]
      rfl
    · show piled (d.shown :: PyData.shownAll ds) ≤ wd d + 2 + wds ds
      rw [piled_cons]
      omega
theorem shownDk : ∀ ks : List (PyData × PyData), gDk ks = true → PyData.showableKv ks = true ∧ ((PyData.shownKv ks).map (·.length)).sum + 2 * (PyData.shownKv ks).length ≤ wdk ks
  | [], _ => ⟨rfl, Nat.le_refl _⟩
  | (k, v) :: r, h => by
    have h' : (gD k && (gD v && gDk r)) = true := h
    rw [Bool.and_eq_true, Bool.and_eq_true] at h'
    obtain ⟨a1, a2⟩ := shownD k h'.1
    obtain ⟨b1, b2⟩ := shownD v h'.2.1
    obtain ⟨c1, c2⟩ := shownDk r h'.2.2
    refine ⟨?_, ?_⟩
    · show (k.showable && v.showable && PyData.showableKv r) = true
      rw [a1, b1, c1]
      rfl
    · rw [PyData.shownKv_cons, List.map_cons, List.sum_cons, List.length_cons, strLen_append, strLen_append]
      show _ ≤ wd k + wd v + 4 + wdk r
      have : (": " : Str).length = 2 := rfl
      omega
end
end Own

namespace Own
open PySem PySem.Spec PyProof.Rows L2 Evl
/-- the base knows the table of modules (so no tracked list lies there) -/
def SysAt (base : Heap) : Prop := ∃ mm, base.Ns sysModules mm
section
variable {X : Cx} {pins : List (Addr × Obj)} {σ : L2.St} {H : Hp} {s : Shared}
theorem not_sys (I : Inv X pins σ H s) (hs : SysAt X.base) {a : Addr} {o : Obj} {vs : Array Value} {n : Nat} (h : s.heap.get? a = some o) (hd : o.data = .seq vs n) : a ≠ sysModules := by
  intro e
  subst e
  obtain ⟨mm, o2, es, ep, h2, hd2, _⟩ := hs
  have h3 := I.bk _ _ h2
  rw [h] at h3
  cases h3
  rw [hd] at hd2
  cases hd2
mutual
theorem Da.reads (I : Inv X pins σ H s) (hs : SysAt X.base) : ∀ (d : PyData) (v : V) (u : Value), Da H v d → RelV v u → ∃ as, Reads s.heap u d as ∧ sysModules ∉ as
  | .none, _, _, h, r => by
    cases h
    cases r
    exact ⟨_, Reads.none, by simp⟩
  | .bool b, _, _, h, r => by
    cases h
    cases r
    exact ⟨_, Reads.bool b, by simp⟩
  | .int i, _, _, h, r => by
    cases h
    obtain ⟨t, rfl⟩ := r
    exact ⟨_, Reads.int i t, by simp⟩
  | .str x, _, _, h, r => by
    cases h
    obtain ⟨t, rfl⟩ := r
    exact ⟨_, Reads.str x t, by simp⟩
  | .list ds, _, _, h, r => by
    cases h with
    | lst hh ha =>
      cases r
      obtain ⟨its, rv, ⟨o, n, ho, hc, _, hd⟩, _⟩ := I.list (sq_of hh)
      obtain ⟨as, hr, hn⟩ := DaAll.reads I hs ds _ its ha rv
      refine ⟨_, Reads.list ho hc hd hr, ?_⟩
      rw [List.mem_cons, not_or]
      exact ⟨(not_sys I hs ho hd).symm, hn⟩
  | .tuple ds, _, _, h, r => by
    cases h with
    | tup hh ha =>
      cases r
      obtain ⟨its, rv, ⟨o, ho, hc, n, hd⟩, _⟩ := I.tuple (st_of hh)
      obtain ⟨as, hr, hn⟩ := DaAll.reads I hs ds _ its ha rv
      exact ⟨_, Reads.tuple ho hc hd hr, hn⟩
  | .dict ks, _, _, h, r => by
    cases h with
    | dct hh e =>
      cases r
      obtain ⟨hz, hsm, vs, rel, o, es, ep, ho, hex, hdat, hko, hp, hn⟩ := dk_of I.hok hh
      obtain ⟨r1, r2⟩ := dc_reads (h := s.heap) rel hp
      subst e
      refine ⟨_, Reads.dict ho hex.1 hdat r1 r2, ?_⟩
      intro hm
      have hm : sysModules ∈ [_] := hm
      rw [List.mem_singleton] at hm
      rw [← hm] at hsm
      exact absurd hsm (by decide)
theorem DaAll.reads (I : Inv X pins σ H s) (hs : SysAt X.base) : ∀ (ds : List PyData) (vs : List V) (us : List Value), DaAll H vs ds → Vals vs us → ∃ as, ReadsAll s.heap us ds as ∧ sysModules ∉ as
  | [], _, _, h, r => by
    cases h
    cases r
    exact ⟨_, ReadsAll.nil, by simp⟩
  | d :: ds, _, _, h, r => by
    cases h with
    | cons h1 h2 =>
      cases r with
      | cons r1 r2 =>
        obtain ⟨as, q1, n1⟩ := Da.reads I hs d _ _ h1 r1
        obtain ⟨bs, q2, n2⟩ := DaAll.reads I hs ds _ _ h2 r2
        refine ⟨_, ReadsAll.cons q1 q2, ?_⟩
        rw [List.mem_append, not_or]
        exact ⟨n1, n2⟩
end
end
/-- data that may be shown -/
def okD (n W : Nat) (d : PyData) : Prop := gD d = true ∧ d.depth ≤ n ∧ wd d ≤ W
theorem okD.mono {n W n' W' : Nat} {d : PyData} (h : okD n W d) (h1 : n ≤ n') (h2 : W ≤ W') : okD n' W' d := ⟨h.1, Nat.le_trans h.2.1 h1, Nat.le_trans h.2.2 h2⟩
def rReprX : List V → Hp → VK → Prop := fun xs H Q => ∃ v d, xs = [v] ∧ Da H v d ∧ okD 40 16000000 d ∧ Q (.str d.shown) H
theorem callReprX {X : Cx} {k : Nat} (hs : SysAt X.base) (hg : X.A.guards = some []) (hr : Room k X.A) : CallR X (.builtin "repr") rReprX := by
  intro pk s τ H xs us Q I r h
  obtain ⟨v, d, rfl, hd, ⟨g1, g2, g3⟩, q⟩ := h
  obtain ⟨s1, s2⟩ := shownD d g1
  have hlen : d.shown.length ≤ sizeLine := Nat.le_trans s2 (Nat.le_trans g3 (by decide))
  have hu := hr.units
  obtain ⟨u, eu, ru⟩ := vals1 r
  subst eu
  obtain ⟨as, rd, hn⟩ := Da.reads I hs d v u hd ru
  cases hd with
  | lst h1 h2 =>
    cases ru
    exact repr_of_reads' rd s1 (fun _ => hn) hg (by omega) (fun _ _ e => e) (fun h' u tk hkp => ⟨.str _, H, I.kept (h' := h') (t' := tk) hkp, ⟨_, rfl⟩, q⟩) hlen
  | tup h1 h2 =>
    cases ru
    exact repr_of_reads' rd s1 (fun _ => hn) hg (by omega) (fun _ _ e => e) (fun h' u tk hkp => ⟨.str _, H, I.kept (h' := h') (t' := tk) hkp, ⟨_, rfl⟩, q⟩) hlen
  | dct h1 h2 =>
    cases ru
    exact repr_of_reads' rd s1 (fun _ => hn) hg (by omega) (fun _ _ e => e) (fun h' u tk hkp => ⟨.str _, H, I.kept (h' := h') (t' := tk) hkp, ⟨_, rfl⟩, q⟩) hlen
  | non =>
    cases ru
    exact PySem.P.repr_of_none ⟨.str "None", H, I.tok _, ⟨_, rfl⟩, q⟩
  | bl b =>
    cases ru
    exact PySem.P.repr_of_bool ⟨.str (if b then "True" else "False"), H, I.tok _, ⟨_, by cases b <;> rfl⟩, by cases b <;> exact q⟩
  | int i =>
    obtain ⟨t, rfl⟩ := ru
    exact PySem.P.repr_of_int (of_decide_eq_true g1) ⟨.str (toString i), H, I.tok _, ⟨_, rfl⟩, q⟩
  | str x =>
    obtain ⟨t, rfl⟩ := ru
    exact PySem.P.repr_of_str ⟨.str (reprText x), H, I.tok _, ⟨_, rfl⟩, q⟩ hlen
/-! making and taking apart -/
theorem gDs_iff : ∀ {ds : List PyData}, gDs ds = true ↔ ∀ d ∈ ds, gD d = true
  | [] => ⟨fun _ d h => by (cases h), fun _ => rfl⟩
  | x :: xs => by
    show (gD x && gDs xs) = true ↔ _
    rw [Bool.and_eq_true, gDs_iff (ds := xs)]
    refine ⟨fun h d hd => ?_, fun h => ⟨h x List.mem_cons_self, fun d hd => h d (List.mem_cons_of_mem _ hd)⟩⟩
    rcases List.mem_cons.mp hd with e | hd
    · rw [e]
      exact h.1
    · exact h.2 d hd
theorem depthAll_le {n : Nat} : ∀ {ds : List PyData}, PyData.depthAll ds ≤ n ↔ ∀ d ∈ ds, d.depth ≤ n
  | [] => ⟨fun _ d h => by (cases h), fun _ => Nat.zero_le _⟩
  | x :: xs => by
    show max x.depth (PyData.depthAll xs) ≤ n ↔ _
    rw [Nat.max_le, depthAll_le (ds := xs)]
    refine ⟨fun h d hd => ?_, fun h => ⟨h x List.mem_cons_self, fun d hd => h d (List.mem_cons_of_mem _ hd)⟩⟩
    rcases List.mem_cons.mp hd with e | hd
    · rw [e]
      exact h.1
    · exact h.2 d hd
theorem wds_app : ∀ (xs ys : List PyData), wds (xs ++ ys) = wds xs + wds ys
  | [], ys => (Nat.zero_add _).symm
  | x :: xs, ys => by
    show wd x + 2 + wds (xs ++ ys) = wd x + 2 + wds xs + wds ys
    rw [wds_app xs ys]
    omega
theorem wd_mem {d : PyData} : ∀ {ds : List PyData}, d ∈ ds → wd d + 2 ≤ wds ds
  | x :: xs, h => by
    show _ ≤ wd x + 2 + wds xs
    rcases List.mem_cons.mp h with e | h
    · rw [e]
      omega
    · have := wd_mem h
      omega
theorem wds_take (n : Nat) (xs : List PyData) : wds (xs.take n) ≤ wds xs := by
  have h := wds_app (xs.take n) (xs.drop n)
  rw [List.take_append_drop] at h
  omega
theorem wds_drop (n : Nat) (xs : List PyData) : wds (xs.drop n) ≤ wds xs := by
  have h := wds_app (xs.take n) (xs.drop n)
  rw [List.take_append_drop] at h
  omega
theorem wd_pos : ∀ d : PyData, 3 ≤ wd d
  | .none => by show 3 ≤ 5; decide
  | .bool _ => by show 3 ≤ 5; decide
  | .int _ => by show 3 ≤ 1921; decide
  | .str x => by show 3 ≤ 10 * x.length + 5; omega
  | .list xs => by show 3 ≤ wds xs + 3; omega
  | .tuple xs => by show 3 ≤ wds xs + 3; omega
  | .dict ks => by show 3 ≤ wdk ks + 3; omega
theorem len_wds : ∀ ds : List PyData, 5 * ds.length ≤ wds ds
  | [] => Nat.le_refl _
  | x :: xs => by
    have := len_wds xs
    have := wd_pos x
    show 5 * (xs.length + 1) ≤ wd x + 2 + wds xs
    omega
end Own

namespace Own
open PySem PySem.Spec PyProof.Rows L2 Evl
/-! ### data that lies within A -/
theorem none_of {H H' : Hp} {l : Addr} (e : Ex H H') (h : H' l = none) : H l = none := by
  cases hx : H l with
  | none => rfl
  | some o => rw [e _ _ hx] at h; cases h
mutual
inductive DaA (A : Addr → Prop) (H : Hp) : V → PyData → Prop
  | non : DaA A H .non .none
  | bl (b : Bool) : DaA A H (.bl b) (.bool b)
  | int (i : Int) : DaA A H (.int i) (.int i)
  | str (z : Str) : DaA A H (.str z) (.str z)
  | lst {a : Addr} {xs : List V} {ds : List PyData} : A a → H a = some (.lst xs) → DaAA A H xs ds → DaA A H (.ref a) (.list ds)
  | tup {a : Addr} {xs : List V} {ds : List PyData} : A a → H a = some (.tup xs) → DaAA A H xs ds → DaA A H (.ref a) (.tuple ds)
  | dct {a : Addr} {kv : List (Str × Int)} {ks : List (PyData × PyData)} : A a → H a = some (.dK (kv.map kvV)) → ks = kv.map kvP → DaA A H (.ref a) (.dict ks)
inductive DaAA (A : Addr → Prop) (H : Hp) : List V → List PyData → Prop
  | nil : DaAA A H [] []
  | cons {v : V} {vs : List V} {d : PyData} {ds : List PyData} : DaA A H v d → DaAA A H vs ds → DaAA A H (v :: vs) (d :: ds)
end
mutual
theorem DaA.move {A A' : Addr → Prop} {H H' : Hp} (e : ∀ a o, A a → H a = some o → H' a = some o) (w : ∀ a, A a → A' a) : ∀ (d : PyData) {v : V}, DaA A H v d → DaA A' H' v d
  | .none, _, h => by cases h; exact .non
  | .bool _, _, h => by cases h; exact .bl _
  | .int _, _, h => by cases h; exact .int _
  | .str _, _, h => by cases h; exact .str _
  | .list ds, _, h => by
    cases h with
    | lst h0 h1 h2 => exact .lst (w _ h0) (e _ _ h0 h1) (DaAA.move e w ds h2)
  | .tuple ds, _, h => by
    cases h with
    | tup h0 h1 h2 => exact .tup (w _ h0) (e _ _ h0 h1) (DaAA.move e w ds h2)
  | .dict _, _, h => by
    cases h with
    | dct h0 h1 h2 => exact .dct (w _ h0) (e _ _ h0 h1) h2
theorem DaAA.move {A A' : Addr → Prop} {H H' : Hp} (e : ∀ a o, A a → H a = some o → H' a = some o) (w : ∀ a, A a → A' a) : ∀ (ds : List PyData) {vs : List V}, DaAA A H vs ds → DaAA A' H' vs ds
  | [], _, h => by cases h; exact .nil
  | d :: ds, _, h => by
    cases h with
    | cons h1 h2 => exact .cons (DaA.move e w d h1) (DaAA.move e w ds h2)
end
mutual
theorem DaA.da {A : Addr → Prop} {H : Hp} : ∀ (d : PyData) {v : V}, DaA A H v d → Da H v d
  | .none, _, h => by cases h; exact .non
  | .bool _, _, h => by cases h; exact .bl _
  | .int _, _, h => by cases h; exact .int _
  | .str _, _, h => by cases h; exact .str _
  | .list ds, _, h => by
    cases h with
    | lst h0 h1 h2 => exact .lst h1 (DaAA.da ds h2)
  | .tuple ds, _, h => by
    cases h with
    | tup h0 h1 h2 => exact .tup h1 (DaAA.da ds h2)
  | .dict _, _, h => by
    cases h with
    | dct h0 h1 h2 => exact .dct h1 h2
theorem DaAA.da {A : Addr → Prop} {H : Hp} : ∀ (ds : List PyData) {vs : List V}, DaAA A H vs ds → DaAll H vs ds
  | [], _, h => by cases h; exact .nil
  | d :: ds, _, h => by
    cases h with
    | cons h1 h2 => exact .cons (DaA.da d h1) (DaAA.da ds h2)
end
mutual
theorem Da.within {H : Hp} : ∀ (d : PyData) {v : V}, Da H v d → DaA (fun a => H a ≠ none) H v d
  | .none, _, h => by cases h; exact .non
  | .bool _, _, h => by cases h; exact .bl _
  | .int _, _, h => by cases h; exact .int _
  | .str _, _, h => by cases h; exact .str _
  | .list ds, _, h => by
    cases h with
    | lst h1 h2 => exact .lst (by rw [h1]; exact fun z => nomatch z) h1 (DaAll.within ds h2)
  | .tuple ds, _, h => by
    cases h with
    | tup h1 h2 => exact .tup (by rw [h1]; exact fun z => nomatch z) h1 (DaAll.within ds h2)
  | .dict _, _, h => by
    cases h with
    | dct h1 h2 => exact .dct (by rw [h1]; exact fun z => nomatch z) h1 h2
theorem DaAll.within {H : Hp} : ∀ (ds : List PyData) {vs : List V}, DaAll H vs ds → DaAA (fun a => H a ≠ none) H vs ds
  | [], _, h => by cases h; exact .nil
  | d :: ds, _, h => by
    cases h with
    | cons h1 h2 => exact .cons (Da.within d h1) (DaAll.within ds h2)
end
section
variable {A : Addr → Prop} {H : Hp}
theorem DaAA.len : ∀ {vs : List V} {ds : List PyData}, DaAA A H vs ds → vs.length = ds.length
  | _, _, .nil => rfl
  | _, _, .cons _ h => by rw [List.length_cons, List.length_cons, h.len]
theorem DaAA.at2 : ∀ {vs : List V} {ds : List PyData} {i : Nat} {d : PyData}, DaAA A H vs ds → ds[i]? = some d → ∃ v, vs[i]? = some v ∧ DaA A H v d
  | _, _, _, _, .nil, e => by simp at e
  | _, _, 0, _, .cons h _, e => by cases e; exact ⟨_, rfl, h⟩
  | _, _, i + 1, _, .cons _ h, e => DaAA.at2 (i := i) h e
theorem DaAA.at : ∀ {vs : List V} {ds : List PyData} {i : Nat} {v : V}, DaAA A H vs ds → vs[i]? = some v → ∃ d, ds[i]? = some d ∧ DaA A H v d
  | _, _, _, _, .nil, e => by simp at e
  | _, _, 0, _, .cons h _, e => by cases e; exact ⟨_, rfl, h⟩
  | _, _, i + 1, _, .cons _ h, e => DaAA.at (i := i) h e
theorem DaAA.app : ∀ {vs ws : List V} {ds es : List PyData}, DaAA A H vs ds → DaAA A H ws es → DaAA A H (vs ++ ws) (ds ++ es)
  | _, _, _, _, .nil, k => k
  | _, _, _, _, .cons h t, k => .cons h (t.app k)
theorem DaAA.take : ∀ {vs : List V} {ds : List PyData} (n : Nat), DaAA A H vs ds → DaAA A H (vs.take n) (ds.take n)
  | _, _, 0, _ => .nil
  | _, _, _ + 1, .nil => .nil
  | _, _, n + 1, .cons h t => .cons h (t.take n)
theorem DaAA.drop : ∀ {vs : List V} {ds : List PyData} (n : Nat), DaAA A H vs ds → DaAA A H (vs.drop n) (ds.drop n)
  | _, _, 0, h => h
  | _, _, _ + 1, .nil => .nil
  | _, _, n + 1, .cons _ t => t.drop n
theorem DaAA.put {v : V} {d : PyData} (hv : DaA A H v d) : ∀ {vs : List V} {ds : List PyData} {i : Nat}, DaAA A H vs ds → DaAA A H (vs.set i v) (ds.set i d)
  | _, _, _, .nil => .nil
  | _, _, 0, .cons _ t => .cons hv t
  | _, _, i + 1, .cons h t => .cons h (DaAA.put hv (i := i) t)
end
end Own

namespace Own
open PySem PySem.Spec PyProof.Rows L2 Evl
/-! ### a tuple that begins with a text, beside a tuple of one text -/
def rEqTs (K : PySem.W.Frag) : R2 := fun x y H Q => ∃ (a b : Addr) (z u : Str) (xs : List V), x = .ref a ∧ y = .ref b ∧ SqT K H a (.str z :: xs) ∧ SqT K H b [.str u] ∧ Q (.bl (decide (z = u) && xs.isEmpty)) H
theorem op_eqTs {X : Cx} {k : Nat} (hr : Room k X.A) : OpR X (compareOp .Eq) (rEqTs X.K) := by
  intro pk s τ H x y v v2 Q I rx ry h
  obtain ⟨a, b, z, u, xs, rfl, rfl, h1, h2, q⟩ := h
  cases rx
  cases ry
  obtain ⟨its, r, tp, hz⟩ := I.tuple h1
  obtain ⟨its2, r2, tp2, hz2⟩ := I.tuple h2
  cases r2 with
  | cons ru rn =>
    cases rn
    obtain ⟨tu, rfl⟩ := ru
    cases r with
    | @cons _ _ _ its0 rz rr =>
      obtain ⟨tz, rfl⟩ := rz
      have hu : X.A.units < cLine := by
        have := hr.units
        omega
      refine SeqAt.eq_tupleAt (e := fun _ => decide (z = u)) tp tp2 hu (fun j h1 h2 => ?_) ⟨.bl _, H, I, rfl, ?_⟩
      · have hj : j = 0 := by
          have : j < 1 := h2
          omega
        subst hj
        have e : (z == u) = decide (z = u) := by
          by_cases h : z = u
          · rw [h]
            simp
          · rw [decide_eq_false h]
            exact beq_eq_false_iff_ne.mpr h
        rw [← e]
        exact SeqAt.EqAt.str_str z tz u tu
      · have hm : min (Value.str z tz :: its0).toArray.size [Value.str u tu].toArray.size = 1 := by simp
        have hs : ((Value.str z tz :: its0).toArray.size == [Value.str u tu].toArray.size) = xs.isEmpty := by
          have hlen := rr.length
          cases xs with
          | nil => cases rr; rfl
          | cons x xs =>
            rw [List.length_cons] at hlen
            show ((its0.length + 1) == 1) = false
            exact beq_eq_false_iff_ne.mpr (by omega)
        rw [hm, hs]
        show Q (.bl ((decide (z = u) && true) && xs.isEmpty)) H
        rw [Bool.and_true]
        exact q
def rEqB (K : PySem.W.Frag) : R2 := fun x y H Z => rEqA K x y H Z ∨ rEqTs K x y H Z
theorem opEqT {X : Cx} {k : Nat} (hr : Room k X.A) : OpR X (compareOp .Eq) (rEqB X.K) := OpR.or (opEq hr) (op_eqTs hr)
end Own

namespace Own
open PySem PySem.Spec PyProof.Rows L2 Evl
/-! ### a tuple beside the empty one -/
def rEqT0 (K : PySem.W.Frag) : R2 := fun x y H Q => ∃ (a b : Addr) (xs : List V), x = .ref a ∧ y = .ref b ∧ SqT K H a xs ∧ SqT K H b [] ∧ Q (.bl xs.isEmpty) H
theorem op_eqT0 {X : Cx} {k : Nat} (hr : Room k X.A) : OpR X (compareOp .Eq) (rEqT0 X.K) := by
  intro pk s τ H x y v v2 Q I rx ry h
  obtain ⟨a, b, xs, rfl, rfl, h1, h2, q⟩ := h
  cases rx
  cases ry
  obtain ⟨its, r, tp, hz⟩ := I.tuple h1
  obtain ⟨its2, r2, tp2, hz2⟩ := I.tuple h2
  cases r2
  have hu : X.A.units < cLine := by
    have := hr.units
    omega
  refine SeqAt.eq_tupleAt (e := fun _ => true) tp tp2 hu (fun j h1 h2 => absurd h2 (by simp)) ⟨.bl _, H, I, rfl, ?_⟩
  have hm : min its.toArray.size ([] : List Value).toArray.size = 0 := by simp
  have hs : (its.toArray.size == ([] : List Value).toArray.size) = xs.isEmpty := by
    have hlen := r.length
    cases xs with
    | nil => cases r; rfl
    | cons x xs =>
      rw [List.length_cons] at hlen
      show (its.toArray.size == 0) = false
      rw [List.size_toArray]
      exact beq_eq_false_iff_ne.mpr (by omega)
  rw [hm, hs]
  exact q
/-! ### what a dict of the written part has of a text -/
def IsKD (K : PySem.W.Frag) (w : World) (a : Addr) : Prop := ∃ es n, K.lookup a = some ⟨.type "dict", none, .dict es n, #[]⟩ ∧ PySem.W.KeysLit w.params es.toList ∧ (a == sysModules) = false
def tKGet2 (K : PySem.W.Frag) (w : World) (td ty tx : TE) : TE := fun σ H Q => td σ H fun x H1 => ∃ a, x = .ref a ∧ IsKD K w a ∧ ty σ H1 fun y H2 => tx σ H2 fun z H3 => ∃ (k : Str) (v : V), y = .str k ∧ ((∃ u, PySem.W.nsIn K a k = some (some u) ∧ RelV v u) ∨ (PySem.W.nsIn K a k = some none ∧ v = z)) ∧ Q v H3
theorem pe_kget2 {X : Cx} {o e f : Expr} {apos cpos : Pos} {td ty tx : TE} (ho : PE X o td) (he : PE X e ty) (hf : PE X f tx) (m : M2 X o "get" apos e f cpos) : PE X (.Call (.Attribute o "get" apos) [e, f] [] cpos) (tKGet2 X.K X.w td ty tx) := by
  refine ⟨fun pins s σ H Q I h => ?_⟩
  refine wpAny_Call_method m.base m.few m.line PySem.F.plainAttrs_dict PySem.F.slot_dict_get PySem.F.type_dict_get (thn (ho.run pins s σ H _ I h) fun u s1 ⟨x, H1, I1, rx, a, ex, d, q1⟩ => ?_)
  subst ex
  obtain rfl : u = Value.ref a := rx
  obtain ⟨es, n, hl, hk, hd⟩ := d
  refine ⟨(PySem.W.mapOf_K (prog := X.prog) (w := X.w) I1.kIn hl hk).typeIs, fun b q => ?_, ?_⟩
  · cases q
    exact ⟨_, I1.kIn _ _ hl, rfl⟩
  rw [m.trees]
  refine Calls.callWith_builtin rfl (Calls.evalArgs_plain (Calls.spliced_cons (thn (he.run pins s1 σ H1 _ I1 q1) fun iv s2 ⟨y, H2, I2, ry, q2⟩ =>
    Calls.spliced_cons (thn (hf.run pins s2 σ H2 _ I2 q2) fun fv s3 ⟨z, H3, I3, rz, k, v, ey, g, q3⟩ => Calls.spliced_nil ?_))))
  subst ey
  obtain ⟨t, rfl⟩ := (show ∃ t, iv = Value.str k t from ry)
  have hm := PySem.W.mapOf_K (prog := X.prog) (w := X.w) I3.kIn hl hk
  refine call_meetsIn PySem.F.slot_dict_get hm.typeIs PySem.F.entry_dict_get (PySem.F.args_dict_get_3 _ _ _) (meets_dict_get_default (strKind X.prog X.w) a (strKind_is X.prog X.w k t) hd fv) ⟨_, hm, ?_⟩
  rcases g with ⟨u, hn, hv⟩ | ⟨hn, rfl⟩
  · rw [PySem.W.find_K hl hn]
    exact ⟨v, H3, I3.tok _, hv, q3⟩
  · rw [PySem.W.find_K hl hn]
    exact ⟨v, H3, I3.tok _, rz, q3⟩
/-! ### t[::-1], t being a tuple -/
theorem sliceApplied_rev {prog : Program} {w : World} {A : Around} {E : Value → Shared → Prop} {s : Shared} {sl : Addr} {vl vu vs : Value} {n : Nat} {Q : Int × Int × Nat → Shared → Prop} (hs : s.heap.IsSliceOf sl vl vu vs) (pl : IsPart vl none) (pu : IsPart vu none) (ps : IsPart vs (some (-1)))
    (h : Q ((n : Int) - 1, -1, n) s) : wpAny (model prog w) A (Builtin.Slice.sliceApplied (.ref sl) (pure (n : Int))) Q E s := by
  obtain ⟨os, hos, hcs, hds⟩ := id hs
  unfold Builtin.Slice.sliceApplied Builtin.Slice.sliceFields
  refine wpAny_bind (wpAny_bind (wpAny_field hos hds (x := vl) rfl (wpAny_bind (wpAny_field hos hds (x := vu) rfl (wpAny_bind (wpAny_field hos hds (x := vs) rfl (wpAny_pure ?_)))))))
  refine wpAny_bind (HT.slicePart_ ps ?_)
  show wpAny _ _ (if ((-1 : Int) == 0) = true then _ else _) _ _ s
  rw [if_neg (by decide)]
  refine wpAny_bind (HT.slicePart_ pl (wpAny_bind (HT.slicePart_ pu (wpAny_bind (wpAny_pure ?_)))))
  show wpAny _ _ (match Builtin.Slice.sliceAdjust none none (-1) (n : Int) with | (lo, hi) => pure (lo, (-1 : Int), Builtin.Slice.slicePlaces lo hi (-1))) _ _ s
  have e1 : Builtin.Slice.sliceAdjust none none (-1) (n : Int) = ((n : Int) - 1, -1) := rfl
  rw [e1]
  show wpAny _ _ (pure ((n : Int) - 1, (-1 : Int), Builtin.Slice.slicePlaces ((n : Int) - 1) (-1) (-1))) _ _ s
  have e2 : Builtin.Slice.slicePlaces ((n : Int) - 1) (-1) (-1) = n := by
    unfold Builtin.Slice.slicePlaces
    have h1 : ¬ ((-1 : Int) > 0) := by decide
    simp only [h1, if_false]
    split
    · rw [show (- -1 : Int) = 1 by decide, Int.ediv_one]
      omega
    · omega
  rw [e2]
  exact wpAny_pure h
theorem fm_congr {α β : Type} {f g : α → Option β} : ∀ {l : List α}, (∀ x ∈ l, f x = g x) → l.filterMap f = l.filterMap g
  | [], _ => rfl
  | x :: l, h => by
    rw [List.filterMap_cons, List.filterMap_cons, h x List.mem_cons_self, fm_congr fun y hy => h y (List.mem_cons_of_mem _ hy)]
theorem pick_rev (xs : Array Value) : ((List.range xs.size).filterMap fun (m : Nat) => xs[(((xs.size : Int) - 1) + (m : Int) * -1).toNat]?).toArray = xs.toList.reverse.toArray := by
  have e : ((List.range xs.size).filterMap fun (m : Nat) => xs[(((xs.size : Int) - 1) + (m : Int) * -1).toNat]?) = ((List.range xs.size).map fun k => xs.size - 1 - k).filterMap (xs[·]?) := by
    rw [List.filterMap_map]
    refine fm_congr fun m hm => ?_
    have := List.mem_range.mp hm
    show xs[_]? = xs[_]?
    rw [show (((xs.size : Int) - 1) + (m : Int) * -1).toNat = xs.size - 1 - m by omega]
  rw [e, PySem.W.krv_range, List.filterMap_reverse, PySem.W.krv_all]
theorem getItem_tuple_rev {prog : Program} {w : World} {A : Around} {E : Value → Shared → Prop} {s : Shared} {t sl : Addr} {items : Array Value} {vl vu vs : Value} {Q : Value → Shared → Prop} (ht : IsTup s.heap t items) (hs : s.heap.IsSliceOf sl vl vu vs) (pl : IsPart vl none) (pu : IsPart vu none) (ps : IsPart vs (some (-1)))
    (h : Q (.ref s.heap.objs.size) { s with heap := s.heap.push { cls := .type "tuple", data := .seq items.toList.reverse.toArray } })
    (hsz : items.size ≤ sizeLine) : wpAny (model prog w) A (getItem (.ref t) (.ref sl)) Q E s := by
  have htake : sizeOk (.seq items.toList.reverse.toArray) := by
    show items.toList.reverse.toArray.size ≤ sizeLine
    rw [List.size_toArray, List.length_reverse, Array.length_toList]
    exact hsz
  obtain ⟨os, hos, hcs, hds⟩ := id hs
  have hTs : s.TypeIs (.ref sl) "slice" := ⟨os, hos, hcs⟩
  unfold getItem
  try with_reducible refine wpAny_holding ?_
  first | refine wpAny_bind (wpAny_pure ?_) | skip
  refine wpAny_bind (wpAny_sequenceKey ht.typeIs (by decide) ?_)
  refine wpAny_bind (wpAny_callSpecial?_slot (name := Str.ofString "__getitem__") ht.typeIs PyProof.Rows.slot_tuple_getitem
    (wpAny_call_entry PyProof.Rows.slot_tuple_getitem ht.typeIs entry_tuple_getitem ?_ (args_tuple_getitem _ _)))
  show wpAny _ _ (Builtin.Tuple.tupleItemsOf (.ref t) >>= _) _ _ s
  refine wpAny_bind (tupleItemsOf_ ht ?_)
  refine wpAny_bind (wpAny_typeOf hTs ?_)
  rw [if_pos (by decide)]
  refine wpAny_bind (sliceApplied_rev hs pl pu ps ?_)
  have hno : ¬ ((((items.size : Int) - 1) == 0 && (-1 : Int) == 1 && items.size == items.size) = true) := by
    intro q
    rw [Bool.and_eq_true, Bool.and_eq_true] at q
    exact absurd (eq_of_beq q.1.2) (by decide)
  show wpAny _ _ (if (((items.size : Int) - 1) == 0 && (-1 : Int) == 1 && items.size == items.size) = true then _ else _) _ _ s
  rw [if_neg hno, pick_rev]
  first
    | exact wpAny_bind (m := Builtin.Tuple.tupleExact _) (wpAny_newObj_type (wpAny_pure ⟨_, rfl, wpAny_pure h⟩) htake)
    | exact wpAny_bind (m := Builtin.Tuple.tupleExact _) (wpAny_newObj_type (wpAny_bind (wpAny_pure (wpAny_pure ⟨_, rfl, wpAny_pure h⟩))) htake)
    | exact wpAny_bind (wpAny_bind (m := Builtin.Tuple.tupleExact _) (wpAny_newObj_type (wpAny_pure (wpAny_pure ⟨_, rfl, wpAny_pure h⟩)) htake))
    | exact wpAny_bind (wpAny_bind (m := Builtin.Tuple.tupleExact _) (wpAny_newObj_type (wpAny_pure ⟨_, rfl, wpAny_pure h⟩) htake))
def tRevT (K : PySem.W.Frag) (te ts : TE) : TE := fun σ H Q => te σ H fun x H1 => tPart ts σ H1 fun o H2 => ∃ (a : Addr) (xs : List V), x = .ref a ∧ SqT K H2 a xs ∧ o = some (-1) ∧ ∀ p, H2 p = none → Q (.ref p) (upd H2 p (.tup xs.reverse))
theorem pe_revT {X : Cx} {e es : Expr} {te ts : TE} {p3 pos : Pos} (he : PE X e te) (hs : PE X es ts)
    (hsub : ∀ (a l : Addr), subscripted (.Slice none none (some es) p3) false (.ref a) (.ref l) = operate [.ref a, .ref l] (getItem (.ref a) (.ref l)) := by intro _ _; with_unfolding_all rfl) : PE X (.Subscript e (.Slice none none (some es) p3) pos) (tRevT X.K te ts) := by
  refine ⟨fun pins s σ H Q I h => ?_⟩
  refine Subscript_ (thn (he.run pins s σ H _ I h) fun v s1 ⟨x, H1, I1, r1, q1⟩ => ?_)
  refine wpAny_Slice (thn (po_none.run pins s1 σ H1 (fun o H2 => o = none ∧ H2 = H1) I1 ⟨rfl, rfl⟩) fun vl s2 ⟨l, H2, I2, pl, el, e2⟩ => ?_)
  subst el e2
  refine thn (po_none.run pins s2 σ H2 (fun o H3 => o = none ∧ H3 = H2) I2 ⟨rfl, rfl⟩) fun vu s3 ⟨u, H3, I3, pu, eu, e3⟩ => ?_
  subst eu e3
  have hst : PO X (some es) (tPart ts) := po_some hs
  refine thn (hst.run pins s3 σ H3 _ I3 q1) fun vs s4 ⟨o, H4, I4, ps, a, xs, ex, hx, eo, q⟩ => ?_
  subst ex
  cases r1
  subst eo
  have I5 : Inv X pins σ H4 { s4 with heap := s4.heap.push { cls := .type "slice", data := .fields #[vl, vu, vs] } } := I4.kept (t' := s4.toks) fun b ob q => Heap.get?_push_of_some _ q
  obtain ⟨its, r, ht, hz⟩ := I5.tuple hx
  have hlen := r.length
  show wpAny (model X.prog X.w) X.A (subscriptTail e (.Slice none none (some es) p3) (.ref a) (.ref s4.heap.objs.size)) (EP X pins σ Q) X.xe { s4 with heap := s4.heap.push { cls := .type "slice", data := .fields #[vl, vu, vs] } }
  refine tail_any (ops := [.ref a, .ref s4.heap.objs.size]) ht.typeIs (PyProof.Rows.slot_tuple_getitem.lookup) ?_ (hsub _ _)
  refine getItem_tuple_rev ht (Heap.IsSliceOf.new _ vl vu vs) pl pu ps ?_ (by rw [List.size_toArray]; omega)
  refine ⟨.ref _, _, I5.laid (t' := s4.toks) (o := .tup xs.reverse) (fun b ob q => Heap.get?_push_of_some _ q) (Nat.le_refl _) ?_, rfl, q _ (I5.hok.fresh (Nat.le_refl _))⟩
  exact ⟨by rw [List.length_reverse]; exact hz, _, r.reverse, ⟨_, Heap.get?_push_size _ rfl, rfl, _, rfl⟩⟩
/-! ### parts of tuples, and tuples behind one another, whatever is the whole -/
theorem sl_toG {K : PySem.W.Frag} {H : Hp} {Z : VK} {p : Addr} {xs : List V} {j : Nat} (hp : H p = some (.tup xs)) (z : ∀ (t : Addr) (H' : Hp), Ex H H' → H' t = some (.tup (xs.take j)) → Z (.ref t) H') : rSlAny K (.ref p) none (some (j : Int)) H Z := by
  refine .inr (.inl ⟨p, _, rfl, st_of hp, fun hz => ?_, fun hz t ht => ?_⟩)
  · have h1 := hz.2
    rw [HT.sIx_nat] at h1
    refine z p H (Ex.refl _) ?_
    rw [List.take_of_length_le (by omega)]
    exact hp
  · rw [cut_to]
    generalize hq2 : upd H t _ = H2
    obtain ⟨e2, h2⟩ := gen1 hq2 ht
    exact z t _ e2 h2
theorem sl_fromG {K : PySem.W.Frag} {H : Hp} {Z : VK} {p : Addr} {xs : List V} {j : Nat} (hp : H p = some (.tup xs)) (z : ∀ (t : Addr) (H' : Hp), Ex H H' → H' t = some (.tup (xs.drop j)) → Z (.ref t) H') : rSlAny K (.ref p) (some (j : Int)) none H Z := by
  refine .inr (.inl ⟨p, _, rfl, st_of hp, fun hz => ?_, fun hz t ht => ?_⟩)
  · have h1 := hz.1
    rw [HT.sIx_nat] at h1
    refine z p H (Ex.refl _) ?_
    have : j = 0 ∨ xs.length = 0 := by omega
    rcases this with rfl | h
    · exact hp
    · rw [List.drop_of_length_le (by omega)]
      rw [List.length_eq_zero_iff.mp h] at hp
      exact hp
  · rw [cut_from]
    generalize hq2 : upd H t _ = H2
    obtain ⟨e2, h2⟩ := gen1 hq2 ht
    exact z t _ e2 h2
theorem cat_G {K : PySem.W.Frag} {H : Hp} {Z : VK} {a b : Addr} {xs ys : List V} (ha : H a = some (.tup xs)) (hb : H b = some (.tup ys)) (hl : xs.length + ys.length ≤ 1000) (z : ∀ (t : Addr) (H' : Hp), Ex H H' → H' t = some (.tup (xs ++ ys)) → Z (.ref t) H') : rAdd K (.ref a) (.ref b) H Z := by
  refine .inr (.inr (.inr ⟨a, b, xs, ys, rfl, rfl, st_of ha, st_of hb, Nat.le_trans hl (by show 1000 ≤ sizeLine; decide), fun e => ?_, fun _ e => ?_, fun _ _ t ht => ?_⟩))
  · refine z b H (Ex.refl _) ?_
    rw [e, List.nil_append]
    exact hb
  · refine z a H (Ex.refl _) ?_
    rw [e, List.append_nil]
    exact ha
  · generalize hq2 : upd H t _ = H2
    obtain ⟨e2, h2⟩ := gen1 hq2 ht
    exact z t _ e2 h2
def rMulT (K : PySem.W.Frag) : R2 := fun x y H Z => rMul x y H Z ∨ rRepT K x y H Z
theorem opMulT {X : Cx} : OpR X (binaryOp .Mult) (rMulT X.K) := OpR.or opMul op_repT
theorem flat_one {α : Type} (x : α) : ∀ n : Nat, (List.replicate n [x]).flatten = List.replicate n x
  | 0 => rfl
  | n + 1 => by
    rw [List.replicate_succ, List.flatten_cons, flat_one x n]
    rfl
theorem DaAll.rep {H : Hp} {v : V} {d : PyData} (h : Da H v d) : ∀ n : Nat, DaAll H (List.replicate n v) (List.replicate n d)
  | 0 => .nil
  | n + 1 => .cons h (DaAll.rep h n)
end Own

namespace Own
open PySem PySem.Spec PyProof.Rows L2 Evl
/-- a statement that is never reached -/
theorem ps_dead {X : Cx} {st : Stmt} : PS X st (fun _ _ _ => False) := ⟨fun _ _ _ _ _ _ z => z.elim⟩
/-- a class whose instances are made by an __init__ with sp -/
structure MakG (P : Program) (w : World) (K : PySem.W.Frag) (mg : Str → Option Value) (base : Heap) (k : Nat) (x : Str) (C : Addr) (sp : Sp) : Prop where
  at_ : mg x = some (.ref C)
  ex : ∃ (f : Addr) (fd : FuncData) (ps : List Str), FnG P w K mg base k f fd ps sp ∧ Mk K C f ∧ Binds K fd ps []
/-- a method with sp -/
structure MetG (P : Program) (w : World) (K : PySem.W.Frag) (mg : Str → Option Value) (base : Heap) (k : Nat) (C : Addr) (m : Str) (sp : Sp) : Prop where
  cl : Cls K C
  ex : ∃ (f : Addr) (fd : FuncData) (ps : List Str), FnG P w K mg base k f fd ps sp ∧ Meth K C m f ∧ Binds K fd ps []
section
variable {X : Cx} {pk : List (Addr × Obj)} {τ : L2.St} {H : Hp} {s : Shared} {k j : Nat} {sp : Sp} {f C : Addr} {fd : FuncData} {ps : List Str} {Z : VK} {us : List Value} {vs : List V} {x m : Str} {p pos apos : Pos} {e o : Expr} {es : List Expr} {t : TA} {ta : TE}
theorem run_mkG (M : Mk X.K C f) (F : FnG X.prog X.w X.K X.mg X.base k f fd ps sp) (hr : Room (k + 1) X.A) (hg : X.A.guards = some []) (hbd : Binds X.K fd ps []) (I : Inv X pk τ H s) (r : Vals vs us)
    (h : ∀ y d, H y = none → H d = none → d ≠ y → sp (.ref y :: vs) (upd (upd H d (.own y)) y (.ins C d [])) (fun v H2 => v = .non ∧ Z (.ref y) H2) E0) : wpAny (model X.prog X.w) X.A (call (.ref C) us) (EP X pk τ Z) X.xe s := by
  have q0 := h (s.heap.objs.size + 1) s.heap.objs.size (I.hok.fresh (Nat.le_succ _)) (I.hok.fresh (Nat.le_refl _)) (Nat.ne_of_lt (Nat.lt_succ_self _))
  have J := Inv.made (C := C) I
  obtain ⟨n, hn⟩ : ∃ n : Addr, s.heap.objs.size + 1 = n := ⟨_, rfl⟩
  have rr : Vals (V.ref (s.heap.objs.size + 1) :: vs) (Value.ref (s.heap.objs.size + 1) :: us) := .cons rfl r
  have hl : ((Value.ref (s.heap.objs.size + 1) :: us) ++ []).length = ps.length := by
    rw [List.append_nil, ← rr.length]
    exact F.len _ _ _ _ q0
  have hb := hbd _ (Value.ref (s.heap.objs.size + 1) :: us) J.kIn hl
  rw [List.append_nil] at hb
  have run := F.run (X.A.under (.builtin "type.__call__" ⟨.ref C :: us, []⟩)) X.stack _ _ ⟨Value.ref (s.heap.objs.size + 1) :: us, []⟩ _ _ _ E0 (hr.make C us []) hg (J.env0.make C us []) hb rr q0
  refine wpAny_call (make_map (f := f) I.kIn M.makes M.init (beq_iff_eq.mp M.fn) (codeAny_mono run fun res s' hsq => ?_))
  match res, hsq with
  | .error _, hsq => exact (show False from hsq).elim
  | .ok (.ret u), hsq =>
    obtain ⟨v, H4, J4, rv, ev, q4⟩ := J.after hsq
    subst ev
    exact ⟨rv, ⟨V.ref (s.heap.objs.size + 1), H4, J4, rfl, q4⟩⟩
  | .ok .next, hsq => exact False.elim hsq
  | .ok .brk, hsq => exact False.elim hsq
  | .ok .cont, hsq => exact False.elim hsq
theorem pe_mkG (c : MakG X.prog X.w X.K X.mg X.base k x C sp) (hr : Room j X.A) (hg0 : X.A.guards = some []) (hkp : k + 1 ≤ j) (hg : Gl X x) (ha : PA X (e :: es) t)
    (hdb : (x == ("__debug__" : Str)) = false := by decide) (hes : starEach (e :: es) X.env = (false, eval e X.env) :: starEach es X.env := by rfl) (hpl : (backTo pos (starEach es X.env)).any (·.1) = false := by rfl) :
    PE X (.Call (.Name x p) (e :: es) [] pos) (tMake C sp [] E0 t) := by
  obtain ⟨f, fd, ps, F, M, b⟩ := c.ex
  refine ⟨fun pk s τ H Z I h => ?_⟩
  refine wpAny_Call_Name_kw (ld_glob I hg c.at_ ?_ hdb)
  refine PySem.W.callWith_K (h₀ := X.base) I.ok.mod.kin M.kp (thn (ha.run pos pk s τ H _ I h) fun us st1 ⟨vs, H1, I1, r, q⟩ => ⟨I1.kIn, ?_⟩) hes hpl
  refine run_mkG M F (hr.mono hkp) hg0 b I1 r fun y d h1 h2 h3 => ?_
  have q := q y d h1 h2 h3
  rw [List.append_nil] at q
  exact q
theorem pe_mtG0 {pl : Sem Bool} (c : MetG X.prog X.w X.K X.mg X.base k C m sp) (he : PE X o ta) (hr : Room j X.A) (hg0 : X.A.guards = some []) (hkp : k ≤ j)
    (hte : eval (.Call (.Attribute o m apos) [] [] pos) X.env = (do
      let ov ← eval o X.env
      standAt apos.atName
      let (g, first) ← holding [ov] (getMethod ov m pl)
      callWith pos g first (backTo pos (starEach [] X.env)) (backToKw pos (keywordEach [] X.env))) := by rfl) :
    PE X (.Call (.Attribute o m apos) [] [] pos) (tMeth C m sp [] E0 ta tNil) := by
  obtain ⟨f, fd, ps, F, M, b⟩ := c.ex
  refine ⟨fun pk s τ H Z I h => PySem.W.methodCall_KW (pl := pl) (thn (he.run pk s τ H _ I h) fun u st1 ⟨y, H1, I1, ry, a, d, fs, ey, ea, l, q⟩ => ?_) hte⟩
  subst ey
  have eu : u = Value.ref a := ry
  subst eu
  refine getmeth_ok I1 ea c.cl M l (PySem.W.callWith_K0 (first := [.ref a]) I1.kIn M.kp ?_)
  exact run_fnG (us := [.ref a]) (vs := [.ref a]) F (hr.mono hkp) hg0 b I1 (.cons rfl .nil) q
theorem pe_mtG {pl : Sem Bool} (c : MetG X.prog X.w X.K X.mg X.base k C m sp) (he : PE X o ta) (hr : Room j X.A) (hg0 : X.A.guards = some []) (hkp : k ≤ j) (ha : PA X (e :: es) t)
    (hes : starEach (e :: es) X.env = (false, eval e X.env) :: starEach es X.env := by rfl) (hpl : (backTo pos (starEach es X.env)).any (·.1) = false := by rfl)
    (hte : eval (.Call (.Attribute o m apos) (e :: es) [] pos) X.env = (do
      let ov ← eval o X.env
      standAt apos.atName
      let (g, first) ← holding [ov] (getMethod ov m pl)
      callWith pos g first (backTo pos (starEach (e :: es) X.env)) (backToKw pos (keywordEach [] X.env))) := by rfl) :
    PE X (.Call (.Attribute o m apos) (e :: es) [] pos) (tMeth C m sp [] E0 ta t) := by
  obtain ⟨f, fd, ps, F, M, b⟩ := c.ex
  refine ⟨fun pk s τ H Z I h => PySem.W.methodCall_KW (pl := pl) (thn (he.run pk s τ H _ I h) fun u st1 ⟨y, H1, I1, ry, a, d, fs, ey, ea, l, q⟩ => ?_) hte⟩
  subst ey
  have eu : u = Value.ref a := ry
  subst eu
  refine getmeth_ok I1 ea c.cl M l ?_
  refine PySem.W.callWith_K (first := [.ref a]) (h₀ := X.base) I1.ok.mod.kin M.kp (thn (ha.run pos pk st1 τ H1 _ I1 q) fun us st2 ⟨vs, H2, I2, r, q2⟩ => ⟨I2.kIn, ?_⟩) hes hpl
  have q2 : sp (.ref a :: (vs ++ [])) H2 Z E0 := q2
  rw [List.append_nil] at q2
  exact run_fnG (us := .ref a :: us) (vs := .ref a :: vs) F (hr.mono hkp) hg0 b I2 (.cons rfl r) q2
end
end Own

namespace Own
open PySem PySem.Spec PyProof.Rows L2 Evl
/-! ### methods: the name and the long name -/
section
variable {P : Program} {w : World} {K : PySem.W.Frag} {mg : Str → Option Value} {base : Heap}
theorem fn_mkQ {x q : Str} {f : Addr} {fd : FuncData} {st : Stmt} {N ps : List Str} {k : Nat} {sp : Sp} (F : Fun K x q st f fd) (S : FnScope N ps (defScope st))
    (len : ∀ vs H Z EE, sp vs H Z EE → vs.length = ps.length)
    (hbody : ∀ (cdv : Value) (A : Around) (outer : List Env) (s : Shared) (H : Hp) (vs : List V) (Z : VK) (EE : XK), Room k (A.deeper (envOfC q (defScope st) s.heap.objs.size f cdv)) → (A.deeper (envOfC q (defScope st) s.heap.objs.size f cdv)).guards = some [] → sp vs H Z EE →
      ∃ t, PSs (cxOf CX0 P w K mg base N q (defScope st) f cdv A outer s H EE).nox (defBody st) t ∧ t { nx := fun _ H' => Z .non H', rt := Z } (start N vs) H) : FnG P w K mg base (k + 1) f fd ps sp := by
  obtain ⟨oc, od, kV, doc, pm, an, cdv, ct, sl, rfl, lkp, hcd⟩ := F.ex
  refine ⟨len, fun A outer s H args us vs Z EE hr hg e0 hbt r hsp => ?_⟩
  have body : ∀ (A : Around) (outer : List Env) (s : Shared) (H : Hp) (vs : List V) (Z : VK) (EE : XK), Room k (A.deeper (envOfC q (defScope st) s.heap.objs.size f cdv)) → A.guards = some [] → sp vs H Z EE →
      ∃ t, PSs (cxOf CX0 P w K mg base N q (defScope st) f cdv A outer s H EE) (defBody st) t ∧ t { nx := fun _ H' => Z .non H', rt := Z } (start N vs) H := fun A outer s H vs Z EE hr hg hsp => by
    obtain ⟨t, h, qq⟩ := hbody cdv A outer s H vs Z EE hr hg hsp
    exact ⟨t, h.nox, qq⟩
  have hlen := len _ _ _ _ hsp
  have KI : K.In s.heap := e0.mod.kin.keeps fun b o e => (e0.bs b o e).1
  have nlm : s.heap.NoLimit := e0.mod.nolimit.keeps fun b o e => (e0.bs b o e).1
  have hkind : ∀ y ∈ ps.zip us, (defScope st).names.lookup y.1 = some .local ∨ ((defScope st).names.lookup y.1 = some .cell ∧ ((cellsFrom (s.heap.objs.size + 1) (defScope st).names []).lookup y.1).isSome = true) := fun ⟨n, v⟩ hyy => by
    rcases S.par n (List.of_mem_zip hyy).1 with qq | qq
    · exact .inl qq
    · exact .inr ⟨qq, PySem.W.cellsFrom_some _ _ _ (.inl qq)⟩
  refine codeAny_call_function hr.depth (KI _ _ lkp) rfl S.co S.gen rfl (PySem.W.codeRec_of KI hcd) (hbt _ _ _ _ ?_)
  refine wpAny_newFunctionEnv_cells S.kind hkind fun env hes st1 xx => ?_
  subst hes
  refine ⟨nlm.keeps xx.toInCall.keep, codeAny_func ?_⟩
  obtain ⟨t, ht, hsq⟩ := body A outer s H vs Z EE (hr.deeper _) hg hsp
  have I : Inv (cxOf CX0 P w K mg base N q (defScope st) f cdv A outer s H EE) [] (start N vs) H st1 := inv_start S hr.hd e0 hlen r xx
  refine wpAny_mono (ht.run [] st1 (start N vs) H _ I hsq) (fun fl s' hst => ?_) fun e s' hst => hst
  have ready : ∀ {τ' : L2.St} {H' : Hp} {v : V} {u : Value}, Inv (cxOf CX0 P w K mg base N q (defScope st) f cdv A outer s H EE) [] τ' H' s' → RelV v u → Z v H' → CE outer P w H s Z u s' :=
    fun {τ' H' v u} J rv qq => ⟨v, H', J.os, J.bare, J.base, J.hok, rv, qq⟩
  cases fl with
  | ret u =>
    obtain ⟨v, τ', H', J, rv, qq⟩ := hst
    exact ready J rv qq
  | next =>
    obtain ⟨τ', H', J, qq⟩ := hst
    exact ready (v := V.non) (u := Value.none) J rfl qq
  | brk =>
    obtain ⟨_, _, _, qq⟩ := hst
    exact False.elim qq
  | cont =>
    obtain ⟨_, _, _, qq⟩ := hst
    exact False.elim qq
end
/-- the type of a value beside an own object -/
inductive TyE (H : Hp) : V → Value → Prop where
  | non : TyE H .non (.type "NoneType")
  | int (i : Int) : TyE H (.int i) (.type "int")
  | lst {a : Addr} {xs : List V} (e : H a = some (.lst xs)) : TyE H (.ref a) (.type "list")
  | tup {a : Addr} {xs : List V} (e : H a = some (.tup xs)) : TyE H (.ref a) (.type "tuple")
  | ins {a C d : Addr} {fs : List (Str × V)} (e : H a = some (.ins C d fs)) : TyE H (.ref a) (.ref C)
section
variable {X : Cx} {pk : List (Addr × Obj)} {τ : L2.St} {H : Hp} {s : Shared} {M : Model} {v : V} {u tb : Value} {k j : Nat} {C : Addr} {sp : Sp}
theorem TyE.looks (I : Inv X pk τ H s) (r : RelV v u) (t : TyE H v tb) : PySem.W.Looks M s.heap (typeOf u) tb := by
  cases t with
  | non => cases (show u = Value.none from r); exact .now
  | int i => obtain ⟨t, q⟩ := (show ∃ t, u = Value.int i t from r); cases q; exact .now
  | @lst a xs ea =>
    cases (show u = Value.ref a from r)
    obtain ⟨_, _, n, _, h1⟩ := (show ObjOk X.prog X.w H s.heap a (.lst xs) from I.hok a _ ea)
    exact (PySem.W.Looks.ld h1).andThen .now
  | @tup a xs ea =>
    cases (show u = Value.ref a from r)
    obtain ⟨_, _, _, p⟩ := (show ObjOk X.prog X.w H s.heap a (.tup xs) from I.hok a _ ea)
    obtain ⟨o, h1, h2, _⟩ := p
    exact h2 ▸ (PySem.W.Looks.ld h1).andThen .now
  | @ins a C d fs ea =>
    cases (show u = Value.ref a from r)
    obtain ⟨mA, J, _⟩ := ins_get I.hok ea
    obtain ⟨od, J, _⟩ := J.look
    exact J.type
def rOwn (K : PySem.W.Frag) (C : Addr) (sp : Sp) : R2 := fun x y H Q => ∃ (a d : Addr) (fs : List (Str × V)) (tb : Value), x = .ref a ∧ H a = some (.ins C d fs) ∧ TyE H y tb ∧ PySem.W.notFirst K C tb = true ∧ sp [x, y] H (fun v H' => (∃ b, v = .bl b) ∧ Q v H') E0
theorem op_own (c : MetG X.prog X.w X.K X.mg X.base k C "__eq__" sp) (hr : Room j X.A) (hg0 : X.A.guards = some []) (hkp : k ≤ j) : OpR X (compareOp .Eq) (rOwn X.K C sp) := by
  intro pins s σ H x y u v Q I rx ry hq
  obtain ⟨f, fd, ps, F, M, b⟩ := c.ex
  obtain ⟨a, d, fs, tb, rfl, ha, ht, hn, q⟩ := hq
  cases rx
  show wpAny (model X.prog X.w) X.A (richCompare .Eq (.ref a) v) (EP X pins σ Q) X.xe s
  obtain ⟨mA, J, _⟩ := ins_get I.hok ha
  obtain ⟨od, J, _⟩ := J.look
  obtain ⟨m, hF⟩ := I.fr
  refine PySem.W.cmp_K (op := .Eq) (tb := tb) hr.units0 hF I.ok.mod.kin J (ht.looks I ry) hn M.at_ M.fn ?_
  refine wpAny_mono (run_fnG (us := [.ref a, v]) (vs := [.ref a, y]) F (hr.mono hkp) hg0 b I (.cons rfl (.cons ry .nil)) q) (fun w s' z => ?_) (fun _ _ e => e)
  obtain ⟨z, H', I', rz, ⟨bb, eb⟩, q'⟩ := z
  subst eb
  cases rz
  exact ⟨.bl bb, H', I', rfl, q'⟩
end
section
variable {prog : Program} {w : World} {A : Around} {E : Value → Shared → Prop} {s : Shared} {K : PySem.W.Frag} {x C L f : Addr} {h₀ : Heap} {m : Str → Option Value} {ox : Obj} {od : Option Obj} {b tb : Value}
theorem ifBound_B {M : Model} {name : Str} {id : String} {args : List Value} {Q : Option Value → Shared → Prop} (X : K.In s.heap) (I : PySem.W.InstAt s.heap x ox C od) (hs : PySem.W.findIn K (.ref C) name = some (some (.builtin id)))
    (hbd : ∀ self, bindSpecial (.builtin id) self = pure (.builtin id, [self]))
    (h : wpAny M A (call (.builtin id) (.ref x :: args)) (fun v => Q (some v)) E s) : wpAny M A (callSpecialIfBound? (.ref x) name args) Q E s := by
  simp only [callSpecialIfBound?, bindSpecialIfBound?]
  refine wpAny_holding (wpAny_bind (wpAny_bind (wpAny_bind (I.type.here ((PySem.W.looks_findIn X hs).here ?_)))))
  simp only [hbd]
  refine wpAny_bind (wpAny_askSetting (wpAny_ite ?_))
  have fin : wpAny M A (call (.builtin id) ([.ref x] ++ args) >>= fun v => pure (some v)) Q E s := wpAny_bind (wpAny_mono h (fun v s' h' => wpAny_pure h') fun _ _ h' => h')
  split
  · exact wpAny_bind (wpAny_pure (wpAny_pure fin))
  · exact wpAny_tryCatch (wpAny_bind (wpAny_pure (wpAny_pure fin)))
theorem ne_entry {Q : Fin → Shared → Prop} (X : K.In s.heap) (I : PySem.W.InstAt s.heap x ox C od) (hs : PySem.W.findIn K (.ref C) "__eq__" = some (some (.ref f))) (hf : PySem.W.isFn K (.ref f) = true) (hu : A.units < cLine)
    (hcall : wpAny (model prog w) A (call (.ref f) [.ref x, b]) (fun v s' => ∃ r, v = .bool r ∧ Q (.done (.ret (.bool (!r)))) s') E s) :
    wpAny (model prog w) A (Builtin.«object.__ne__» ⟨[.ref x, b], []⟩) Q E s := by
  obtain ⟨h, g, d, t, os⟩ := s
  unfold Builtin.«object.__ne__»
  repeat (first
    | with_reducible refine wpAny_cRoomFor hu ?_
    | (refine wpAny_bind (m := callSpecialIfBound? (.ref x) (Str.ofString "__eq__") [b])
        (PySem.W.ifBound_K X I hs hf (wpAny_mono hcall (fun r s' hr => by
          obtain ⟨b, rfl, hq⟩ := hr
          repeat (first | exact hq | exact wpAny_pure hq | exact wpAny_truthy_bool hq | (refine wpAny_bind (m := truthy (.bool _)) (wpAny_truthy_bool ?_)) | wp_step)) fun _ _ e => e)))
    | wp_step)
theorem ne_K {Q : Value → Shared → Prop} (hu : A.units + 1 < cLine) (F : Fr h₀ L s.heap m) (X₀ : K.In h₀) (I : PySem.W.InstAt s.heap x ox C od) (hb : PySem.W.Looks (model prog w) s.heap (typeOf b) tb) (hn : PySem.W.notFirst K C tb = true)
    (hne : PySem.W.findIn K (.ref C) "__ne__" = some (some (.builtin "object.__ne__"))) (hob : PySem.W.subIn K (.ref C) (.type "object") = some true)
    (hs : PySem.W.findIn K (.ref C) "__eq__" = some (some (.ref f))) (hf : PySem.W.isFn K (.ref f) = true)
    (h : wpAny (model prog w) A.in1 (call (.ref f) [.ref x, b]) (fun v s' => ∃ r, v = .bool r ∧ Q (.bool (!r)) s') E s) : wpAny (model prog w) A (richCompare .NotEq (.ref x) b) Q E s := by
  have X := X₀.keeps F.keep
  have one : wpAny (model prog w) A (tryCompare (.ref x) (cmpInfo .NotEq).2.1 b) (fun r s' => ∃ v, r = some v ∧ Q v s') E s := by
    unfold tryCompare
    refine wpAny_bind (ifBound_B X I (name := (cmpInfo .NotEq).2.1) hne (fun self => PySem.F.cmp_object.ne.bind self) (wpAny_call (codeAny_call_builtin PySem.F.cmp_object.ne.plain PySem.F.cmpEntry_ne
      (PySem.W.check_slot PySem.F.cmpKind_ne PySem.F.cmpSplit_ne (I.type.andThen (PySem.W.looks_subIn X hob)) (PySem.F.cmpArgs_ne _ _) (ne_entry (A := A.in1) X I hs hf (Nat.lt_of_succ_le hu) (wpAny_mono h (fun v s' hv => ?_) fun _ _ e => e))))))
    obtain ⟨r, rfl, q⟩ := hv
    first | exact ⟨r, rfl, ⟨_, rfl, q⟩⟩ | exact ⟨r, rfl, wpAny_pure ⟨_, rfl, q⟩⟩ | exact ⟨r, rfl, wpAny_pure (wpAny_pure ⟨_, rfl, q⟩)⟩
  unfold richCompare
  simp only [oneThing_ref]
  refine wpAny_holding (wpAny_bind (wpAny_cRoomFor (Nat.lt_of_succ_lt hu) ?_))
  refine wpAny_bind (I.type.here (wpAny_bind (hb.here ?_)))
  split
  · rename_i q
    have e : PySem.W.subIn K tb (.ref C) = some false := by
      rcases Bool.or_eq_true_iff.mp hn with e | e
      · rw [beq_iff_eq.mp e] at q; simp at q
      · exact beq_iff_eq.mp e
    refine wpAny_bind ((PySem.W.looks_subIn X e).here ?_)
    simp only [Bool.false_eq_true, if_false]
    refine wpAny_bind (wpAny_mono one (fun r s' z => ?_) fun _ _ e => e)
    obtain ⟨v, rfl, hq⟩ := z
    exact wpAny_pure hq
  · refine wpAny_bind (wpAny_pure ?_)
    simp only [Bool.false_eq_true, if_false]
    refine wpAny_bind (wpAny_mono one (fun r s' z => ?_) fun _ _ e => e)
    obtain ⟨v, rfl, hq⟩ := z
    exact wpAny_pure hq
end
/-- what of the text != by an own == wants -/
structure NeOwn (K : PySem.W.Frag) (C : Addr) : Prop where
  ne : PySem.W.findIn K (.ref C) "__ne__" = some (some (.builtin "object.__ne__"))
  ob : PySem.W.subIn K (.ref C) (.type "object") = some true
section
variable {X : Cx} {k j : Nat} {C : Addr} {sp : Sp}
def rOwnN (K : PySem.W.Frag) (C : Addr) (sp : Sp) : R2 := fun x y H Q => ∃ (a d : Addr) (fs : List (Str × V)) (tb : Value), x = .ref a ∧ H a = some (.ins C d fs) ∧ TyE H y tb ∧ PySem.W.notFirst K C tb = true ∧ sp [x, y] H (fun v H' => ∃ b, v = .bl b ∧ Q (.bl (!b)) H') E0
theorem op_ownN (c : MetG X.prog X.w X.K X.mg X.base k C "__eq__" sp) (N : NeOwn X.K C) (hr : Room j X.A) (hg0 : X.A.guards = some []) (hkp : k + 1 ≤ j) : OpR X (compareOp .NotEq) (rOwnN X.K C sp) := by
  intro pins s σ H x y u v Q I rx ry hq
  obtain ⟨f, fd, ps, F, M, b⟩ := c.ex
  obtain ⟨a, d, fs, tb, rfl, ha, ht, hn, q⟩ := hq
  cases rx
  show wpAny (model X.prog X.w) X.A (richCompare .NotEq (.ref a) v) (EP X pins σ Q) X.xe s
  obtain ⟨mA, J, _⟩ := ins_get I.hok ha
  obtain ⟨od, J, _⟩ := J.look
  obtain ⟨m, hF⟩ := I.fr
  have r1 : Room (k + 1) X.A := hr.mono hkp
  refine ne_K (tb := tb) (by have z := r1.un; omega) hF I.ok.mod.kin J (ht.looks I ry) hn N.ne N.ob M.at_ M.fn ?_
  have hq' : sp [.ref a, y] H (fun v H' => ∃ b, v = .bl b ∧ Q (.bl (!b)) H') E0 := q
  have hlen : [Value.ref a, v].length = ps.length := F.len _ _ _ _ hq'
  refine wpAny_call (codeAny_mono (F.run X.A.in1 X.stack s H ⟨[.ref a, v], []⟩ [.ref a, v] [.ref a, y] _ E0 r1.in1 hg0 I.env0.in1 (by have q := b s [.ref a, v] I.kIn hlen; exact q) (.cons rfl (.cons ry .nil)) hq') fun r s' hsq => ?_)
  cases r with
  | error e => exact (show False from hsq).elim
  | ok fl =>
    cases fl with
    | ret u =>
      obtain ⟨z, H', I', rz, bb, eb, q'⟩ := I.after hsq
      subst eb
      cases rz
      exact ⟨bb, rfl, .bl (!bb), H', I', rfl, q'⟩
    | next => exact False.elim hsq
    | brk => exact False.elim hsq
    | cont => exact False.elim hsq
end
end Own

namespace Own
open PySem PySem.Spec PyProof.Rows L2 Evl
/-! ### defs that may raise, called where no container is being shown -/
structure FnX (P : Program) (w : World) (K : PySem.W.Frag) (mg : Str → Option Value) (base : Heap) (k : Nat) (f : Addr) (fd : FuncData) (ps : List Str) (sp : Sp) : Prop where
  len : ∀ vs H Z EE, sp vs H Z EE → vs.length = ps.length
  run : ∀ (A : Around) (outer : List Env) (s : Shared) (H : Hp) (args : Args) (us : List Value) (vs : List V) (Z : VK) (EE : XK), Room k A → A.guards = some [] → Env0 P w K mg base A outer s H → BindsTo s fd args (ps.zip us) → Vals vs us → sp vs H Z EE →
    codeAny (model P w) A (.call (.ref f) args) (CR (L2.CX P w) outer P w H s Z EE) s
section
variable {P : Program} {w : World} {K : PySem.W.Frag} {mg : Str → Option Value} {base : Heap}
theorem fn_mkX {x q : Str} {f : Addr} {fd : FuncData} {st : Stmt} {N ps : List Str} {k : Nat} {sp : Sp} (F : Fun K x q st f fd) (S : FnScope N ps (defScope st))
    (len : ∀ vs H Z EE, sp vs H Z EE → vs.length = ps.length)
    (hbody : ∀ (cdv : Value) (A : Around) (outer : List Env) (s : Shared) (H : Hp) (vs : List V) (Z : VK) (EE : XK), Room k (A.deeper (envOfC q (defScope st) s.heap.objs.size f cdv)) → (A.deeper (envOfC q (defScope st) s.heap.objs.size f cdv)).guards = some [] → sp vs H Z EE →
      ∃ t, PSs (cxOf (L2.CX P w) P w K mg base N q (defScope st) f cdv A outer s H EE) (defBody st) t ∧ t { nx := fun _ H' => Z .non H', rt := Z } (start N vs) H) : FnX P w K mg base (k + 1) f fd ps sp := by
  obtain ⟨oc, od, kV, doc, pm, an, cdv, ct, sl, rfl, lkp, hcd⟩ := F.ex
  refine ⟨len, fun A outer s H args us vs Z EE hr hg e0 hbt r hsp => ?_⟩
  have body : ∀ (A : Around) (outer : List Env) (s : Shared) (H : Hp) (vs : List V) (Z : VK) (EE : XK), Room k (A.deeper (envOfC q (defScope st) s.heap.objs.size f cdv)) → A.guards = some [] → sp vs H Z EE →
      ∃ t, PSs (cxOf (L2.CX P w) P w K mg base N q (defScope st) f cdv A outer s H EE) (defBody st) t ∧ t { nx := fun _ H' => Z .non H', rt := Z } (start N vs) H := fun A outer s H vs Z EE hr hg hsp => by
    obtain ⟨t, h, qq⟩ := hbody cdv A outer s H vs Z EE hr hg hsp
    exact ⟨t, h, qq⟩
  have hlen := len _ _ _ _ hsp
  have KI : K.In s.heap := e0.mod.kin.keeps fun b o e => (e0.bs b o e).1
  have nlm : s.heap.NoLimit := e0.mod.nolimit.keeps fun b o e => (e0.bs b o e).1
  have hkind : ∀ y ∈ ps.zip us, (defScope st).names.lookup y.1 = some .local ∨ ((defScope st).names.lookup y.1 = some .cell ∧ ((cellsFrom (s.heap.objs.size + 1) (defScope st).names []).lookup y.1).isSome = true) := fun ⟨n, v⟩ hyy => by
    rcases S.par n (List.of_mem_zip hyy).1 with qq | qq
    · exact .inl qq
    · exact .inr ⟨qq, PySem.W.cellsFrom_some _ _ _ (.inl qq)⟩
  refine codeAny_call_function hr.depth (KI _ _ lkp) rfl S.co S.gen rfl (PySem.W.codeRec_of KI hcd) (hbt _ _ _ _ ?_)
  refine wpAny_newFunctionEnv_cells S.kind hkind fun env hes st1 xx => ?_
  subst hes
  refine ⟨nlm.keeps xx.toInCall.keep, codeAny_func ?_⟩
  obtain ⟨t, ht, hsq⟩ := body A outer s H vs Z EE (hr.deeper _) hg hsp
  have I : Inv (cxOf (L2.CX P w) P w K mg base N q (defScope st) f cdv A outer s H EE) [] (start N vs) H st1 := inv_start S hr.hd e0 hlen r xx
  refine wpAny_mono (ht.run [] st1 (start N vs) H _ I hsq) (fun fl s' hst => ?_) fun e s' hst => hst
  have ready : ∀ {τ' : L2.St} {H' : Hp} {v : V} {u : Value}, Inv (cxOf (L2.CX P w) P w K mg base N q (defScope st) f cdv A outer s H EE) [] τ' H' s' → RelV v u → Z v H' → CE outer P w H s Z u s' :=
    fun {τ' H' v u} J rv qq => ⟨v, H', J.os, J.bare, J.base, J.hok, rv, qq⟩
  cases fl with
  | ret u =>
    obtain ⟨v, τ', H', J, rv, qq⟩ := hst
    exact ready J rv qq
  | next =>
    obtain ⟨τ', H', J, qq⟩ := hst
    exact ready (v := V.non) (u := Value.none) J rfl qq
  | brk =>
    obtain ⟨_, _, _, qq⟩ := hst
    exact False.elim qq
  | cont =>
    obtain ⟨_, _, _, qq⟩ := hst
    exact False.elim qq
end
/-- a class whose instances are made by an __init__ with sp that may raise -/
structure MakX (P : Program) (w : World) (K : PySem.W.Frag) (mg : Str → Option Value) (base : Heap) (k : Nat) (x : Str) (C : Addr) (sp : Sp) : Prop where
  at_ : mg x = some (.ref C)
  ex : ∃ (f : Addr) (fd : FuncData) (ps : List Str), FnX P w K mg base k f fd ps sp ∧ Mk K C f ∧ Binds K fd ps []
/-- a method with sp that may raise -/
structure MetX (P : Program) (w : World) (K : PySem.W.Frag) (mg : Str → Option Value) (base : Heap) (k : Nat) (C : Addr) (m : Str) (sp : Sp) : Prop where
  cl : Cls K C
  ex : ∃ (f : Addr) (fd : FuncData) (ps : List Str), FnX P w K mg base k f fd ps sp ∧ Meth K C m f ∧ Binds K fd ps []
/-- a def with sp that may raise -/
structure CalX (P : Program) (w : World) (K : PySem.W.Frag) (mg : Str → Option Value) (base : Heap) (k : Nat) (x : Str) (sp : Sp) : Prop where
  ex : ∃ (f : Addr) (fd : FuncData) (ps : List Str), FnX P w K mg base k f fd ps sp ∧ mg x = some (.ref f) ∧ PySem.W.keepIn K (.ref f) = true ∧ Binds K fd ps []
def tMakeX (C : Addr) (sp : Sp) (E : L2.St → XK) (t : TA) : TE := fun σ H Q => t σ H fun vs H1 => ∀ x dx, H1 x = none → H1 dx = none → dx ≠ x → sp (.ref x :: vs) (upd (upd H1 dx (.own x)) x (.ins C dx [])) (fun v H2 => v = .non ∧ Q (.ref x) H2) (E σ)
def tMethX (C : Addr) (m : Str) (sp : Sp) (E : L2.St → XK) (ta : TE) (t : TA) : TE := fun σ H Q => ta σ H fun x H1 => ∃ a d fs, x = .ref a ∧ H1 a = some (.ins C d fs) ∧ fs.lookup m = none ∧ t σ H1 fun vs H2 => sp (.ref a :: vs) H2 Q (E σ)
section
variable {X : Cx} {pk : List (Addr × Obj)} {τ : L2.St} {H : Hp} {s : Shared} {k j : Nat} {sp : Sp} {f C : Addr} {fd : FuncData} {ps : List Str} {Z : VK} {us : List Value} {vs : List V} {x m : Str} {p pos apos : Pos} {e o : Expr} {es : List Expr} {t : TA} {ta : TE} {E : L2.St → XK}
theorem run_fnX (F : FnX X.prog X.w X.K X.mg X.base k f fd ps sp) (hr : Room k X.A) (hg : X.A.guards = some []) (hbd : Binds X.K fd ps []) (hx : PassesAt (L2.CX X.prog X.w) X τ (E τ))
    (I : Inv X pk τ H s) (r : Vals vs us) (h : sp vs H Z (E τ)) : wpAny (model X.prog X.w) X.A (call (.ref f) us) (EP X pk τ Z) X.xe s := by
  have hlen : us.length = ps.length := by rw [← r.length]; exact F.len _ _ _ _ h
  refine wpAny_call (codeAny_mono (F.run X.A X.stack s H ⟨us, []⟩ us vs Z (E τ) hr hg I.env0 (by have q := hbd s us I.kIn (by rw [List.append_nil]; exact hlen); rw [List.append_nil] at q; exact q) r h) fun r s' hsq => ?_)
  cases r with
  | error e => exact hx pk H s e s' I hsq
  | ok fl =>
    cases fl with
    | ret u => exact I.after hsq
    | next => exact False.elim hsq
    | brk => exact False.elim hsq
    | cont => exact False.elim hsq
theorem run_mkX (M : Mk X.K C f) (F : FnX X.prog X.w X.K X.mg X.base k f fd ps sp) (hr : Room (k + 1) X.A) (hg : X.A.guards = some []) (hbd : Binds X.K fd ps []) (hx : PassesAt (L2.CX X.prog X.w) X τ (E τ)) (I : Inv X pk τ H s) (r : Vals vs us)
    (h : ∀ y d, H y = none → H d = none → d ≠ y → sp (.ref y :: vs) (upd (upd H d (.own y)) y (.ins C d [])) (fun v H2 => v = .non ∧ Z (.ref y) H2) (E τ)) : wpAny (model X.prog X.w) X.A (call (.ref C) us) (EP X pk τ Z) X.xe s := by
  have q0 := h (s.heap.objs.size + 1) s.heap.objs.size (I.hok.fresh (Nat.le_succ _)) (I.hok.fresh (Nat.le_refl _)) (Nat.ne_of_lt (Nat.lt_succ_self _))
  have J := Inv.made (C := C) I
  have rr : Vals (V.ref (s.heap.objs.size + 1) :: vs) (Value.ref (s.heap.objs.size + 1) :: us) := .cons rfl r
  have hl : ((Value.ref (s.heap.objs.size + 1) :: us) ++ []).length = ps.length := by
    rw [List.append_nil, ← rr.length]
    exact F.len _ _ _ _ q0
  have hb := hbd _ (Value.ref (s.heap.objs.size + 1) :: us) J.kIn hl
  rw [List.append_nil] at hb
  have run := F.run (X.A.under (.builtin "type.__call__" ⟨.ref C :: us, []⟩)) X.stack _ _ ⟨Value.ref (s.heap.objs.size + 1) :: us, []⟩ _ _ _ (E τ) (hr.make C us []) hg (J.env0.make C us []) hb rr q0
  refine wpAny_call (make_map (f := f) I.kIn M.makes M.init (beq_iff_eq.mp M.fn) (codeAny_mono run fun res s' hsq => ?_))
  match res, hsq with
  | .error e, hsq => exact hx pk _ _ e s' J hsq
  | .ok (.ret u), hsq =>
    obtain ⟨v, H4, J4, rv, ev, q4⟩ := J.after hsq
    subst ev
    exact ⟨rv, ⟨V.ref (s.heap.objs.size + 1), H4, J4, rfl, q4⟩⟩
  | .ok .next, hsq => exact False.elim hsq
  | .ok .brk, hsq => exact False.elim hsq
  | .ok .cont, hsq => exact False.elim hsq
theorem pe_mkX (c : MakX X.prog X.w X.K X.mg X.base k x C sp) (hr : Room j X.A) (hg0 : X.A.guards = some []) (hkp : k + 1 ≤ j) (hx : ∀ σ, PassesAt (L2.CX X.prog X.w) X σ (E σ)) (hg : Gl X x) (ha : PA X (e :: es) t)
    (hdb : (x == ("__debug__" : Str)) = false := by decide) (hes : starEach (e :: es) X.env = (false, eval e X.env) :: starEach es X.env := by rfl) (hpl : (backTo pos (starEach es X.env)).any (·.1) = false := by rfl) :
    PE X (.Call (.Name x p) (e :: es) [] pos) (tMakeX C sp E t) := by
  obtain ⟨f, fd, ps, F, M, b⟩ := c.ex
  refine ⟨fun pk s τ H Z I h => ?_⟩
  refine wpAny_Call_Name_kw (ld_glob I hg c.at_ ?_ hdb)
  refine PySem.W.callWith_K (h₀ := X.base) I.ok.mod.kin M.kp (thn (ha.run pos pk s τ H _ I h) fun us st1 ⟨vs, H1, I1, r, q⟩ => ⟨I1.kIn, ?_⟩) hes hpl
  exact run_mkX M F (hr.mono hkp) hg0 b (hx τ) I1 r q
theorem pe_cX (c : CalX X.prog X.w X.K X.mg X.base k x sp) (hr : Room j X.A) (hg0 : X.A.guards = some []) (hkp : k ≤ j) (hx : ∀ σ, PassesAt (L2.CX X.prog X.w) X σ (E σ)) (hg : Gl X x) (ha : PA X (e :: es) t)
    (hdb : (x == ("__debug__" : Str)) = false := by decide) (hes : starEach (e :: es) X.env = (false, eval e X.env) :: starEach es X.env := by rfl) (hpl : (backTo pos (starEach es X.env)).any (·.1) = false := by rfl) :
    PE X (.Call (.Name x p) (e :: es) [] pos) (tCallS sp E t) := by
  obtain ⟨f, fd, ps, F, hmg, kp, b⟩ := c.ex
  refine ⟨fun pk s τ H Z I h => ?_⟩
  refine wpAny_Call_Name_kw (ld_glob I hg hmg ?_ hdb)
  refine PySem.W.callWith_K (h₀ := X.base) I.ok.mod.kin kp (thn (ha.run pos pk s τ H _ I h) fun us st1 ⟨vs, H1, I1, r, q⟩ => ⟨I1.kIn, ?_⟩) hes hpl
  exact run_fnX F (hr.mono hkp) hg0 b (hx τ) I1 r q
theorem pe_mtX {pl : Sem Bool} (c : MetX X.prog X.w X.K X.mg X.base k C m sp) (he : PE X o ta) (hr : Room j X.A) (hg0 : X.A.guards = some []) (hkp : k ≤ j) (hx : ∀ σ, PassesAt (L2.CX X.prog X.w) X σ (E σ)) (ha : PA X (e :: es) t)
    (hes : starEach (e :: es) X.env = (false, eval e X.env) :: starEach es X.env := by rfl) (hpl : (backTo pos (starEach es X.env)).any (·.1) = false := by rfl)
    (hte : eval (.Call (.Attribute o m apos) (e :: es) [] pos) X.env = (do
      let ov ← eval o X.env
      standAt apos.atName
      let (g, first) ← holding [ov] (getMethod ov m pl)
      callWith pos g first (backTo pos (starEach (e :: es) X.env)) (backToKw pos (keywordEach [] X.env))) := by rfl) :
    PE X (.Call (.Attribute o m apos) (e :: es) [] pos) (tMethX C m sp E ta t) := by
  obtain ⟨f, fd, ps, F, M, b⟩ := c.ex
  refine ⟨fun pk s τ H Z I h => PySem.W.methodCall_KW (pl := pl) (thn (he.run pk s τ H _ I h) fun u st1 ⟨y, H1, I1, ry, a, d, fs, ey, ea, l, q⟩ => ?_) hte⟩
  subst ey
  have eu : u = Value.ref a := ry
  subst eu
  refine getmeth_ok I1 ea c.cl M l ?_
  refine PySem.W.callWith_K (first := [.ref a]) (h₀ := X.base) I1.ok.mod.kin M.kp (thn (ha.run pos pk st1 τ H1 _ I1 q) fun us st2 ⟨vs, H2, I2, r, q2⟩ => ⟨I2.kIn, ?_⟩) hes hpl
  exact run_fnX (us := .ref a :: us) (vs := .ref a :: vs) F (hr.mono hkp) hg0 b (hx τ) I2 (.cons rfl r) q2
end
/-- isinstance of the caught error of an own class, whatever its dict: what the class must say -/
structure ExcD (K : PySem.W.Frag) (D : Addr) : Prop where
  hc : (PySem.W.clsIn K D).isSome = true
  hg : PySem.W.findIn K (.ref D) "__getattribute__" = some (some (.builtin "BaseException.__getattribute__"))
  hk : PySem.W.findIn K (.ref D) "__getattr__" = some none
  hs : PySem.W.subIn K (.ref D) (.type "BaseException") = some true
  ha : PySem.W.findIn K (.ref D) "__class__" = some (some (.builtin "object.__class__"))
  hn : PySem.W.specialIn K (.builtin "object.__class__") "__get__" = some (some (.builtin "getset_descriptor.__get__"))
  ht : PySem.W.takesIn K (.builtin "object.__class__") = some true
  hm : PySem.W.mroIn K D (.type "object") = some true
theorem call_isD {X : Cx} {a D : Addr} {oe : Obj} {cls : Value} {d : Option Addr} {pn : List (Addr × Obj)} (hcls : cls = .ref D) (dd : Addr) (fs : List (Str × V)) (hd : d = some dd) (C : ExcD X.K D) (hz : Zc cls d oe) (hf : ∃ vs, oe.data = .fields vs) :
    CallR (X.suite a ((a, oe) :: pn)) (.builtin "isinstance") (fun xs H Q => H dd = some (.xd fs) ∧ rIsE X.K D a xs H Q) := by
  intro pins s σ H xs us Q I r h
  subst hcls hd
  obtain ⟨hx, c, cv, b, rfl, hcv, e, q⟩ := h
  cases r with
  | cons rx rr =>
    cases rr with
    | cons rt rr =>
      cases rr
      cases rx
      have ec := hcv _ rt
      subst ec
      obtain ⟨hget, _⟩ := I.pin (a, oe) (List.mem_append.mpr (.inl List.mem_cons_self))
      obtain ⟨vs, hv⟩ := hf
      have hx : ObjOk X.prog X.w H s.heap dd (.xd fs) := I.hok dd _ hx
      obtain ⟨mA, hns, hr⟩ := hx
      obtain ⟨od, ho, hl⟩ := lookIn_ns hns
      have J : PySem.W.InstAt s.heap a oe D (some od) := ⟨hget, hz.1, by unfold PySem.W.notCls; rw [hv] <;> rfl, by rw [hz.2]; exact ho⟩
      exact PySem.W.kia_one (PySem.W.kitx_exc C.hc C.hg C.hk C.hs C.ha C.hn C.ht C.hm) I.kIn J e (fun z => nomatch z) fun tk => ⟨.bl b, H, I.kept (t' := tk) fun _ _ z => z, rfl, q⟩
end Own

namespace Own
open PySem PySem.Spec PyProof.Rows L2 Evl L2H
/-! ### comprehensions where an exception is handled -/
abbrev hctx (X : Cx) (st : Shared) (G : Hp) (sco : Scope) (cen : Env) (fa : List Addr) : Cx := { X.blk st G sco cen fa with pn := X.pn }
section
variable {X : Cx} {st st' : Shared} {G G' : Hp} {sco : Scope} {cen : Env} {fa : List Addr} {τ τ' : L2.St} {pk pk' : List (Addr × Obj)}
theorem ok_hot (o : (X.blk st G sco cen fa).Ok) : (hctx X st G sco cen fa).Ok := ⟨o.mod, o.kind, o.glob, o.blt, o.above, o.inj, o.has, o.cab, o.hd, o.frames, o.stk, o.exf, o.bs, o.bsz, o.noex, o.exfs, o.funs, o.frf⟩
theorem ok_cool (o : (hctx X st G sco cen fa).Ok) : (X.blk st G sco cen fa).Ok := ⟨o.mod, o.kind, o.glob, o.blt, o.above, o.inj, o.has, o.cab, o.hd, o.frames, o.stk, o.exf, o.bs, o.bsz, o.noex, o.exfs, o.funs, o.frf⟩
theorem inv_hot (I0 : Inv X pk τ G st) (I : Inv (X.blk st G sco cen fa) [] τ' G' st') (hfa : ∀ b ∈ fa, ∀ p ∈ X.pn ++ pk, p.1 ≠ b) : Inv (hctx X st G sco cen fa) [] τ' G' st' := by
  refine ⟨ok_hot I.ok, I.os, I.bare, I.base, I.loc, I.cell, I.free, I.freeC, fun p hp => ?_, I.hok, I.len⟩
  have hp : p ∈ X.pn := by simpa using hp
  have hp2 := List.mem_append_left pk hp
  obtain ⟨z1, z2, z3, z4, z5⟩ := I0.pin p hp2
  have nf : p.1 ∉ frs X.stack := fun hm => (List.mem_cons.mp (I0.stkSub p.1 hm)).elim z3 z4
  have ne : p.1 ∉ fa := fun hm => hfa p.1 hm p hp2 rfl
  exact ⟨I.base.keep p.1 p.2 z1 z2 nf ne, I.base.free p.1 p.2 z1 z2 ne, Nat.ne_of_lt (Nat.lt_of_lt_of_le (Heap.lt_size z1) I.ok.above), nf, z5⟩
theorem inv_cool (I : Inv (hctx X st G sco cen fa) pk' τ' G' st') : Inv (X.blk st G sco cen fa) pk' τ' G' st' :=
  ⟨ok_cool I.ok, I.os, I.bare, I.base, I.loc, I.cell, I.free, I.freeC, fun p hp => I.pin p (List.mem_append_right _ (by simpa using hp)), I.hok, I.len⟩
theorem hotC_h (c : HotC X) : HotC (hctx X st G sco cen fa) := c
theorem pe_lcH {elt tg src : Expr} {conds : List Expr} {own : List (Str × Nat)} {pos : Pos} {wi : TI} {g : TG} {tt : TT} {te : TE} (hot : HotC X) (nd : X.N.Nodup) (hi : PIH X tg src wi) (ok : BlkOk X.N X.env.scope sco own)
    (hg : ∀ (s1 : Shared) (H1 : Hp) (c1 : Addr) (l1 : List (Str × Addr)) (b1 : List Addr), PG (X.blk s1 H1 sco (compEnvC sco l1 c1 X.env) b1) tg g)
    (ht : ∀ (s1 : Shared) (H1 : Hp) (c1 : Addr) (l1 : List (Str × Addr)) (b1 : List Addr), PTs (X.blk s1 H1 sco (compEnvC sco l1 c1 X.env) b1) conds tt)
    (he : ∀ (s1 : Shared) (H1 : Hp) (c1 : Addr) (l1 : List (Str × Addr)) (b1 : List Addr), PE (X.blk s1 H1 sco (compEnvC sco l1 c1 X.env) b1) elt te) (hsrc : ∀ x, foldedSetIterable src X.env x = pure x := by intro _; rfl) :
    PE X (.ListComp elt [⟨tg, src, conds, 0⟩] sco pos) (tLc wi g tt te (own.map (·.2))) := by
  refine ⟨fun pk s0 τ H0 Q I0 h0 => ?_⟩
  rw [eval_ListComp]
  have hcl : ∀ y ∈ sco.names, y.2 = .free → ∃ c, X.env.cells.lookup y.1 = some c := fun y hy e => (ok.free y hy e).elim (fun z => I0.ok.has _ (.inl z)) (fun z => I0.ok.has _ (.inr z))
  refine wpAny_comprehension_free (use := none) rfl hsrc (closure_ok hcl) ok.kind (fun y hy e => by rw [ok.uniq y hy, e]) (thn (hi.run pk s0 τ H0 _ I0 h0) fun xv sA hxv => thn hxv fun itv sB hB => ?_)
  obtain ⟨it, fa, tn, J, HB, e, IB, T, tB, fB, q⟩ := hB
  subst e
  refine wpAny_newObj_type (newEnv_comp ?_) (by show 0 ≤ sizeLine; decide)
  generalize hL : sB.heap.objs.size = L
  have nL : HB L = none := IB.hok.fresh (Nat.le_of_eq hL)
  obtain ⟨W, ⟨mm, wm⟩, turn⟩ := q L nL
  generalize hsC : ({ sB with heap := sB.heap.push { cls := .type "list", data := .seq ([] : List Value).toArray } } : Shared) = sC
  have IC : Inv X pk τ (upd HB L (.lst [])) sC := by
    rw [← hsC]
    refine IB.laid (t' := sB.toks) (fun _ _ z => Heap.get?_push_of_some _ z) (Nat.le_of_eq hL) ⟨Nat.zero_le _, [], 0, .nil, ?_⟩
    rw [← hL]
    exact Heap.get?_push_size _ rfl
  have hpC : sC.heap = sB.heap.push { cls := .type "list", data := .seq ([] : List Value).toArray } := by rw [← hsC]
  have below : ∀ b ∈ fa, b < sB.heap.objs.size := fun b hb => let ⟨_, z, _⟩ := T.obj _ _ tB b hb; Heap.lt_size z
  have fC : ∀ b ∈ fa, FpOk X pk (upd HB L (.lst [])) b ∧ b < sC.heap.objs.size := fun b hb => by
    have lt := below b hb
    refine ⟨⟨?_, (fB b hb).2⟩, by rw [hpC, Heap.size_push]; exact Nat.lt_succ_of_lt lt⟩
    rw [upd_ne (by rw [← hL]; exact Nat.ne_of_lt lt)]
    exact (fB b hb).1
  have tC : tn 0 sC.heap := T.keep _ _ _ tB fun b _ o z => by rw [hpC]; exact Heap.get?_push_of_some _ z
  have ID := block_start IC ok nd fC
  have Pg := hg sC (upd HB L (.lst [])) sC.heap.objs.size (cellsFrom (sC.heap.objs.size + 1) sco.names (cloFrom X.env.cells sco.names [])) fa
  have Pt := ht sC (upd HB L (.lst [])) sC.heap.objs.size (cellsFrom (sC.heap.objs.size + 1) sco.names (cloFrom X.env.cells sco.names [])) fa
  have Pe := he sC (upd HB L (.lst [])) sC.heap.objs.size (cellsFrom (sC.heap.objs.size + 1) sco.names (cloFrom X.env.cells sco.names [])) fa
  show codeAny _ _ (.compStart (.ListComp elt [⟨tg, src, conds, 0⟩] sco pos) 0 (.ref it) (.ref L) (compEnvC sco (cellsFrom (sC.heap.objs.size + 1) sco.names (cloFrom X.env.cells sco.names [])) sC.heap.objs.size X.env)) (compPost (model X.prog X.w) X.A X.xe none _ (.ref L) sC.heap.objs.size) { sC with heap := pushCells (sC.heap.push { cls := .type "dict", data := .dict #[] }) sco.names }
  have nofa : ∀ b ∈ fa, (upd HB L (.lst [])) b = none := fun b hb => (fC b hb).1.1
  have pinfa : ∀ b ∈ fa, ∀ p ∈ X.pn ++ pk, p.1 ≠ b := fun b hb => (fC b hb).1.2.2.2.2.2
  generalize hcen : compEnvC sco (cellsFrom (sC.heap.objs.size + 1) sco.names (cloFrom X.env.cells sco.names [])) sC.heap.objs.size X.env = cen at ID Pg Pt Pe ⊢
  have lcen : cen.locals = sC.heap.objs.size := by subst hcen; rfl
  generalize hHC : upd HB L (.lst []) = HC at IC ID Pg Pt Pe wm nofa fC
  generalize hsD : ({ sC with heap := pushCells (sC.heap.push { cls := .type "dict", data := .dict #[] }) sco.names } : Shared) = sD at ID ⊢
  have tD : tn 0 sD.heap := T.keep _ _ _ tC fun b _ o z => by rw [← hsD]; exact pushCells_keeps _ _ _ _ (Heap.get?_push_of_some _ z)
  have still : ∀ {τ' : L2.St} {H' : Hp} {s' : Shared}, Inv (X.blk sC HC sco cen fa) [] τ' H' s' → (∀ b ∈ fa, H' b = none) → ∀ b ∈ fa, FpOk (X.blk sC HC sco cen fa) [] H' b := fun {τ' H' s'} I' hn b hb =>
    ⟨hn b hb, (I'.ok.exf b hb).1, I'.ok.exfs b hb, .inl hb, fun x c z => (I'.ok.exf b hb).2 x c z, fun p hp => absurd (show p ∈ ([] : List (Addr × Obj)) ++ [] from hp) (by simp)⟩
  have stillH : ∀ {τ' : L2.St} {H' : Hp} {s' : Shared}, Inv (X.blk sC HC sco cen fa) [] τ' H' s' → (∀ b ∈ fa, H' b = none) → ∀ b ∈ fa, FpOk (hctx X sC HC sco cen fa) [] H' b := fun {τ' H' s'} I' hn b hb =>
    ⟨hn b hb, (I'.ok.exf b hb).1, I'.ok.exfs b hb, .inl hb, fun x c z => (I'.ok.exf b hb).2 x c z, fun p hp => pinfa b hb p (List.mem_append_left _ (by simpa using hp))⟩
  have run : codeAny (model X.prog X.w) X.A (.compLoop (.ListComp elt [⟨tg, src, conds, 0⟩] sco pos) 0 (.ref it) (.ref L) cen) (compPost (model X.prog X.w) X.A X.xe none (EP X pk τ Q) (.ref L) sC.heap.objs.size) sD := by
    refine compLoop_any (fun n s' => ∃ i H', Inv (X.blk sC HC sco cen fa) [] (wipe τ (own.map (·.2))) H' s' ∧ tn i s'.heap ∧ (∀ b ∈ fa, H' b = none) ∧ W i n H') ?_ mm ⟨0, HC, ID, tD, nofa, wm⟩
    rintro n sE ⟨i, HE, IE, tE, nE, wE⟩
    rcases turn i n HE wE with ⟨stop, qq⟩ | ⟨go, Nx, hNx, step⟩
    · have td := T.done (hctx X sC HC sco cen fa) rfl rfl rfl (hotC_h hot) i [] sE _ HE (fun _ _ => False) (inv_hot IC IE pinfa) (stillH IE nE) tE stop
      refine thnF td fun r sF ⟨hr, IFh⟩ => ?_
      have IF := inv_cool IFh
      subst hr
      have IX : Inv X pk τ HE sF := IC.call' (ch := fa) IF.os IF.base IF.hok IF.bare fun b hb => ⟨(fC b hb).1.2.2.2.1, (fC b hb).1.2.1, (fC b hb).1.2.2.2.2.1, (fC b hb).1.2.2.2.2.2⟩
      have nC : HE sC.heap.objs.size = none := by
        have z : HE cen.locals = none := IF.free
        rw [lcen] at z
        exact z
      obtain ⟨m, hn, _⟩ := IF.loc
      have hn : sF.heap.Ns cen.locals m := hn
      rw [lcen] at hn
      refine ⟨m, hn, fun h'' sb => ?_⟩
      obtain ⟨_, f1, f2, f3, f4, f5⟩ := IC.fpOk (Nat.le_refl _) nC
      exact ⟨.ref L, HE, IX.turned (t' := sF.toks) (fun b o hb z => (sb.2 b hb).trans z) nC f1 f3 f4 f5, rfl, qq⟩
    · have ti := T.item (hctx X sC HC sco cen fa) rfl rfl rfl (hotC_h hot) i [] sE _ HE (fun _ _ => False) (inv_hot IC IE pinfa) (stillH IE nE) tE go
      refine thnF ti fun r sF ⟨u, hr, hF⟩ => ?_
      subst hr
      refine thnF hF fun _ sG ⟨x, HG, IGh, rG, yG, tG, nG⟩ => ?_
      have IG := inv_cool IGh
      have IG' := IG.pinned (still IG nG) (T.obj _ _ tG)
      refine thnF (Pg.run _ sG _ HG x u _ IG' rG (step x HG yG)) fun _ sK ⟨τK, HK, IK, wK, qK⟩ => ?_
      refine thnF (Pt.run _ sK τK HK _ IK qK) fun b sM ⟨HM, IM, qM⟩ => ?_
      have last : ∀ {s' : Shared} {H' : Hp}, Inv (X.blk sC HC sco cen fa) ([] ++ pinsAt fa sG.heap) τK H' s' → Nx H' → ∃ m, m < n ∧ ∃ i H', Inv (X.blk sC HC sco cen fa) [] (wipe τ (own.map (·.2))) H' s' ∧ tn i s'.heap ∧ (∀ b ∈ fa, H' b = none) ∧ W i m H' := fun {s' H'} I' nx => by
        obtain ⟨m', hm, w'⟩ := hNx H' nx
        have kept : ∀ b ∈ fa, ∀ o, sG.heap.get? b = some o → s'.heap.get? b = some o ∧ H' b = none := fun b hb o z =>
          let y := I'.pin (b, o) (List.mem_append_right _ (List.mem_append_right _ (mem_pinsAt hb z)))
          ⟨y.1, y.2.1⟩
        have hlen : (wipe τ (own.map (·.2))).length = τK.length := by rw [← wK, wipe_length]
        refine ⟨m', hm, i + 1, H', (I'.unpinned (pins := [])).weak hlen (fun j v z => ?_), T.keep _ _ _ tG fun b hb o z => (kept b hb o z).1, fun b hb => ?_, w'⟩
        · rw [← wK] at z
          exact (wipe_some z).1
        · obtain ⟨o, z, _⟩ := T.obj _ _ tG b hb
          exact (kept b hb o z).2
      cases b with
      | false =>
        rw [if_neg Bool.false_ne_true] at qM
        exact last IM qM
      | true =>
        rw [if_pos rfl] at qM
        refine thnF (Pe.run _ sM τK HM _ IM qM) fun z sN ⟨yv, HN, IN, rN, acc, hLN, hz, nx⟩ => ?_
        exact app_ok (X := X.blk sC HC sco cen fa) IN hLN hz rN fun sO IO => last IO nx
  exact codeAny_compStart_list run (T.self X.A 0 _ _ _ tD run)
end
end Own

namespace Own
open PySem PySem.Spec PyProof.Rows L2 Evl L2H
/-! ### defs that are called with the error in hand, in its except suite: what they keep speaks of the error's object -/
abbrev SpP := Addr × Obj → Sp
structure FnP (P : Program) (w : World) (K : PySem.W.Frag) (mg : Str → Option Value) (base : Heap) (k : Nat) (f : Addr) (fd : FuncData) (ps : List Str) (sp : SpP) : Prop where
  len : ∀ ob vs H Z EE, sp ob vs H Z EE → vs.length = ps.length
  run : ∀ (A : Around) (outer : List Env) (s : Shared) (H : Hp) (args : Args) (us : List Value) (vs : List V) (Z : VK) (EE : XK) (ob : Addr × Obj), RoomH k A → Hot1 A ob → PinOk outer H s ob → Env0 P w K mg base A outer s H → BindsTo s fd args (ps.zip us) → Vals vs us → sp ob vs H Z EE →
    codeAny (model P w) A (.call (.ref f) args) (CR CX0 outer P w H s Z EE) s
section
variable {P : Program} {w : World} {K : PySem.W.Frag} {mg : Str → Option Value} {base : Heap}
theorem fn_mkP {x q : Str} {f : Addr} {fd : FuncData} {st : Stmt} {N ps : List Str} {k : Nat} {sp : SpP} (F : Fun K x q st f fd) (S : FnScope N ps (defScope st))
    (len : ∀ ob vs H Z EE, sp ob vs H Z EE → vs.length = ps.length)
    (hbody : ∀ (cdv : Value) (A : Around) (outer : List Env) (s : Shared) (H : Hp) (vs : List V) (Z : VK) (EE : XK) (ob : Addr × Obj), Hot1 A ob → RoomH k (A.deeper (envOfC q (defScope st) s.heap.objs.size f cdv)) → sp ob vs H Z EE →
      ∃ t, PSs (cxH CX0 P w K mg base N q (defScope st) f cdv A outer s H EE ob) (defBody st) t ∧ t { nx := fun _ H' => Z .non H', rt := Z } (start N vs) H) : FnP P w K mg base (k + 1) f fd ps sp := by
  obtain ⟨oc, od, kV, doc, pm, an, cdv, ct, sl, rfl, lkp, hcd⟩ := F.ex
  refine ⟨len, fun A outer s H args us vs Z EE ob hr hot hpi e0 hbt r hsp => ?_⟩
  have hlen := len _ _ _ _ _ hsp
  have KI : K.In s.heap := e0.mod.kin.keeps fun b o e => (e0.bs b o e).1
  have nlm : s.heap.NoLimit := e0.mod.nolimit.keeps fun b o e => (e0.bs b o e).1
  have hkind : ∀ y ∈ ps.zip us, (defScope st).names.lookup y.1 = some .local ∨ ((defScope st).names.lookup y.1 = some .cell ∧ ((cellsFrom (s.heap.objs.size + 1) (defScope st).names []).lookup y.1).isSome = true) := fun ⟨n, v⟩ hyy => by
    rcases S.par n (List.of_mem_zip hyy).1 with qq | qq
    · exact .inl qq
    · exact .inr ⟨qq, PySem.W.cellsFrom_some _ _ _ (.inl qq)⟩
  refine codeAny_call_function hr.depth (KI _ _ lkp) rfl S.co S.gen rfl (PySem.W.codeRec_of KI hcd) (hbt _ _ _ _ ?_)
  refine wpAny_newFunctionEnv_cells S.kind hkind fun env hes st1 xx => ?_
  subst hes
  refine ⟨nlm.keeps xx.toInCall.keep, codeAny_func ?_⟩
  obtain ⟨t, ht, hsq⟩ := hbody cdv A outer s H vs Z EE ob hot (hr.deeper _) hsp
  have I : Inv (cxH CX0 P w K mg base N q (defScope st) f cdv A outer s H EE ob) [] (start N vs) H st1 := inv_startH S hpi e0 hlen r xx
  refine wpAny_mono (ht.run [] st1 (start N vs) H _ I hsq) (fun fl s' hst => ?_) fun e s' hst => hst
  have ready : ∀ {τ' : L2.St} {H' : Hp} {v : V} {u : Value}, Inv (cxH CX0 P w K mg base N q (defScope st) f cdv A outer s H EE ob) [] τ' H' s' → RelV v u → Z v H' → CE outer P w H s Z u s' :=
    fun {τ' H' v u} J rv qq => ⟨v, H', J.os, J.bare, J.base, J.hok, rv, qq⟩
  cases fl with
  | ret u =>
    obtain ⟨v, τ', H', J, rv, qq⟩ := hst
    exact ready J rv qq
  | next =>
    obtain ⟨τ', H', J, qq⟩ := hst
    exact ready (v := V.non) (u := Value.none) J rfl qq
  | brk =>
    obtain ⟨_, _, _, qq⟩ := hst
    exact False.elim qq
  | cont =>
    obtain ⟨_, _, _, qq⟩ := hst
    exact False.elim qq
end
structure CalP (P : Program) (w : World) (K : PySem.W.Frag) (mg : Str → Option Value) (base : Heap) (k : Nat) (x : Str) (sp : SpP) : Prop where
  ex : ∃ (f : Addr) (fd : FuncData) (ps : List Str), FnP P w K mg base k f fd ps sp ∧ mg x = some (.ref f) ∧ PySem.W.keepIn K (.ref f) = true ∧ Binds K fd ps []
def tCallP (sp : Sp) (t : TA) : TE := fun σ H Q => t σ H fun vs H1 => sp vs H1 Q (fun _ _ _ => False)
section
variable {X : Cx} {pk : List (Addr × Obj)} {τ : L2.St} {H : Hp} {s : Shared} {k j : Nat} {sp : SpP} {f : Addr} {fd : FuncData} {ps : List Str} {Z : VK} {us : List Value} {vs : List V} {x m : Str} {p pos : Pos} {e : Expr} {es : List Expr} {t : TA} {ob : Addr × Obj}
theorem run_fnP (F : FnP X.prog X.w X.K X.mg X.base k f fd ps sp) (hr : RoomH k X.A) (hot : Hot1 X.A ob) (hob : ob ∈ X.pn) (hbd : Binds X.K fd ps [])
    (I : Inv X pk τ H s) (r : Vals vs us) (h : sp ob vs H Z (fun _ _ _ => False)) : wpAny (model X.prog X.w) X.A (call (.ref f) us) (EP X pk τ Z) X.xe s := by
  have hlen : us.length = ps.length := by rw [← r.length]; exact F.len _ _ _ _ _ h
  obtain ⟨z1, z2, z3, z4, z5⟩ := I.pin ob (List.mem_append_left _ hob)
  have hpi : PinOk X.stack H s ob := ⟨z1, z2, fun hm => (List.mem_cons.mp (I.stkSub ob.1 hm)).elim z3 z4, z5⟩
  refine wpAny_call (codeAny_mono (F.run X.A X.stack s H ⟨us, []⟩ us vs Z _ ob hr hot hpi I.env0 (by have q := hbd s us I.kIn (by rw [List.append_nil]; exact hlen); rw [List.append_nil] at q; exact q) r h) fun r s' hsq => ?_)
  cases r with
  | error e => exact absurd hsq (by intro q; exact q.elim)
  | ok fl =>
    cases fl with
    | ret u => exact I.after hsq
    | next => exact False.elim hsq
    | brk => exact False.elim hsq
    | cont => exact False.elim hsq
theorem pe_cP (c : CalP X.prog X.w X.K X.mg X.base k x sp) (hr : RoomH k X.A) (hot : Hot1 X.A ob) (hob : ob ∈ X.pn) (hg : Gl X x) (ha : PA X (e :: es) t)
    (hdb : (x == ("__debug__" : Str)) = false := by decide) (hes : starEach (e :: es) X.env = (false, eval e X.env) :: starEach es X.env := by rfl) (hpl : (backTo pos (starEach es X.env)).any (·.1) = false := by rfl) :
    PE X (.Call (.Name x p) (e :: es) [] pos) (tCallP (sp ob) t) := by
  obtain ⟨f, fd, ps, F, hmg, kp, b⟩ := c.ex
  refine ⟨fun pk s τ H Z I h => ?_⟩
  refine wpAny_Call_Name_kw (ld_glob I hg hmg ?_ hdb)
  refine PySem.W.callWith_K (h₀ := X.base) I.ok.mod.kin kp (thn (ha.run pos pk s τ H _ I h) fun us st1 ⟨vs, H1, I1, r, q⟩ => ⟨I1.kIn, ?_⟩) hes hpl
  exact run_fnP F hr hot hob b I1 r q
end
/-! ### the error in hand -/
/-- what is known of the error's object -/
structure ErO (ob : Addr × Obj) (D : Addr) (d : Option Addr) : Prop where
  cls : ob.2.cls = .ref D
  dct : ob.2.dict = d
  dat : ∃ vs, ob.2.data = .fields vs
/-- its fields, where it has some -/
def ErD (H : Hp) (d : Option Addr) : Prop := d = none ∨ ∃ dd fs, d = some dd ∧ H dd = some (.xd fs)
theorem inst_of {X : Cx} {pk : List (Addr × Obj)} {τ : L2.St} {H : Hp} {s : Shared} {ob : Addr × Obj} {D : Addr} {d : Option Addr} (I : Inv X pk τ H s) (hob : ob ∈ X.pn) (O : ErO ob D d) (hd : ErD H d) : ∃ od, PySem.W.InstAt s.heap ob.1 ob.2 D od := by
  obtain ⟨hget, _⟩ := I.pin ob (List.mem_append_left _ hob)
  obtain ⟨h1, h2, vs, h3⟩ := O
  rcases hd with rfl | ⟨dd, fs, rfl, hx⟩
  · refine ⟨none, hget, h1, by unfold PySem.W.notCls; rw [h3] <;> rfl, by rw [h2]; trivial⟩
  · have hx : ObjOk X.prog X.w H s.heap dd (.xd fs) := I.hok dd _ hx
    obtain ⟨mA, hns, hr⟩ := hx
    obtain ⟨od, ho, hl⟩ := lookIn_ns hns
    exact ⟨some od, hget, h1, by unfold PySem.W.notCls; rw [h3] <;> rfl, by rw [h2]; exact ho⟩
theorem call_isP {X : Cx} {ob : Addr × Obj} {D : Addr} {d : Option Addr} (C : ExcC X.K D) (hob : ob ∈ X.pn) (O : ErO ob D d) : CallR X (.builtin "isinstance") (fun xs H Q => ErD H d ∧ rIsE X.K D ob.1 xs H Q) := by
  intro pk s τ H xs us Q I r h
  obtain ⟨hd, c, cv, b, rfl, hcv, e, q⟩ := h
  cases r with
  | cons rx rr =>
    cases rr with
    | cons rt rr =>
      cases rr
      cases rx
      have ec := hcv _ rt
      subst ec
      obtain ⟨od, J⟩ := inst_of I hob O hd
      have hc : (PySem.W.clsIn X.K D).isSome = true := by
        obtain ⟨cd, hc, _⟩ := PySem.W.any_some C.hd
        rw [hc]
        rfl
      have fin : ∀ tk, EP X pk τ Q (.bool b) { s with toks := tk } := fun tk => ⟨.bl b, H, I.kept (t' := tk) fun _ _ z => z, rfl, q⟩
      cases od with
      | none => exact PySem.W.kia_one (PySem.W.handS_kitx_exc C.hg C.hk C.hs C.hd C.ha C.hn C.ht C.hm) I.kIn J e (fun z => nomatch z) fin
      | some od => exact PySem.W.kia_one (PySem.W.kitx_exc hc C.hg C.hk C.hs C.ha C.hn C.ht C.hm) I.kIn J e (fun z => nomatch z) fin
theorem pe_xfP {X : Cx} {ob : Addr × Obj} {D : Addr} {d : Option Addr} {e : Expr} {te : TE} {pos : Pos} {n : Str} (C : ExcC X.K D) (hno : PySem.W.findIn X.K (.ref D) n = some none) (hob : ob ∈ X.pn) (O : ErO ob D d) (he : PE X e te)
    (hb : attributeBase e n X.env (eval e X.env) = eval e X.env := by rfl) : PE X (.Attribute e n pos) (tXf ob.1 (.ref D) d D n te) := by
  refine ⟨fun pk s τ H Q I h => ?_⟩
  refine attr_of hb (thn (he.run pk s τ H _ I h) fun u sA hh => ?_)
  obtain ⟨x, HA, IA, rx, ex, _, dd, fs, v, ed, ea, l, q⟩ := hh
  subst ex
  obtain rfl : u = Value.ref ob.1 := rx
  obtain ⟨hget, _⟩ := IA.pin ob (List.mem_append_left _ hob)
  obtain ⟨h1, h2, vs, h3⟩ := O
  have hx : ObjOk X.prog X.w HA sA.heap dd (.xd fs) := IA.hok dd _ ea
  obtain ⟨mA, hns, hr⟩ := hx
  obtain ⟨od, ho, hl⟩ := lookIn_ns hns
  obtain ⟨u, hu, ru⟩ := RelO.some_of (v := v) (o := mA n) (by rw [← l]; exact hr n)
  have J : PySem.W.InstAt sA.heap ob.1 ob.2 D (some od) := ⟨hget, h1, by unfold PySem.W.notCls; rw [h3] <;> rfl, by rw [h2, ed]; exact ho⟩
  exact HandSPX.exc_get IA.kIn J C.hg C.hk C.hs (PySem.W.findObj_own C.hd hno rfl (by rw [hl, hu])) (handed_of ru) ⟨v, HA, IA.tok _, ru, q⟩
/-! ### lists of the very same things are equal -/
def plV : V → Bool | .non => true | .bl _ => true | .int _ => true | .str _ => true | .ref _ => true | _ => false
def rEqS (K : PySem.W.Frag) : R2 := fun x y H Q => ∃ (a b : Addr) (xs : List V), x = .ref a ∧ y = .ref b ∧ SqL K H a xs ∧ SqL K H b xs ∧ xs.all plV = true ∧ Q (.bl true) H
theorem same_at {P : Program} {w : World} {s : Shared} {v : V} {u u' : Value} (h : plV v = true) (r : RelV v u) (r' : RelV v u') : PySem.W.EqTree P w s 0 u u' true := by
  cases v with
  | non => cases r; cases r'; exact .same
  | bl b => cases r; cases r'; exact .same
  | ref a => cases r; cases r'; exact .same
  | int i =>
    obtain ⟨t, rfl⟩ := r
    obtain ⟨t', rfl⟩ := r'
    refine .leaf fun A _ => ?_
    have z := PySem.SeqAt.EqAt.int_int (A := A) (s := s) i t i t'
    rw [beq_self_eq_true] at z
    exact z
  | str i =>
    obtain ⟨t, rfl⟩ := r
    obtain ⟨t', rfl⟩ := r'
    refine .leaf fun A _ => ?_
    have z := PySem.SeqAt.EqAt.str_str (A := A) (s := s) i t i t'
    rw [beq_self_eq_true] at z
    exact z
  | _ => cases h
theorem op_eqS {X : Cx} (hu : X.A.units + 64 < cLine) : OpR X (compareOp .Eq) (rEqS X.K) := by
  intro pk s τ H x y v u Q I rx ry h
  obtain ⟨a, b, xs, rfl, rfl, ha, hb, hpl, q⟩ := h
  cases rx
  cases ry
  obtain ⟨ua, ra, la, _⟩ := I.list ha
  obtain ⟨ub, rb, lb, _⟩ := I.list hb
  have hsz : ua.toArray.size = ub.toArray.size := by rw [List.size_toArray, List.size_toArray, ← ra.length, ← rb.length]
  refine PySem.W.eq_listsT (n := 0) (e := fun _ => true) la.isList lb.isList hsz (fun j h1 h2 => ?_) (by omega) ⟨.bl true, H, I, ?_, q⟩
  · have hj : j < xs.length := by rw [ra.length]; simpa using h1
    obtain ⟨u1, e1, r1⟩ := ra.get (x := xs[j]) (List.getElem?_eq_getElem hj)
    obtain ⟨u2, e2, r2⟩ := rb.get (x := xs[j]) (List.getElem?_eq_getElem hj)
    have p1 : ua.toArray[j] = u1 := by
      have z : ua[j]? = some (ua.toArray[j]) := by simp
      rw [z] at e1
      exact Option.some.inj e1
    have p2 : ub.toArray[j] = u2 := by
      have z : ub[j]? = some (ub.toArray[j]) := by simp
      rw [z] at e2
      exact Option.some.inj e2
    rw [p1, p2]
    exact same_at (List.all_eq_true.mp hpl _ (List.getElem_mem hj)) r1 r2
  · show Value.bool _ = Value.bool true
    congr 1
    exact List.all_eq_true.mpr fun _ _ => rfl
end Own

namespace Own
open PySem PySem.Spec PyProof.Rows L2 Evl L2H
/-! ### defs that may raise, the error's context being told to be None -/
structure FnN (P : Program) (w : World) (K : PySem.W.Frag) (mg : Str → Option Value) (base : Heap) (k : Nat) (f : Addr) (fd : FuncData) (ps : List Str) (sp : Sp) : Prop where
  len : ∀ vs H Z EE, sp vs H Z EE → vs.length = ps.length
  run : ∀ (A : Around) (outer : List Env) (s : Shared) (H : Hp) (args : Args) (us : List Value) (vs : List V) (Z : VK) (EE : XK), Room k A → A.guards = some [] → Env0 P w K mg base A outer s H → BindsTo s fd args (ps.zip us) → Vals vs us → sp vs H Z EE →
    codeAny (model P w) A (.call (.ref f) args) (CR (L2N.CX P w) outer P w H s Z EE) s
structure CalN (P : Program) (w : World) (K : PySem.W.Frag) (mg : Str → Option Value) (base : Heap) (k : Nat) (x : Str) (sp : Sp) : Prop where
  ex : ∃ (f : Addr) (fd : FuncData) (ps : List Str), FnN P w K mg base k f fd ps sp ∧ mg x = some (.ref f) ∧ PySem.W.keepIn K (.ref f) = true ∧ Binds K fd ps []
section
variable {P : Program} {w : World} {K : PySem.W.Frag} {mg : Str → Option Value} {base : Heap}
theorem fn_mkN {x q : Str} {f : Addr} {fd : FuncData} {st : Stmt} {N ps : List Str} {k : Nat} {sp : Sp} (F : Fun K x q st f fd) (S : FnScope N ps (defScope st))
    (len : ∀ vs H Z EE, sp vs H Z EE → vs.length = ps.length)
    (hbody : ∀ (cdv : Value) (A : Around) (outer : List Env) (s : Shared) (H : Hp) (vs : List V) (Z : VK) (EE : XK), Room k (A.deeper (envOfC q (defScope st) s.heap.objs.size f cdv)) → (A.deeper (envOfC q (defScope st) s.heap.objs.size f cdv)).guards = some [] → sp vs H Z EE →
      ∃ t, PSs (cxOf (L2N.CX P w) P w K mg base N q (defScope st) f cdv A outer s H EE) (defBody st) t ∧ t { nx := fun _ H' => Z .non H', rt := Z } (start N vs) H) : FnN P w K mg base (k + 1) f fd ps sp := by
  obtain ⟨oc, od, kV, doc, pm, an, cdv, ct, sl, rfl, lkp, hcd⟩ := F.ex
  refine ⟨len, fun A outer s H args us vs Z EE hr hg e0 hbt r hsp => ?_⟩
  have hlen := len _ _ _ _ hsp
  have KI : K.In s.heap := e0.mod.kin.keeps fun b o e => (e0.bs b o e).1
  have nlm : s.heap.NoLimit := e0.mod.nolimit.keeps fun b o e => (e0.bs b o e).1
  have hkind : ∀ y ∈ ps.zip us, (defScope st).names.lookup y.1 = some .local ∨ ((defScope st).names.lookup y.1 = some .cell ∧ ((cellsFrom (s.heap.objs.size + 1) (defScope st).names []).lookup y.1).isSome = true) := fun ⟨n, v⟩ hyy => by
    rcases S.par n (List.of_mem_zip hyy).1 with qq | qq
    · exact .inl qq
    · exact .inr ⟨qq, PySem.W.cellsFrom_some _ _ _ (.inl qq)⟩
  refine codeAny_call_function hr.depth (KI _ _ lkp) rfl S.co S.gen rfl (PySem.W.codeRec_of KI hcd) (hbt _ _ _ _ ?_)
  refine wpAny_newFunctionEnv_cells S.kind hkind fun env hes st1 xx => ?_
  subst hes
  refine ⟨nlm.keeps xx.toInCall.keep, codeAny_func ?_⟩
  obtain ⟨t, ht, hsq⟩ := hbody cdv A outer s H vs Z EE (hr.deeper _) hg hsp
  have I : Inv (cxOf (L2N.CX P w) P w K mg base N q (defScope st) f cdv A outer s H EE) [] (start N vs) H st1 := inv_start S hr.hd e0 hlen r xx
  refine wpAny_mono (ht.run [] st1 (start N vs) H _ I hsq) (fun fl s' hst => ?_) fun e s' hst => hst
  have ready : ∀ {τ' : L2.St} {H' : Hp} {v : V} {u : Value}, Inv (cxOf (L2N.CX P w) P w K mg base N q (defScope st) f cdv A outer s H EE) [] τ' H' s' → RelV v u → Z v H' → CE outer P w H s Z u s' :=
    fun {τ' H' v u} J rv qq => ⟨v, H', J.os, J.bare, J.base, J.hok, rv, qq⟩
  cases fl with
  | ret u =>
    obtain ⟨v, τ', H', J, rv, qq⟩ := hst
    exact ready J rv qq
  | next =>
    obtain ⟨τ', H', J, qq⟩ := hst
    exact ready (v := V.non) (u := Value.none) J rfl qq
  | brk =>
    obtain ⟨_, _, _, qq⟩ := hst
    exact False.elim qq
  | cont =>
    obtain ⟨_, _, _, qq⟩ := hst
    exact False.elim qq
theorem cal_mkN {x : Str} {st : Stmt} {N ps : List Str} {k : Nat} {sp : Sp} (D : Df K mg x st) (S : FnScope N ps (defScope st))
    (hbd : ∀ (kV doc pm : Value) (an : Option Addr) (cdv ct : Value) (us : List Value), us.length = ps.length → bindArgs (PySem.W.fnOf x x (defArgs st) (defBody st) (defScope st) .none kV doc pm an cdv ct) ⟨us, []⟩ = pure (ps.zip us))
    (len : ∀ vs H Z EE, sp vs H Z EE → vs.length = ps.length)
    (hbody : ∀ (f : Addr) (cdv : Value) (A : Around) (outer : List Env) (s : Shared) (H : Hp) (vs : List V) (Z : VK) (EE : XK), Room k (A.deeper (envOfC x (defScope st) s.heap.objs.size f cdv)) → (A.deeper (envOfC x (defScope st) s.heap.objs.size f cdv)).guards = some [] → sp vs H Z EE →
      ∃ t, PSs (cxOf (L2N.CX P w) P w K mg base N x (defScope st) f cdv A outer s H EE) (defBody st) t ∧ t { nx := fun _ H' => Z .non H', rt := Z } (start N vs) H) : CalN P w K mg base (k + 1) x sp := by
  obtain ⟨f, fd, hmg, F⟩ := D.ex
  exact ⟨f, fd, ps, fn_mkN F S len (hbody f), hmg, F.kp, F.binds hbd⟩
theorem cal_mkP {x : Str} {st : Stmt} {N ps : List Str} {k : Nat} {sp : SpP} (D : Df K mg x st) (S : FnScope N ps (defScope st))
    (hbd : ∀ (kV doc pm : Value) (an : Option Addr) (cdv ct : Value) (us : List Value), us.length = ps.length → bindArgs (PySem.W.fnOf x x (defArgs st) (defBody st) (defScope st) .none kV doc pm an cdv ct) ⟨us, []⟩ = pure (ps.zip us))
    (len : ∀ ob vs H Z EE, sp ob vs H Z EE → vs.length = ps.length)
    (hbody : ∀ (f : Addr) (cdv : Value) (A : Around) (outer : List Env) (s : Shared) (H : Hp) (vs : List V) (Z : VK) (EE : XK) (ob : Addr × Obj), Hot1 A ob → RoomH k (A.deeper (envOfC x (defScope st) s.heap.objs.size f cdv)) → sp ob vs H Z EE →
      ∃ t, PSs (cxH CX0 P w K mg base N x (defScope st) f cdv A outer s H EE ob) (defBody st) t ∧ t { nx := fun _ H' => Z .non H', rt := Z } (start N vs) H) : CalP P w K mg base (k + 1) x sp := by
  obtain ⟨f, fd, hmg, F⟩ := D.ex
  exact ⟨f, fd, ps, fn_mkP F S len (hbody f), hmg, F.kp, F.binds hbd⟩
end
section
variable {X : Cx} {pk : List (Addr × Obj)} {τ : L2.St} {H : Hp} {s : Shared} {k j : Nat} {sp : Sp} {f C : Addr} {fd : FuncData} {ps : List Str} {Z : VK} {us : List Value} {vs : List V} {x m : Str} {p pos apos : Pos} {e o : Expr} {es : List Expr} {t : TA} {ta : TE} {E : L2.St → XK}
theorem run_fnN (F : FnN X.prog X.w X.K X.mg X.base k f fd ps sp) (hr : Room k X.A) (hg : X.A.guards = some []) (hbd : Binds X.K fd ps []) (hx : PassesAt (L2N.CX X.prog X.w) X τ (E τ))
    (I : Inv X pk τ H s) (r : Vals vs us) (h : sp vs H Z (E τ)) : wpAny (model X.prog X.w) X.A (call (.ref f) us) (EP X pk τ Z) X.xe s := by
  have hlen : us.length = ps.length := by rw [← r.length]; exact F.len _ _ _ _ h
  refine wpAny_call (codeAny_mono (F.run X.A X.stack s H ⟨us, []⟩ us vs Z (E τ) hr hg I.env0 (by have q := hbd s us I.kIn (by rw [List.append_nil]; exact hlen); rw [List.append_nil] at q; exact q) r h) fun r s' hsq => ?_)
  cases r with
  | error e => exact hx pk H s e s' I hsq
  | ok fl =>
    cases fl with
    | ret u => exact I.after hsq
    | next => exact False.elim hsq
    | brk => exact False.elim hsq
    | cont => exact False.elim hsq
theorem pe_cN (c : CalN X.prog X.w X.K X.mg X.base k x sp) (hr : Room j X.A) (hg0 : X.A.guards = some []) (hkp : k ≤ j) (hx : ∀ σ, PassesAt (L2N.CX X.prog X.w) X σ (E σ)) (hg : Gl X x) (ha : PA X (e :: es) t)
    (hdb : (x == ("__debug__" : Str)) = false := by decide) (hes : starEach (e :: es) X.env = (false, eval e X.env) :: starEach es X.env := by rfl) (hpl : (backTo pos (starEach es X.env)).any (·.1) = false := by rfl) :
    PE X (.Call (.Name x p) (e :: es) [] pos) (tCallS sp E t) := by
  obtain ⟨f, fd, ps, F, hmg, kp, b⟩ := c.ex
  refine ⟨fun pk s τ H Z I h => ?_⟩
  refine wpAny_Call_Name_kw (ld_glob I hg hmg ?_ hdb)
  refine PySem.W.callWith_K (h₀ := X.base) I.ok.mod.kin kp (thn (ha.run pos pk s τ H _ I h) fun us st1 ⟨vs, H1, I1, r, q⟩ => ⟨I1.kIn, ?_⟩) hes hpl
  exact run_fnN F (hr.mono hkp) hg0 b (hx τ) I1 r q
end
/-! ### errors made -/
section
variable {X : Cx} {x : Str} {C : Addr} {p pos : Pos}
theorem pmk_oexN {CX : CXT} {e : Expr} {es : List Expr} {ta : TA} {fi : Addr} {k : Nat} {fd : FuncData} {ps : List Str} {sp : Sp} (T : OexC X.K C) (iC : PySem.W.findIn X.K (.ref C) "__init__" = some (some (.ref fi))) (tI : PySem.W.typeIn X.K (.ref fi) = some (.type "function"))
    (F1 : FnOk X.prog X.w X.K X.mg X.base CX k fi fd ps sp) (hr : Room (k + 1) X.A) (hb : Binds X.K fd ps []) (hx : Passes CX X (fun _ _ _ => False)) (hg : Gl X x) (hm : X.mg x = some (.ref C)) (ha : PA X (e :: es) ta)
    (hdb : (x == ("__debug__" : Str)) = false := by decide) (hes : starEach (e :: es) X.env = (false, eval e X.env) :: starEach es X.env := by rfl) (hpl : (backTo pos (starEach es X.env)).any (·.1) = false := by rfl) :
    L2N.PMk X (.Call (.Name x p) (e :: es) [] pos) (tMkO C sp [] ta) := by
  intro pk s τ H Q I h
  obtain ⟨_, _, _, _, tl, _, _, _, _, _, _, _, _, _, _, lC, hbm⟩ := T.cls
  refine wpAny_Call_Name_kw (ld_glob I hg hm ?_ hdb)
  refine PySem.W.callWith_K (h₀ := X.base) I.ok.mod.kin T.kC (thn (ha.run pos pk s τ H _ I h) fun us sA ⟨vs, HA, IA, rA, hz, qA⟩ => ⟨IA.kIn, ?_⟩) hes hpl
  show wpAny _ _ (call (.ref C) us) _ _ _
  obtain ⟨hA, gA, dA, tA, oA⟩ := sA
  generalize hn0 : hA.objs.size = n0
  have hle : hA.objs.size ≤ n0 + 1 := by rw [hn0]; exact Nat.le_succ _
  have hfr : HA (n0 + 1) = none := IA.hok.fresh hle
  have qB := qA (n0 + 1) hfr
  rw [List.append_nil] at qB
  generalize hhB : (hA.push (PySem.W.kdv_tup us)).push (PySem.HandSPX.excO C n0) = hB
  have kB : ∀ b o, hA.get? b = some o → hB.get? b = some o := fun b o z => by rw [← hhB]; exact Heap.get?_push_of_some _ (Heap.get?_push_of_some _ z)
  have gB : hB.get? (n0 + 1) = some (PySem.HandSPX.excO C n0) := by
    rw [← hhB, ← hn0]
    heap_get
  have IB : Inv X pk τ (upd HA (n0 + 1) (exo (n0 + 1) C none)) ⟨hB, gA, dA, tA, oA⟩ := IA.laid (t' := tA) (a := n0 + 1) (o := exo (n0 + 1) C none) (h' := hB) kB hle (exo_ok gB)
  have rB : Vals (V.ref (n0 + 1) :: vs) (Value.ref (n0 + 1) :: us) := .cons rfl rA
  have hlen : (Value.ref (n0 + 1) :: us ++ []).length = ps.length := by
    have z := rB.length
    rw [F1.len _ _ _ _ qB] at z
    rw [List.append_nil]
    exact z.symm
  have hus : us.length ≤ sizeLine := by
    rw [← Paired.length rA, sizeLine_eq]
    omega
  have bB := hb _ (Value.ref (n0 + 1) :: us) IB.kIn hlen
  rw [List.append_nil] at bB
  have run := F1.run (X.A.under (.builtin "type.__call__" ⟨.ref C :: us, []⟩)) X.stack _ _ ⟨Value.ref (n0 + 1) :: us, []⟩ (Value.ref (n0 + 1) :: us) _ _ (fun _ _ _ => False) (hr.make C us []) (IB.env0.make C us []) bB rB qB
  subst hn0 hhB
  refine wpAny_call (PySem.HandSPX.call_own F.excBase_ValueError (fun Y => PySem.HandSPX.refsVE_contains Y tl hbm) (IA.kIn _ _ lC) (PySem.W.looks_findIn IA.kIn iC) (fun self => PySem.W.bind_fn IA.kIn self tI) hus (codeAny_mono run fun r s' hst => ?_))
  cases r with
  | error er => exact hx pk τ _ _ er s' IB hst
  | ok fl =>
    cases fl with
    | ret u =>
      obtain ⟨v, HC, oC, bC, uC, hokC, rv, ev, d, fs, ea, ed, hdn, qC⟩ := hst
      subst ev
      obtain ⟨hC, gC, dC, tC, oC'⟩ := s'
      obtain ⟨t0, G, J, kG, ge, hoe, na⟩ := mk_end0 (d2 := dC) (t2 := tC) IA hle kB uC hokC oC bC ea ed hdn
      exact ⟨rv, ⟨hA.objs.size + 1, _, _, ⟨G, gC, dC, tC, oC'⟩, _, .ref C, some d, rfl, J, kG, ge, hoe, ⟨rfl, rfl, fun vs hv => by cases hv; rfl⟩, rfl, rfl, na, rfl, bC, raises_own T.exC T.tyC, qC⟩⟩
    | next => exact False.elim hst
    | brk => exact False.elim hst
    | cont => exact False.elim hst
theorem pmk_own0N {bmB : List Value} {B newId initId : String} (F : ExcBaseFacts B newId initId bmB) (q : PySem.W.excIn X.K C bmB newId = true) (gC : X.mg x = some (.ref C)) (kC : PySem.W.keepIn X.K (.ref C) = true) (r : Raises X (.ref C)) (hg : Gl X x)
    (hdb : (x == ("__debug__" : Str)) = false := by decide) : L2N.PMk X (.Call (.Name x p) [] [] pos) (fun _ H Q => Q (.ref C) none H) := by
  intro pk s τ H Q I h
  refine wpAny_Call_Name_kw (ld_glob I hg gC ?_ hdb)
  refine PySem.W.callWith_K0 I.kIn kC ?_
  obtain ⟨bm, N, nm, qn, bs, hdct, sn, sub, ab, col, dd, k0, k1, k2, k3, k5, mN, hC, hN, hni, T⟩ := exc_obj I.kIn q
  refine wpAny_call_exc_subT F T hC hN hni (fun h' e hm => ?_) (Nat.zero_le _)
  exact L2N.mk_of I hm r h (I.hok.gone hm.new)
end
end Own

namespace Own
open PySem PySem.Spec PyProof.Rows L2 Evl
/-! ### sets of texts -/
/-- the set at a holds just the texts l; it can be walked -/
def SetX (P : Program) (w : World) (h : Heap) (a : Addr) (l : List Str) : Prop :=
  ∃ D : Froz.SD, h.get? a = some (Froz.sObj "set" D) ∧ Froz.TxOk P w D l ∧ l.Nodup ∧ Ris D.2.2.place.toList ∧ (w.params.followText "set-order" = true ∨ D.2.2.led = true)
theorem tail_ris {ep : Nat} {es : Array (Int × Value)} {t : SetTable} {b : Bool} (r : Ris t.place.toList) : Ris (Froz.tailTx ep es t b).2.2.place.toList := by
  unfold Froz.tailTx
  split
  · exact relayAll_ris _ _ _
  · exact r
theorem tail_led {ep : Nat} {es : Array (Int × Value)} {t : SetTable} {b : Bool} : (Froz.tailTx ep es t b).2.2.led = t.led := by
  unfold Froz.tailTx
  split
  · exact relayAll_led _ _ _
  · rfl
theorem add_ris {D : Froz.SD} {hh : Int} {v : Value} (r : Ris D.2.2.place.toList) : Ris (Froz.addTx hh v D).2.2.place.toList := by
  unfold Froz.addTx
  refine tail_ris ?_
  have z := layNew_ris D.2.2 D.1 hh v r
  split
  · exact z
  · exact z
theorem add_led {D : Froz.SD} {hh : Int} {v : Value} : (Froz.addTx hh v D).2.2.led = D.2.2.led := by
  unfold Froz.addTx
  rw [tail_led]
  have z := layNew_led D.2.2 D.1 hh v
  split
  · exact z
  · exact z
section
variable {P : Program} {w : World} {A : Around} {E : Value → Shared → Prop} {s : Shared} {h h' : Heap} {a : Addr} {l : List Str}
theorem SetX.at (R : SetX P w h a l) (k : ∀ o, h.get? a = some o → h'.get? a = some o) : SetX P w h' a l := by
  obtain ⟨D, ho, r⟩ := R
  exact ⟨D, k _ ho, r⟩
theorem SetX.fresh (ho : h.get? a = some { cls := .type "set", dict := none, data := .set #[] 0 (.fresh 0 0 (!w.params.followText "set-order")) }) : SetX P w h a [] := by
  refine ⟨(#[], 0, .fresh 0 0 (!w.params.followText "set-order")), ho, .nil rfl, .nil, List.Pairwise.nil, ?_⟩
  show _ ∨ (!w.params.followText "set-order") = true
  cases w.params.followText "set-order"
  · exact .inr rfl
  · exact .inl rfl
/-- a text is put in, if it is not there -/
theorem setX_add {k : Str} {u : Tok} {Q : Bool → Shared → Prop} (R : SetX P w s.heap a l) (room : l.length + 1 < scanBound)
    (hQ : ∀ b hp l', Heap.SameBut a s.heap hp → SetX P w hp a l' → (∀ z, z ∈ l' ↔ z ∈ l ∨ z = k) → l'.length ≤ l.length + 1 → Q b { s with heap := hp }) :
    wpAny (model P w) A (setAddHashed a (.str k u) (hashStr w k)) Q E s := by
  obtain ⟨D, ho, F, nd, r, ld⟩ := R
  by_cases hk : k ∈ l
  · obtain ⟨es, ep, t⟩ := D
    have dd : (Froz.sObj "set" (es, ep, t)).data = .set es ep t := rfl
    have ff : t.fits es.size = true := F.fit
    have fe : ElemsOf (strKind P w) es.toList := F.el
    have fs : es.size = l.length := F.sz
    have small : es.size < scanBound := by omega
    have key : (strKind P w).is k (.str k u) = true := Froz.is_str k u
    unfold setAddHashed setAddHashedIn
    refine wpAny_holding (wpAny_bind (wpAny_setState_of ho dd ff ?_))
    dsimp only
    rw [byScan_of rfl small fe]
    simp only [↓reduceIte]
    unfold setAddByScan
    refine wpAny_bind (wpAny_bind (wpAny_rule (wpAny_bind (wpAny_setScan_of (knd := strKind P w) (k := k) key ho dd ff fe ?_))))
    cases hfi : List.findIdx? (fun e => (strKind P w).is k e.2) es.toList with
    | none =>
      obtain ⟨e, he, hb⟩ := (F.mem k).mp hk
      have z := List.findIdx?_eq_none_iff.mp hfi e he
      rw [hb] at z
      cases z
    | some j =>
      dsimp only
      refine wpAny_pure (wpAny_pure ?_)
      exact hQ _ s.heap l (Heap.SameBut.refl a s.heap) ⟨(es, ep, t), ho, F, nd, r, ld⟩ (fun z => ⟨.inl, fun q => q.elim id (fun e => e ▸ hk)⟩) (Nat.le_succ _)
  · refine Froz.add_x ho F hk room (hQ true _ (k :: l) ⟨Heap.size_after_update .., fun b hb => Heap.get?_update_other _ _ (Ne.symm hb)⟩ ⟨Froz.addTx (hashStr w k) (.str k u) D, ?_, Froz.add_ok u F, List.nodup_cons.mpr ⟨hk, nd⟩, add_ris r, ld.imp id fun z => add_led.trans z⟩ (fun z => ?_) (Nat.le_refl _))
    · exact Froz.get_upd _ ho rfl
    · rw [List.mem_cons]
      exact Or.comm
theorem setX_loop {it : Addr} {fa wa : List Addr} {G : Array GenState → Array GenState → Prop} {n : Nat} {Pv : Nat → Value → Prop} {St : Nat → Shared → Prop} {R : Result → Shared → Prop}
    (W : WalksS P w A.in1 it fa wa G n Pv St) (hfa : a ∉ fa) (zs : List Str) (hn : n = zs.length) (hb : zs.length + 1 < scanBound) (hv : ∀ i v, Pv i v → ∃ z t, zs[i]? = some z ∧ v = .str z t) :
    ∀ (m i : Nat) (l : List Str) (s : Shared), n - i = m → i ≤ n → St i s → l.length ≤ i → (∀ z, z ∈ l ↔ z ∈ zs.take i) → SetX P w s.heap a l →
      (∀ s' l', Moved (a :: wa) G s s' → l'.length ≤ n → (∀ z, z ∈ l' ↔ z ∈ zs) → SetX P w s'.heap a l' → R (.ok (.ret .none)) s') →
      codeAny (model P w) A (.builtin "set.update.loop" ⟨[.ref a, .ref it], []⟩) R s := by
  have hwa : a ∉ wa := fun q => hfa (W.sub _ q)
  have more : ∀ b ∈ wa, b ∈ a :: wa := fun b q => List.mem_cons_of_mem _ q
  intro m
  induction m with
  | zero =>
    intro i l s hm hi hst hl hz hX hR
    have ei : i = n := by omega
    subst ei
    refine codeAny_builtin F.entry_set_update_loop ?_
    rw [Around.under_plainId F.plain_set_update_loop _]
    show wpAny _ A.in1 (pyNext (.ref it) >>= _) _ _ s
    refine wpAny_bind (W.done s _ _ hst fun s' mv => ?_)
    show wpAny _ A.in1 (ret Value.none) _ _ s'
    rw [List.take_of_length_le (show zs.length ≤ i by omega)] at hz
    exact wpAny_pure (hR s' l (mv.mono more) hl hz (hX.at fun o e => mv.heap a o hwa e))
  | succ m ih =>
    intro i l s hm hi hst hl hz hX hR
    have lt : i < n := by omega
    refine codeAny_builtin F.entry_set_update_loop ?_
    rw [Around.under_plainId F.plain_set_update_loop _]
    show wpAny _ A.in1 (pyNext (.ref it) >>= _) _ _ s
    refine wpAny_bind (W.item i s _ _ lt hst fun v s' pv hst' mv => ?_)
    obtain ⟨z, t, hzi, rfl⟩ := hv i v pv
    have hX' : SetX P w s'.heap a l := hX.at fun o e => mv.heap a o hwa e
    show wpAny _ A.in1 (holding [Value.str z t] (setAdd a (.str z t)) >>= _) _ _ s'
    refine wpAny_bind (wpAny_holding ?_)
    unfold setAdd
    refine wpAny_holding ?_
    refine wpAny_bind ((strKind P w).pyHash (k := z) (Froz.is_str z t) ?_)
    refine setX_add (s := { s' with toks := s'.toks + 1 }) hX' (by omega) fun b hp l' sb hX2 hz2 hl2 => ?_
    have hz3 : ∀ y, y ∈ l' ↔ y ∈ zs.take (i + 1) := fun y => by
      rw [hz2, List.take_add_one, hzi, List.mem_append, hz]
      show _ ↔ _ ∨ y ∈ [z]
      rw [List.mem_singleton]
    refine wpAny_pure ⟨plainId_quiet F.plain_set_update_loop _, ih (i + 1) l' _ (by omega) lt (W.frame _ s' _ _ hst' (Nat.le_succ _) fun b hb2 o e => ?_) (by omega) hz3 hX2 fun s2 l2 mv2 c2 z2 X2 => ?_⟩
    · rw [sb.2 b (fun q : b = a => hfa (by rw [← q]; exact hb2))]
      exact e
    · refine hR s2 l2 (Moved.trans W.gtrans ((mv.mono more).then_heap (Nat.le_succ _) fun b o hb2 e => ?_) mv2) c2 z2 X2
      rw [sb.2 b (fun q : b = a => hb2 (by rw [q]; exact List.mem_cons_self))]
      exact e
set_option maxRecDepth 100000 in
set_option maxHeartbeats 3200000 in
theorem setX_call {p : Addr} {items : Array Value} (zs : List Str) {Q : Value → Shared → Prop} (hh : A.handled = none) (hp : s.heap.IsList p items) (are : StrsAre items.toList zs) (hb : zs.length + 1 < scanBound)
    (fin : ∀ (hp' : Heap) (tk : Nat) (l : List Str), SetX P w hp' s.heap.objs.size l → l.length ≤ zs.length → (∀ z, z ∈ l ↔ z ∈ zs) → (∀ b o, s.heap.get? b = some o → hp'.get? b = some o) → Q (.ref s.heap.objs.size) { s with heap := hp', toks := tk }) :
    wpAny (model P w) A (call (.type "set") [.ref p]) Q E s := by
  have size : items.size = zs.length := by rw [← StrsAre.len_eq are, Array.length_toList]
  obtain ⟨c, tl, hmro⟩ := F.called_set.mro
  have hmade := F.called_set.made
  have hsub := F.called_set.sub
  refine wpAny_call (codeAny_of_tree ?_)
  show wpAny _ _ (callAny (.type "set") _) _ _ _
  refine wpAny_pure ⟨Code.quiet_builtin _ (by decide +kernel), codeAny_builtin F.entry_type_call ?_⟩
  rw [Around.under_plain (weight_type_call_type "set" [.ref p] []) rfl]
  have q1 := F.called_set.notType
  have q2 := F.called_set.canCreate
  have q3 := F.typeCall_set_1 (.ref p)
  repeat (any_goals (first | assumption | wp_step))
  refine codeAny_mono (code_set_led1 (.ref p) (E := E) (Q₁ := fun ob s1 => ob = .ref s.heap.objs.size ∧ s1 = { s with heap := s.heap.push { cls := .type "set", dict := none, data := .set #[] 0 (.fresh 0 0 (!w.params.followText "set-order")) } }) ⟨rfl, rfl⟩) fun r s1 hr => ?_
  cases r with
  | error e => exact hr
  | ok fl =>
    cases fl with
    | ret ob =>
      obtain ⟨rfl, rfl⟩ := hr
      have gS : (s.heap.push { cls := .type "set", dict := none, data := .set #[] 0 (.fresh 0 0 (!w.params.followText "set-order")) }).get? s.heap.objs.size = some { cls := .type "set", dict := none, data := .set #[] 0 (.fresh 0 0 (!w.params.followText "set-order")) } := Heap.get?_push_size _ rfl
      have tS : Shared.TypeIs { s with heap := s.heap.push { cls := .type "set", dict := none, data := .set #[] 0 (.fresh 0 0 (!w.params.followText "set-order")) } } (.ref s.heap.objs.size) "set" := ⟨_, gS, rfl⟩
      have q4 := F.called_set.init.lookup
      have q5 := F.called_set.init.bind (.ref s.heap.objs.size)
      repeat (any_goals (first | assumption | wp_step))
      refine codeAny_mono (codeAny_call_builtin (R := wants (fun r s2 => r = .none ∧ ∃ hp' tk l, s2 = { s with heap := hp', toks := tk } ∧ SetX P w hp' s.heap.objs.size l ∧ l.length ≤ zs.length ∧ (∀ z, z ∈ l ↔ z ∈ zs) ∧
          (∀ b o, s.heap.get? b = some o → hp'.get? b = some o)) E) F.called_set.init.plain F.entry_set_init (check_set_init_1 tS ?_)) fun r2 s2 hr2 => ?_
      · obtain ⟨⟨oc, od, oda, osl⟩, hol, hcl, nl, hdl⟩ := hp
        simp only at hcl hdl
        subst hcl hdl
        have hol' : (s.heap.push { cls := .type "set", dict := none, data := .set #[] 0 (.fresh 0 0 (!w.params.followText "set-order")) }).get? p = some { cls := .type "list", dict := od, data := .seq items nl, slots := osl } := Heap.get?_push_of_some _ hol
        have q6 := F.sub_list_set
        have q7 := F.sub_list_frozenset
        have q8 : (Value.type "list" == Value.type "dict") = false := by decide
        have hl1 : (s.heap.push { cls := .type "set", dict := none, data := .set #[] 0 (.fresh 0 0 (!w.params.followText "set-order")) }).IsList p items := ⟨_, hol', rfl, nl, rfl⟩
        unfold Builtin.«set.__init__» noKeywords Builtin.Frozenset.updateFrom
        generalize hPI : pyIter = PI
        wp_walk
        subst hPI
        refine wpAny_pyIter_list hl1 ?_
        refine wpAny_bind (wpAny_runValue ?_)
        have lt : p < s.heap.objs.size := Heap.lt_size hol
        have calm3 : A.in1.in1.in1.handled = none := by simp [hh]
        have neI : p ≠ (s.heap.push { cls := .type "set", dict := none, data := .set #[] 0 (.fresh 0 0 (!w.params.followText "set-order")) }).objs.size := by
          rw [Heap.size_push]
          exact Nat.ne_of_lt (Nat.lt_succ_of_lt lt)
        have notin : s.heap.objs.size ∉ [(s.heap.push { cls := .type "set", dict := none, data := .set #[] 0 (.fresh 0 0 (!w.params.followText "set-order")) }).objs.size, p] := by
          rw [Heap.size_push]
          simp only [List.mem_cons, List.mem_singleton, List.not_mem_nil, or_false, not_or]
          exact ⟨Nat.ne_of_lt (Nat.lt_succ_self _), Nat.ne_of_gt lt⟩
        have each : ∀ (i : Nat) (v : Value), items[i]? = some v → ∃ z t, zs[i]? = some z ∧ v = .str z t := fun i v hv => by
          have hi : i < zs.length := by rw [← size]; exact (Array.getElem?_eq_some_iff.mp hv).1
          obtain ⟨t, e⟩ := SS.strs_at are i v (by rw [Array.getElem?_toList]; exact hv)
          refine ⟨zs[i], t, List.getElem?_eq_getElem hi, ?_⟩
          rw [e, List.getD_eq_getElem?_getD, List.getElem?_eq_getElem hi]
          rfl
        refine setX_loop ((Walks.list calm3 _ p neI items).toS) notin zs size hb each (items.size - 0) 0 [] _ (by omega) (Nat.zero_le _) ⟨⟨_, Heap.get?_push_size _ rfl, rfl, rfl⟩, (hl1.push _)⟩ (Nat.le_refl _) (fun z => by simp) (SetX.fresh ?_) (fun s' l' mv c2 z2 X2 => ?_)
        · exact Heap.get?_push_of_some _ gS
        · obtain ⟨hp', g2, d2, tk, o2⟩ := s'
          have eg : g2 = s.gens := mv.gens
          have ed : d2 = s.drawn := mv.drawn
          have eo : o2 = s.os := mv.os
          subst eg ed eo
          show wpAny _ _ _ _ _ _
          refine wpAny_pure ?_
          show wpAny _ _ (ret Value.none) _ _ _
          rw [size] at c2
          refine wpAny_pure ⟨rfl, hp', tk, l', rfl, X2, c2, z2, fun b o e => ?_⟩
          have b0 : b < s.heap.objs.size := Heap.lt_size e
          have b2 : b ≠ (s.heap.push { cls := .type "set", dict := none, data := .set #[] 0 (.fresh 0 0 (!w.params.followText "set-order")) }).objs.size := by
            rw [Heap.size_push]
            exact Nat.ne_of_lt (Nat.lt_succ_of_lt b0)
          exact mv.heap b o (by simp only [List.mem_cons, List.mem_singleton, List.not_mem_nil, or_false, not_or]; exact ⟨Nat.ne_of_lt b0, b2⟩) (Heap.get?_push_of_some _ (Heap.get?_push_of_some _ e))
      · cases r2 with
        | error e => exact hr2
        | ok fl2 =>
          cases fl2 with
          | ret r =>
            obtain ⟨rfl, hp', tk, l', rfl, X2, c2, z2, kk⟩ := hr2
            repeat (any_goals (first | assumption | wp_step))
            exact fin _ _ _ X2 c2 z2 kk
          | _ => exact hr2.elim
    | _ => exact hr.elim
end
end Own

namespace Own
open PySem PySem.Spec PyProof.Rows L2 Evl
/-! ### sorted(set(texts)) -/
theorem perm_of {α : Type} [DecidableEq α] : ∀ (l ys : List α), l.Nodup → (∀ z, z ∈ l → z ∈ ys) → ys.length = l.length → ys.Perm l
  | [], ys, _, _, hl => by
    have e : ys = [] := List.eq_nil_of_length_eq_zero hl
    rw [e]
  | x :: r, ys, nd, sub, hl => by
    obtain ⟨n1, n2⟩ := List.nodup_cons.mp nd
    have hx := sub x List.mem_cons_self
    have p1 := List.perm_cons_erase hx
    have hl2 : (ys.erase x).length = r.length := by
      rw [List.length_erase_of_mem hx, hl]
      rfl
    have sub2 : ∀ z, z ∈ r → z ∈ ys.erase x := fun z hz => (List.mem_erase_of_ne (fun e : z = x => n1 (by rw [← e]; exact hz))).mpr (sub z (List.mem_cons_of_mem _ hz))
    exact p1.trans (List.Perm.cons x (perm_of r _ n2 sub2 hl2))
def leS (a b : Str) : Prop := ltCps b.cps.toList a.cps.toList = false
theorem rising_mem : ∀ (p : Str) (r : List Str), risingS p r = true → (∀ a b : Str, ∀ c, leS a b → leS b c → leS a c) → ∀ z ∈ r, leS p z
  | p, [], _, _, z, hz => by cases hz
  | p, x :: r, h, tr, z, hz => by
    have h : (!ltCps x.cps.toList p.cps.toList && risingS x r) = true := h
    rw [Bool.and_eq_true] at h
    have px : leS p x := by
      have q := h.1
      unfold leS
      cases c : ltCps x.cps.toList p.cps.toList with
      | false => rfl
      | true => rw [c] at q; cases q
    rcases List.mem_cons.mp hz with e | hz
    · rw [e]
      exact px
    · exact tr p x z px (rising_mem x r h.2 tr z hz)
theorem rising_tail : ∀ {p : Str} {r : List Str}, risingS p r = true → sortedS r = true
  | _, [], _ => rfl
  | p, x :: r, h => by
    have h : (!ltCps x.cps.toList p.cps.toList && risingS x r) = true := h
    rw [Bool.and_eq_true] at h
    exact h.2
theorem sorted_unique (tr : ∀ a b c : Str, leS a b → leS b c → leS a c) (an : ∀ a b : Str, leS a b → leS b a → a = b) : ∀ (xs ys : List Str), sortedS xs = true → sortedS ys = true → xs.Nodup → ys.Nodup → (∀ z, z ∈ xs ↔ z ∈ ys) → xs = ys
  | [], [], _, _, _, _, _ => rfl
  | [], y :: r, _, _, _, _, m => by cases (m y).mpr List.mem_cons_self
  | x :: r, [], _, _, _, _, m => by cases (m x).mp List.mem_cons_self
  | x :: r, y :: t, h1, h2, d1, d2, m => by
    have e : x = y := by
      rcases List.mem_cons.mp ((m x).mp List.mem_cons_self) with q | q
      · exact q
      · rcases List.mem_cons.mp ((m y).mpr List.mem_cons_self) with q2 | q2
        · exact q2.symm
        · exact an x y (rising_mem x r h1 tr y q2) (rising_mem y t h2 tr x q)
    subst e
    obtain ⟨a1, a2⟩ := List.nodup_cons.mp d1
    obtain ⟨b1, b2⟩ := List.nodup_cons.mp d2
    congr 1
    refine sorted_unique tr an r t (rising_tail h1) (rising_tail h2) a2 b2 fun z => ?_
    have q := m z
    rw [List.mem_cons, List.mem_cons] at q
    constructor
    · intro hz
      rcases q.mp (.inr hz) with e | h
      · exact absurd (e ▸ hz) a1
      · exact h
    · intro hz
      rcases q.mpr (.inr hz) with e | h
      · exact absurd (e ▸ hz) b1
      · exact h
/-- ys: the texts of zs, each once, ascending -/
structure Srt (zs ys : List Str) : Prop where
  so : sortedS ys = true
  nd : ys.Nodup
  me : ∀ z, z ∈ ys ↔ z ∈ zs
theorem leS_iff (a b : Str) : leS a b ↔ a.cps.toList ≤ b.cps.toList := by
  unfold leS
  rw [ltCps_eq, decide_eq_false_iff_not]
  exact Iff.rfl
theorem leS_tr (a b c : Str) (h1 : leS a b) (h2 : leS b c) : leS a c := (leS_iff a c).mpr (List.le_trans ((leS_iff a b).mp h1) ((leS_iff b c).mp h2))
theorem leS_an (a b : Str) (h1 : leS a b) (h2 : leS b a) : a = b := PyProof.Rows.ext_toList (List.le_antisymm ((leS_iff a b).mp h1) ((leS_iff b a).mp h2))
theorem Srt.one {zs zs' ys ys' : List Str} (h : Srt zs ys) (h' : Srt zs' ys') (m : ∀ z, z ∈ zs ↔ z ∈ zs') : ys = ys' := sorted_unique leS_tr leS_an ys ys' h.so h'.so h.nd h'.nd fun z => (h.me z).trans ((m z).trans (h'.me z).symm)
section
variable {P : Program} {w : World} {A : Around} {E : Value → Shared → Prop} {s : Shared} {a : Addr} {l : List Str}
theorem txt_el {D : Froz.SD} (F : Froz.TxOk P w D l) : ∀ e ∈ D.1.toList, ∃ k t, e.2 = Value.str k t := fun e he => by
  obtain ⟨⟨k, hk, _⟩, _⟩ := F.el e he
  have hk : Value.isStrOf k e.2 = true := hk
  cases hv : e.2 with
  | str x t => exact ⟨x, t, rfl⟩
  | _ => rw [hv] at hk; cases hk
theorem strs_of : ∀ (vs : List Value), (∀ v ∈ vs, ∃ k t, v = Value.str k t) → StrsAre vs (vs.map strOf)
  | [], _ => .nil
  | v :: r, h => by
    obtain ⟨k, t, e⟩ := h v List.mem_cons_self
    rw [e]
    exact .cons k t (strs_of r fun u hu => h u (List.mem_cons_of_mem _ hu))
theorem sortX {Q : Value → Shared → Prop} (R : SetX P w s.heap a l) (hh : A.handled = none) (hb : l.length < scanBound)
    (fin : ∀ s' p (out : Array Value) (c : Nat) (ys : List Str), (∀ b o, s.heap.get? b = some o → s'.heap.get? b = some o) → s'.gens = s.gens → s'.os = s.os → s.heap.objs.size ≤ p → s'.heap.get? p = some (seqObj "list" out c) → StrsAre out.toList ys → Srt l ys → ys.length = l.length → Q (.ref p) s') :
    wpAny (model P w) A (call (.builtin "sorted") [.ref a]) Q E s := by
  obtain ⟨D, ho, F, nd, r, ld⟩ := R
  obtain ⟨es, ep, t⟩ := D
  have ff : t.fits es.size = true := F.fit
  have fs : es.size = l.length := F.sz
  refine Calls.call_function_entry kind_sorted plain_sorted entry_sorted (args_sorted1 _) ?_
  unfold Builtin.«sorted»
  refine wpAny_bind (m := checkCount "sorted" 1 1 _) (wpAny_pure ?_)
  refine wpAny_bind (collect_set (A := A.in1) hh ⟨_, ho, rfl, rfl⟩ ff (show es.size < scanBound by omega) r ld fun sB vs kB szB gB oB pm => ?_)
  have lenV : vs.length = l.length := by rw [pm.length_eq, List.length_map, Array.length_toList, fs]
  have areV : StrsAre vs (vs.map strOf) := strs_of vs fun v hv => by
    obtain ⟨e, he, q⟩ := List.mem_map.mp (pm.mem_iff.mp hv)
    obtain ⟨k, tk, h1⟩ := txt_el F e he
    exact ⟨k, tk, by rw [← q]; exact h1⟩
  have memV : ∀ z, z ∈ vs.map strOf ↔ z ∈ l := fun z => by
    rw [F.mem z, List.mem_map]
    constructor
    · rintro ⟨v, hv, e⟩
      obtain ⟨x, hx, q⟩ := List.mem_map.mp (pm.mem_iff.mp hv)
      obtain ⟨k, tk, h1⟩ := txt_el F x hx
      have e2 : k = z := by
        rw [← e, ← q, h1]
        rfl
      exact ⟨x, hx, by rw [h1, e2]; exact Froz.is_str z tk⟩
    · rintro ⟨x, hx, q⟩
      obtain ⟨k, tk, h1⟩ := txt_el F x hx
      refine ⟨x.2, pm.mem_iff.mpr (List.mem_map.mpr ⟨x, hx, rfl⟩), ?_⟩
      rw [h1] at q ⊢
      exact (strKind P w).inj (.str k tk) k z (Froz.is_str k tk) q
  have permV : (vs.map strOf).Perm l := perm_of l (vs.map strOf) nd (fun z hz => (memV z).mpr hz) (by rw [List.length_map]; exact lenV)
  refine wpAny_bind (wpAny_newList ?_ (by rw [lenV, sizeLine_eq]; have : scanBound = 4096 := rfl; omega))
  have hoL : (sB.heap.push (seqObj "list" vs.toArray 0)).get? sB.heap.objs.size = some (seqObj "list" vs.toArray 0) := Heap.get?_push_size _ rfl
  refine wpAny_bind (wpAny_holding (wpAny_call_entry slot_list_sort ⟨_, hoL, rfl⟩ entry_list_sort (list_sort_treeKAny strKind_oneLt hoL areV.keysOf (fun v1 v2 rest e => keyKind_strs (by rw [← e]; exact areV)) (by rw [lenV, sizeLine_eq]; have : scanBound = 4096 := rfl; omega) fun st' hp hs => ⟨_, rfl, ?_⟩) (args_list_sort _)))
  obtain ⟨ys, y1, y2, y3⟩ := sorted_out_str areV hp hs
  obtain ⟨c, hc⟩ := sortedHeap_at (vs := vs) (out := (arrOf st').map (·.2)) hoL
  have py := y2.trans permV
  refine wpAny_pure ⟨_, rfl, fin _ sB.heap.objs.size _ c ys (fun b u e => ?_) gB oB szB hc y1 ⟨y3, py.nodup_iff.mpr nd, fun z => py.mem_iff⟩ py.length_eq⟩
  have q := kB b u e
  have lt := Heap.lt_size q
  show (sortedHeap (sB.heap.push (seqObj "list" vs.toArray 0)) sB.heap.objs.size vs _).get? b = some u
  rw [sortedHeap_old (Nat.ne_of_lt lt) (by rw [size_push']; exact Nat.lt_succ_of_lt lt)]
  exact Heap.get?_push_of_some _ q
end
/-- the set of texts at a, tracked -/
def SetXO (P : Program) (w : World) (a : Addr) (l : List Str) : HO := .ext fun h => SetX P w h a l
section
variable {X : Cx}
theorem setXO_new {w : World} {P : Program} {H : Hp} {h : Heap} {a : Addr} {l : List Str} (R : SetX P w h a l) : ObjOk P w H h a (SetXO P w a l) := by
  have ⟨D, ho, _⟩ := R
  exact ⟨R, ⟨_, ho⟩, fun _ _ p k => SetX.at p k⟩
def rSetX (K : PySem.W.Frag) (P : Program) (w : World) : List V → Hp → VK → Prop := fun vs H Q => ∃ (p : Addr) (zs : List Str), vs = [.ref p] ∧ SqL K H p (zs.map V.str) ∧ zs.length ≤ 4000 ∧
  ∀ (a : Addr) (l : List Str), l.length ≤ zs.length → (∀ z, z ∈ l ↔ z ∈ zs) → H a = none → Q (.ref a) (upd H a (SetXO P w a l))
theorem cr_setX (hc : X.calm = true) : CallR X (.type "set") (rSetX X.K X.prog X.w) := by
  intro pk s τ H vs us Q I r h
  obtain ⟨p, zs, rfl, hp, hl, q⟩ := h
  rw [Vals.ref1 r]
  obtain ⟨its, rv, pl, _⟩ := I.list hp
  refine setX_call zs (I.ok.hd hc) pl.isList (by simpa using rv.strs) (by have : scanBound = 4096 := rfl; omega) fun hp' tk l X2 c2 z2 kk => ?_
  exact ⟨.ref _, upd H s.heap.objs.size (SetXO X.prog X.w s.heap.objs.size l), I.laid (t' := tk) kk (Nat.le_refl _) (setXO_new X2), rfl, q _ l c2 z2 (I.hok.fresh (Nat.le_refl _))⟩
def rSortX (P : Program) (w : World) : List V → Hp → VK → Prop := fun vs H Q => ∃ (a : Addr) (l : List Str), vs = [.ref a] ∧ H a = some (SetXO P w a l) ∧ l.length ≤ 4000 ∧
  ∀ (p : Addr) (ys : List Str), Srt l ys → ys.length = l.length → H p = none → Q (.ref p) (upd H p (.lst (ys.map V.str)))
theorem cr_sortX (hc : X.calm = true) : CallR X (.builtin "sorted") (rSortX X.prog X.w) := by
  intro pk s τ H vs us Q I r h
  obtain ⟨a, l, rfl, ha, hl, q⟩ := h
  have R : SetX X.prog X.w s.heap a l := (I.hok a _ ha).1
  rw [Vals.ref1 r]
  refine sortX R (I.ok.hd hc) (by have : scanBound = 4096 := rfl; omega) fun s' p out c ys k g o hp hg are so len => ?_
  have hlen : (ys.map V.str).length ≤ sizeLine := by rw [List.length_map, len, sizeLine_eq]; omega
  have hn : H p = none := I.hok.fresh hp
  have J : Inv X pk τ (upd H p (.lst (ys.map V.str))) { s with heap := s'.heap, gens := s'.gens, drawn := s'.drawn, toks := s'.toks } :=
    I.call (ch := []) (Un.laid k hp hn) (I.hok.laid k hp ⟨hlen, out.toList, c, vals_of_strs are, hg⟩) (by rw [g]; exact I.bare) (fun _ z => nomatch z)
  have e : s' = { s with heap := s'.heap, gens := s'.gens, drawn := s'.drawn, toks := s'.toks } := by
    cases s'
    cases s
    cases o
    rfl
  rw [e]
  exact ⟨.ref p, _, J, rfl, q p ys so len hn⟩
end
end Own

namespace Own
open PySem PySem.Spec PyProof.Rows L2 Evl
/-! ### sum(lists, []) -/
section
variable {P : Program} {w : World} {A : Around} {E : Value → Shared → Prop} {s : Shared}
/-- the lists ys at as -/
def LsAt (h : Heap) (as : List Addr) (xs : List (List Value)) : Prop := ∀ (j : Nat) (a : Addr), as[j]? = some a → ∃ (ys : List Value) (n : Nat), xs[j]? = some ys ∧ PySem.IsL h a ys.toArray n
theorem sumL_loop {it S : Addr} {fa wa : List Addr} {G : Array GenState → Array GenState → Prop} {n : Nat} {Pv : Nat → Value → Prop} {St : Nat → Shared → Prop} {R : Result → Shared → Prop}
    (W : WalksS P w A.in1 it fa wa G n Pv St) (hSf : S ∉ fa) (as : List Addr) (xs : List (List Value)) (hn : n = as.length) (hx : as.length = xs.length) (hv : ∀ i v, Pv i v → ∃ a, as[i]? = some a ∧ v = .ref a) (hz : xs.flatten.length ≤ sizeLine) (lowA : ∀ a ∈ as, a ≠ S ∧ a ∉ wa) (hex : ∀ i s, St i s → ∀ b ∈ wa, b < s.heap.objs.size) (e0 : Addr) (bs : Nat) (hbs : ∃ b ∈ wa, bs ≤ b) :
    ∀ (m i : Nat) (s : Shared) (acc : Addr) (c k : Nat), n - i = m → i ≤ n → St i s → s.heap.get? S = some { cls := .type "list", dict := none, data := .seq #[.ref acc] c, slots := #[] } → acc ≠ S → acc ∉ wa → (acc = e0 ∨ bs ≤ acc) →
      PySem.IsL s.heap acc (xs.take i).flatten.toArray k → LsAt s.heap as xs →
      (∀ s' p c', Moved (S :: wa) G s s' → PySem.IsL s'.heap p xs.flatten.toArray c' → (p = e0 ∨ bs ≤ p) → R (.ok (.ret (.ref p))) s') →
      codeAny (model P w) A (.builtin "sum.loop" ⟨[.ref it, .ref S, rawInt 2, rawInt 0], []⟩) R s := by
  have hSw : S ∉ wa := fun q => hSf (W.sub _ q)
  have more : ∀ b ∈ wa, b ∈ S :: wa := fun b q => List.mem_cons_of_mem _ q
  intro m
  induction m with
  | zero =>
    intro i s acc c k hm hi hst hS nS nw lo hacc hls hR
    have ei : i = n := by omega
    subst ei
    refine codeAny_builtin F.entry_sum_loop ?_
    rw [Around.under_plainId F.plain_sum_loop _]
    show wpAny _ A.in1 (seqItems? (.ref S) >>= _) _ _ s
    refine wpAny_bind (wpAny_seqItems hS rfl ?_)
    show wpAny _ A.in1 (tryCatch (pyNext (.ref it)) _ >>= _) _ _ s
    refine wpAny_bind (wpAny_tryCatch (W.done s _ _ hst fun s' mv => ?_))
    rw [List.take_of_length_le (by omega)] at hacc
    exact wpAny_pure (hR s' acc k (mv.mono more) (mv.heap acc _ nw hacc) lo)
  | succ m ih =>
    intro i s acc c k hm hi hst hS nS nw lo hacc hls hR
    have lt : i < n := by omega
    refine codeAny_builtin F.entry_sum_loop ?_
    rw [Around.under_plainId F.plain_sum_loop _]
    show wpAny _ A.in1 (seqItems? (.ref S) >>= _) _ _ s
    refine wpAny_bind (wpAny_seqItems hS rfl ?_)
    show wpAny _ A.in1 (tryCatch (pyNext (.ref it)) _ >>= _) _ _ s
    refine wpAny_bind (wpAny_tryCatch (W.item i s _ _ lt hst fun v s' pv hst' mv => ?_))
    obtain ⟨a, hai, rfl⟩ := hv i v pv
    obtain ⟨a1, a2⟩ := lowA a (List.mem_of_getElem? hai)
    obtain ⟨ys, ka, hys, hla⟩ := hls i a hai
    have hS' := mv.heap S _ hSw hS
    have hacc' := mv.heap acc _ nw hacc
    have hla' := mv.heap a _ a2 hla
    have tk : (xs.take (i + 1)).flatten = (xs.take i).flatten ++ ys := by
      rw [List.take_add_one, hys, List.flatten_append]
      show _ ++ (ys ++ []) = _
      rw [List.append_nil]
    have small : (xs.take i).flatten.length + ys.length ≤ sizeLine := by
      have q : (xs.take (i + 1)).flatten.length ≤ xs.flatten.length := by
        have z := congrArg (fun l => (List.flatten l).length) (List.take_append_drop (i + 1) xs)
        have z : ((xs.take (i + 1) ++ xs.drop (i + 1)).flatten).length = xs.flatten.length := z
        rw [List.flatten_append, List.length_append] at z
        omega
      rw [tk, List.length_append] at q
      omega
    show wpAny _ A.in1 ((holding [Value.ref a] (binaryOp .Add (.ref acc) (.ref a))).attempt >>= _) _ _ _
    refine wpAny_bind (wpAny_attempt (wpAny_holding (PySem.P.add_list hacc' hla' ?_ (by rw [List.size_toArray, List.size_toArray]; exact small))))
    generalize hnew : s'.heap.objs.size = p
    generalize hh2 : s'.heap.push { cls := .type "list", data := .seq ((xs.take i).flatten.toArray ++ ys.toArray) } = h2
    have k2 : ∀ b o, s'.heap.get? b = some o → h2.get? b = some o := fun b o e => by rw [← hh2]; exact Heap.get?_push_of_some _ e
    have hp2 : PySem.IsL h2 p (xs.take (i + 1)).flatten.toArray 0 := by
      rw [← hh2, ← hnew, tk]
      have e : (xs.take i).flatten.toArray ++ ys.toArray = ((xs.take i).flatten ++ ys).toArray := by simp
      rw [e]
      exact Heap.get?_push_size _ rfl
    have hS2 := k2 _ _ hS'
    have nSp : p ≠ S := by rw [← hnew]; exact Nat.ne_of_gt (Heap.lt_size hS')
    have npw : p ∉ wa := fun q => by
      have z := hex _ _ hst' p q
      rw [hnew] at z
      exact Nat.lt_irrefl _ z
    have lop : bs ≤ p := by
      obtain ⟨b, hb, hle⟩ := hbs
      have z := hex _ _ hst' b hb
      rw [hnew] at z
      exact Nat.le_of_lt (Nat.lt_of_le_of_lt hle z)
    show wpAny _ A.in1 (updateSeq S (fun _ => #[.ref p]) >>= _) _ _ _
    refine wpAny_bind (wpAny_updateSeq hS2 rfl ?_)
    have hS3 := Heap.get?_update_self (Obj.mapSeq fun _ => #[Value.ref p]) hS2 rfl
    refine wpAny_bind (wpAny_letGo ?_)
    have oth : ∀ b o, b ≠ S → h2.get? b = some o → ((h2.update S (Obj.mapSeq fun _ => #[Value.ref p])).update S (Obj.mapSeq fun _ => #[Value.ref p])).get? b = some o := fun b o nb e => (Heap.get?_update_other _ _ (Ne.symm nb)).trans ((Heap.get?_update_other _ _ (Ne.symm nb)).trans e)
    refine wpAny_bind (wpAny_updateSeq hS3 rfl (wpAny_pure ⟨plainId_quiet F.plain_sum_loop _, ih (i + 1) _ p _ 0 (by omega) lt (W.frame _ s' _ _ hst' (Nat.le_refl _) fun b hb o e => ?_) (Heap.get?_update_self _ hS3 rfl) nSp npw (.inr lop) (oth _ _ nSp hp2) (fun j b hj => ?_) fun s2 q c' mv2 X2 lo2 => ?_⟩))
    · exact oth b o (fun q : b = S => hSf (by rw [← q]; exact hb)) (k2 b o e)
    · obtain ⟨zs, kz, h1, h3⟩ := hls j b hj
      obtain ⟨b1, b2⟩ := lowA b (List.mem_of_getElem? hj)
      exact ⟨zs, kz, h1, oth b _ b1 (k2 _ _ (mv.heap b _ b2 h3))⟩
    · refine hR s2 q c' (Moved.trans W.gtrans ((mv.mono more).then_heap (Nat.le_refl _) fun b o hb e => ?_) mv2) X2 lo2
      exact oth b o (fun q : b = S => hb (by rw [q]; exact List.mem_cons_self)) (k2 b o e)
theorem sumL_call {l e0 : Addr} {as : List Addr} {xs : List (List Value)} {Q : Value → Shared → Prop} (hh : A.handled = none) (hl : s.heap.IsList l (as.map Value.ref).toArray) (he : PySem.IsL s.heap e0 #[] 0 ∨ ∃ k, PySem.IsL s.heap e0 #[] k) (hx : as.length = xs.length) (hls : LsAt s.heap as xs) (hz : xs.flatten.length ≤ sizeLine)
    (fin : ∀ h' tk p c, (∀ b o, s.heap.get? b = some o → h'.get? b = some o) → PySem.IsL h' p xs.flatten.toArray c → (p = e0 ∨ s.heap.objs.size ≤ p) → Q (.ref p) { s with heap := h', toks := tk }) : wpAny (model P w) A (call (.builtin "sum") [.ref l, .ref e0]) Q E s := by
  obtain ⟨ke, he⟩ : ∃ k, PySem.IsL s.heap e0 #[] k := he.elim (fun z => ⟨0, z⟩) id
  refine call_function_tree F.kind_sum F.plain_sum F.entry_sum (by unfold argsOk; kernel_rfl) ?_
  unfold Builtin.«sum»
  simp only [List.length_cons, List.length_nil]
  rw [if_neg (by decide)]
  refine wpAny_bind (wpAny_of_eq (show Builtin.Builtins.bindParams "sum" ["start"] 0 ⟨[.ref e0], []⟩ = pure [some (.ref e0)] from rfl) ?_)
  obtain ⟨⟨oc, od, oda, osl⟩, hol, hcl, nl, hdl⟩ := id hl
  have lt : l < s.heap.objs.size := Heap.lt_size hol
  refine wpAny_bind (wpAny_pyIter_list hl ?_)
  generalize hB : s.heap.push { cls := .type "list_iterator", data := .fields #[.ref l, .int 0 0] } = hpB
  have kB : ∀ b o, s.heap.get? b = some o → hpB.get? b = some o := fun b o e => by rw [← hB]; exact Heap.get?_push_of_some _ e
  have heB := kB _ _ he
  have tyB : Shared.TypeIs { s with heap := hpB } (.ref e0) "list" := ⟨_, heB, rfl⟩
  refine wpAny_bind (wpAny_pure ?_)
  simp only [List.forIn_cons, List.forIn_nil]
  refine wpAny_bind (wpAny_bind (wpAny_bind (wpAny_isInstance (T := "list") (b := false) tyB F.sub_list_str ?_)))
  simp only [Bool.false_eq_true, if_false]
  refine wpAny_pure (wpAny_bind (wpAny_bind (wpAny_isInstance (T := "list") (b := false) tyB F.sub_list_bytes ?_)))
  simp only [Bool.false_eq_true, if_false]
  refine wpAny_pure (wpAny_bind (wpAny_bind (wpAny_isInstance (T := "list") (b := false) tyB (by rw [isSubtype_type]; kernel_rfl) ?_)))
  simp only [Bool.false_eq_true, if_false]
  refine wpAny_pure (wpAny_pure ?_)
  refine wpAny_bind (wpAny_newObj_type ?_)
  have hI : hpB.get? s.heap.objs.size = some { cls := .type "list_iterator", data := .fields #[.ref l, .int 0 0] } := by rw [← hB]; exact Heap.get?_push_size _ rfl
  have szB : hpB.objs.size = s.heap.objs.size + 1 := by rw [← hB]; exact Heap.size_push ..
  have calm : A.in1.handled = none := by simp [hh]
  have neI : l ≠ s.heap.objs.size := Nat.ne_of_lt lt
  have W := (Walks.list (prog := P) (w := w) calm s.heap.objs.size l neI (as.map Value.ref).toArray).toS
  have nl0 : ∀ b o, s.heap.get? b = some o → b ≠ s.heap.objs.size ∧ b ≠ hpB.objs.size := fun b o e => by
    have z := Heap.lt_size e
    rw [szB]
    exact ⟨Nat.ne_of_lt z, Nat.ne_of_lt (Nat.lt_succ_of_lt z)⟩
  have st0 := W.frame 0 { s with heap := hpB } (hpB.push { cls := .type "list", data := .seq #[Value.ref e0] }) s.toks ⟨⟨_, hI, rfl, rfl⟩, ⟨_, kB _ _ hol, hcl, nl, hdl⟩⟩ (Nat.le_refl _) fun b _ o e => Heap.get?_push_of_some _ e
  refine wpAny_pure ⟨plainId_quiet F.plain_sum_loop _, sumL_loop W (S := hpB.objs.size) ?_ as xs (by simp) hx (fun i v hv => ?_) hz (fun a ha => ?_) (fun i s2 hst b hb => ?_) e0 s.heap.objs.size ⟨_, List.mem_singleton.mpr rfl, Nat.le_refl _⟩ (as.map Value.ref).toArray.size 0 _ e0 0 ke (by omega) (Nat.zero_le _) st0 (Heap.get?_push_size _ rfl) (nl0 _ _ he).2 ?_ (.inl rfl) (Heap.get?_push_of_some _ heB) (fun j a hj => ?_) (fun s' p c' mv X2 lo2 => ?_)⟩
  · rw [szB]
    simp only [List.mem_cons, List.not_mem_nil, or_false, not_or]
    exact ⟨Nat.ne_of_gt (Nat.lt_succ_self _), Nat.ne_of_gt (Nat.lt_succ_of_lt lt)⟩
  · have hv : (as.map Value.ref).toArray[i]? = some v := hv
    rw [List.getElem?_toArray, List.getElem?_map] at hv
    cases ha : as[i]? with
    | none => rw [ha] at hv; cases hv
    | some a => rw [ha] at hv; cases hv; exact ⟨a, rfl, rfl⟩
  · obtain ⟨j, hj⟩ := List.mem_iff_getElem?.mp ha
    obtain ⟨ys, n, _, hla⟩ := hls j a hj
    obtain ⟨z1, z2⟩ := nl0 _ _ hla
    exact ⟨z2, fun q => z1 (List.mem_singleton.mp q)⟩
  · obtain ⟨⟨o, ho, _⟩, _⟩ := hst
    rw [List.mem_singleton.mp hb]
    exact Heap.lt_size ho
  · exact fun q => (nl0 _ _ he).1 (List.mem_singleton.mp q)
  · obtain ⟨ys, n, h1, h2⟩ := hls j a hj
    exact ⟨ys, n, h1, Heap.get?_push_of_some _ (kB _ _ h2)⟩
  · obtain ⟨h', g2, d2, tk, o2⟩ := s'
    have eg : g2 = s.gens := mv.gens
    have ed : d2 = s.drawn := mv.drawn
    have eo : o2 = s.os := mv.os
    subst eg ed eo
    refine fin h' tk p c' (fun b o e => mv.heap b o ?_ (Heap.get?_push_of_some _ (kB _ _ e))) X2 lo2
    obtain ⟨z1, z2⟩ := nl0 _ _ e
    simp only [List.mem_cons, List.not_mem_nil, or_false, not_or]
    exact ⟨z2, z1⟩
end
section
variable {X : Cx}
theorem ls_of {pk : List (Addr × Obj)} {τ : L2.St} {H : Hp} {s : Shared} (I : Inv X pk τ H s) : ∀ {as : List Addr} {yss : List (List V)}, Paired (fun a ys => H a = some (.lst ys)) as yss → ∃ xs : List (List Value), as.length = xs.length ∧ LsAt s.heap as xs ∧ Vals yss.flatten xs.flatten
  | _, _, .nil => ⟨[], rfl, (by intro j a h; cases h), Paired.nil⟩
  | _, _, .cons (a := a) (b := ys) h t => by
    obtain ⟨xs, e1, e2, e3⟩ := ls_of I t
    obtain ⟨_, its, n, r, _, e⟩ := I.lstM h
    refine ⟨its :: xs, by rw [List.length_cons, List.length_cons, e1], fun j b hj => ?_, r.append e3⟩
    cases j with
    | zero => cases hj; exact ⟨its, n, rfl, e⟩
    | succ j => exact e2 j b hj
theorem refs_eq : ∀ {as : List Addr} {us : List Value}, Vals (as.map V.ref) us → us = as.map Value.ref
  | [], _, h => by cases h; rfl
  | a :: r, _, h => by
    cases h with
    | cons h t =>
      cases h
      rw [refs_eq t]
      rfl
def rSumL (K : PySem.W.Frag) : List V → Hp → VK → Prop := fun vs H Q => ∃ (l e0 : Addr) (as : List Addr) (yss : List (List V)), vs = [.ref l, .ref e0] ∧ SqL K H l (as.map V.ref) ∧ H e0 = some (.lst []) ∧ Paired (fun a ys => H a = some (.lst ys)) as yss ∧ yss.flatten.length ≤ sizeLine ∧
  ∀ p H', Ex H H' → H' p = some (.lst yss.flatten) → Q (.ref p) H'
theorem cr_sumL (hc : X.calm = true) : CallR X (.builtin "sum") (rSumL X.K) := by
  intro pk s τ H vs us Q I r h
  obtain ⟨l, e0, as, yss, rfl, hl, he, hp, hz, q⟩ := h
  cases r with
  | cons r1 r2 =>
    cases r2 with
    | cons r3 r4 =>
      cases r4
      cases r1
      cases r3
      obtain ⟨its, rv, pl, _⟩ := I.list hl
      obtain ⟨_, ie, ne, re, _, ee⟩ := I.lstM he
      cases re
      obtain ⟨xs, e1, e2, e3⟩ := ls_of I hp
      rw [refs_eq rv] at pl
      have hlen := e3.length
      refine sumL_call (I.ok.hd hc) pl.isList (.inr ⟨ne, ee⟩) e1 e2 (by omega) fun h' tk p c kk X2 lo => ?_
      rcases lo with rfl | lo
      · have z := kk _ _ ee
        have X2 : h'.get? p = some { cls := .type "list", dict := none, data := .seq xs.flatten.toArray c, slots := #[] } := X2
        rw [z] at X2
        have z2 : xs.flatten = [] := by
          have q2 := Option.some.inj X2
          injection q2 with _ _ q3 _
          injection q3 with q4 _
          have q5 := congrArg Array.toList q4
          simpa using q5.symm
        have z3 : yss.flatten = [] := by
          rw [z2] at e3
          cases hy : yss.flatten with
          | nil => rfl
          | cons _ _ => rw [hy] at e3; cases e3
        refine ⟨.ref p, H, I.kept (t' := tk) kk, rfl, q p H (Ex.refl _) ?_⟩
        rw [z3]
        exact he
      · have hn : H p = none := I.hok.fresh lo
        exact ⟨.ref p, upd H p (.lst yss.flatten), I.laid (t' := tk) kk lo ⟨hz, xs.flatten, c, e3, X2⟩, rfl, q p _ (Ex.new hn) upd_same⟩
end
end Own

namespace Own
open PySem PySem.Spec PyProof.Rows L2 Evl
/-! ### len of an object with an own __len__; pairs of the very same things -/
section
variable {X : Cx} {pk : List (Addr × Obj)} {τ : L2.St} {H : Hp} {s : Shared} {k j : Nat} {sp : Sp} {f C : Addr} {fd : FuncData} {ps : List Str} {Z : VK} {us : List Value} {vs : List V}
theorem run_fnG1 (F : FnG X.prog X.w X.K X.mg X.base k f fd ps sp) (hr : Room k X.A.in1) (hg : X.A.guards = some []) (hbd : Binds X.K fd ps [])
    (I : Inv X pk τ H s) (r : Vals vs us) (h : sp vs H Z E0) : wpAny (model X.prog X.w) X.A.in1 (call (.ref f) us) (EP X pk τ Z) X.xe s := by
  have hlen : us.length = ps.length := by rw [← r.length]; exact F.len _ _ _ _ h
  have e1 : us ++ [] = us := List.append_nil us
  refine wpAny_call (codeAny_mono (F.run X.A.in1 X.stack s H ⟨us, []⟩ us vs Z E0 hr hg I.env0.in1 (by have q := hbd s us I.kIn (by rw [e1]; exact hlen); rw [e1] at q; exact q) r h) fun r s' hsq => ?_)
  cases r with
  | error e => exact (show False from hsq).elim
  | ok fl =>
    cases fl with
    | ret u => exact I.after hsq
    | next => exact False.elim hsq
    | brk => exact False.elim hsq
    | cont => exact False.elim hsq
end
def rLenO (K : PySem.W.Frag) (C : Addr) (sp : Sp) : List V → Hp → VK → Prop := fun xs H Q => ∃ (a d : Addr) (fs : List (Str × V)), xs = [.ref a] ∧ H a = some (.ins C d fs) ∧ sp [.ref a] H (fun v H' => (∃ n : Nat, v = .int n ∧ n < 1000000) ∧ Q v H') E0
theorem callLenO {X : Cx} {k j : Nat} {C : Addr} {sp : Sp} (c : MetG X.prog X.w X.K X.mg X.base k C "__len__" sp) (hr : Room j X.A) (hg0 : X.A.guards = some []) (hkp : k + 1 ≤ j) : CallR X (.builtin "len") (rLenO X.K C sp) := by
  intro pins s σ H xs us Q I r hq
  obtain ⟨f, fd, ps, F, M, b⟩ := c.ex
  obtain ⟨a, d, fs, rfl, ha, q⟩ := hq
  rw [Vals.ref1 r]
  obtain ⟨mA, J, _⟩ := ins_get I.hok ha
  obtain ⟨od, J, _⟩ := J.look
  obtain ⟨m, hF⟩ := I.fr
  have hr1 : Room k X.A.in1 := (show Room (k + 1) X.A from hr.mono hkp).in1
  refine PySem.W.len_K hF I.ok.mod.kin J M.at_ M.fn ?_
  refine wpAny_mono (run_fnG1 (us := [.ref a]) (vs := [.ref a]) F hr1 hg0 b I (.cons rfl .nil) q) (fun w s' z => ?_) (fun _ _ e => e)
  obtain ⟨z, H', I', rz, ⟨n, en, hn⟩, q'⟩ := z
  subst en
  obtain ⟨t, rfl⟩ := rz
  exact ⟨⟨by omega, by omega⟩, .int n, H', I'.tok _, ⟨_, rfl⟩, q'⟩
/-- pairs whose first are one text, whose second one thing -/
def rEqP (K : PySem.W.Frag) : R2 := fun x y H Q => ∃ (a b : Addr) (xs : List V), x = .ref a ∧ y = .ref b ∧ SqT K H a xs ∧ SqT K H b xs ∧ xs.all plV = true ∧ Q (.bl true) H
theorem op_eqP {X : Cx} (hu : X.A.units + 64 < cLine) : OpR X (compareOp .Eq) (rEqP X.K) := by
  intro pk s τ H x y v u Q I rx ry h
  obtain ⟨a, b, xs, rfl, rfl, ha, hb, hpl, q⟩ := h
  cases rx
  cases ry
  obtain ⟨ua, ra, la, _⟩ := I.tuple ha
  obtain ⟨ub, rb, lb, _⟩ := I.tuple hb
  have hsz : ua.toArray.size = ub.toArray.size := by rw [List.size_toArray, List.size_toArray, ← ra.length, ← rb.length]
  refine PySem.W.eq_tuplesT (n := 0) (e := fun _ => true) la lb (fun j h1 h2 => ?_) (by omega) ⟨.bl true, H, I, ?_, q⟩
  · have hj : j < xs.length := by rw [ra.length]; simpa using h1
    obtain ⟨u1, e1, r1⟩ := ra.get (x := xs[j]) (List.getElem?_eq_getElem hj)
    obtain ⟨u2, e2, r2⟩ := rb.get (x := xs[j]) (List.getElem?_eq_getElem hj)
    have p1 : ua.toArray[j] = u1 := by
      have z : ua[j]? = some (ua.toArray[j]) := by simp
      rw [z] at e1
      exact Option.some.inj e1
    have p2 : ub.toArray[j] = u2 := by
      have z : ub[j]? = some (ub.toArray[j]) := by simp
      rw [z] at e2
      exact Option.some.inj e2
    rw [p1, p2]
    exact same_at (List.all_eq_true.mp hpl _ (List.getElem_mem hj)) r1 r2
  · show Value.bool _ = Value.bool true
    congr 1
    rw [hsz, beq_self_eq_true, Bool.and_true]
    exact List.all_eq_true.mpr fun _ _ => rfl
def rEqX (K : PySem.W.Frag) : R2 := fun x y H Z => rEqA K x y H Z ∨ rEqP K x y H Z
theorem opEqX {X : Cx} {k : Nat} (hr : Room k X.A) : OpR X (compareOp .Eq) (rEqX X.K) := OpR.or (opEq hr) (op_eqP hr.units)
end Own

namespace Own
open PySem PySem.Spec PyProof.Rows L2 Evl
/-! ### a tuple beside a dict; x in o by an own __contains__ -/
theorem tup_no_dict (l b : Addr) (items : Array Value) (n : Nat) (dd dd2 : Option Addr) (dt : Data) (sl sl2 : Array (Option Value)) :
    Meets (Builtin.«tuple.__eq__» ⟨[.ref l, .ref b], []⟩) (fun _ R s => s.heap.get? l = some { cls := .type "tuple", dict := dd, data := .seq items n, slots := sl } ∧ s.heap.get? b = some { cls := .type "dict", dict := dd2, data := dt, slots := sl2 } ∧ R (.ok (.ret .notImplemented)) s) :=
  .of_wp fun prog w A R s h => by obtain ⟨hp, g, d, tk, os⟩ := s; obtain ⟨hl, hb, h⟩ := h; have f1 := PySem.F.sub_dict_tuple; wp_walk using PySem.AutoSeq1.wpAny_loadPart' hl, PySem.AutoSeq1.wpAny_loadPart' hb; exact ⟨_, rfl, h⟩
theorem dict_no_tup (l b : Addr) (items : Array Value) (n : Nat) (dd dd2 : Option Addr) (dt : Data) (sl sl2 : Array (Option Value)) :
    Meets (Builtin.«dict.__eq__» ⟨[.ref b, .ref l], []⟩) (fun _ R s => s.heap.get? l = some { cls := .type "tuple", dict := dd, data := .seq items n, slots := sl } ∧ s.heap.get? b = some { cls := .type "dict", dict := dd2, data := dt, slots := sl2 } ∧ R (.ok (.ret .notImplemented)) s) :=
  .of_wp fun prog w A R s h => by obtain ⟨hp, g, d, tk, os⟩ := s; obtain ⟨hl, hb, h⟩ := h; have f1 := PySem.F.sub_tuple_dict; wp_walk using PySem.AutoSeq1.wpAny_loadPart' hl, PySem.AutoSeq1.wpAny_loadPart' hb; exact ⟨_, rfl, h⟩
section
variable {A : Around} {s : Shared}
theorem rc_tup_dict {l b : Addr} {items : Array Value} (hl : s.heap.IsTuple l items) (hb : s.TypeIs (.ref b) "dict") (hu : A.units < cLine) : PySem.SeqAt.RcAt A s (.ref l) (.ref b) false ∧ l ≠ b := by
  obtain ⟨⟨cls, dd, data, sl⟩, ho, hc, n, hd⟩ := id hl
  obtain ⟨⟨cls2, dd2, data2, sl2⟩, ho2, hc2⟩ := id hb
  simp only at hc hd hc2
  subst hc hd hc2
  have hne : l ≠ b := fun e => by
    rw [e, ho2] at ho
    have z := congrArg Obj.cls (Option.some.inj ho)
    simp at z
  refine ⟨fun prog w E Q h => ?_, hne⟩
  exact (PySem.SeqAt.rc_eq_decline_or (k := false) ⟨_, ho, rfl⟩ ⟨_, ho2, rfl⟩ (by decide) PySem.F.sub_dict_tuple PySem.F.slot_tuple_eq PySem.F.slot_dict_eq_refl
    (fun _ hq => call_meets PySem.F.slot_tuple_eq ⟨_, ho, rfl⟩ PySem.F.entry_tuple_eq (PySem.F.args_tuple_eq_2 _ _) (tup_no_dict l b items n dd dd2 data2 sl sl2) ⟨ho, ho2, hq⟩)
    (fun _ hq => call_meets PySem.F.slot_dict_eq_refl ⟨_, ho2, rfl⟩ PySem.F.entry_dict_eq (PySem.F.args_dict_eq_2 _ _) (dict_no_tup l b items n dd dd2 data2 sl sl2) ⟨ho, ho2, hq⟩)
    (fun _ hq => PySem.SeqAt.wpAny_isSame_ref_other' hne ho ho2 (by simp) hq) (.inr hu) h)
theorem eq_tup_dict {l b : Addr} {items : Array Value} (hl : s.heap.IsTuple l items) (hb : s.TypeIs (.ref b) "dict") (hu : A.units < cLine) : PySem.SeqAt.EqAt A s (.ref l) (.ref b) false := .of_refs (rc_tup_dict hl hb hu).2 (rc_tup_dict hl hb hu).1
end
theorem vals_mem : ∀ {xs : List V} {us : List Value} {u : Value}, Vals xs us → u ∈ us → ∃ x ∈ xs, RelV x u
  | _, _, _, .nil, h => by cases h
  | _, _, _, .cons r rs, h => by
    rcases List.mem_cons.mp h with rfl | h
    · exact ⟨_, List.mem_cons_self, r⟩
    · obtain ⟨x, hx, rx⟩ := vals_mem rs h
      exact ⟨x, List.mem_cons_of_mem _ hx, rx⟩
/-- a dict is in no list of tuples -/
def rInN (K : PySem.W.Frag) : R2 := fun x y H Q => ∃ (b L : Addr) (kvs : List (Key × V)) (us : List V), x = .ref b ∧ H b = some (.dK kvs) ∧ y = .ref L ∧ SqL K H L us ∧ (∀ u ∈ us, ∃ t xs, u = .ref t ∧ SqT K H t xs) ∧ Q (.bl false) H
theorem op_inN {X : Cx} (hu : X.A.units + 64 < cLine) : OpR X (compareOp .In) (rInN X.K) := by
  intro pk s τ H x y v u Q I rx ry h
  obtain ⟨b, L, kvs, us, rfl, hb, rfl, hL, hus, q⟩ := h
  cases rx
  cases ry
  obtain ⟨its, r, hl, _⟩ := I.list hL
  have hd : s.TypeIs (.ref b) "dict" := by
    obtain ⟨_, _, vs, _, dd⟩ := dk_rd I.hok (.inl hb)
    exact dd.typeIs
  refine PySem.SeqAt.in_listAt (fun _ => false) hl.isList (fun y hy => ?_) ⟨.bl false, H, I, ?_, q⟩
  · have hy : y ∈ its := by simpa using hy
    obtain ⟨u, hu1, ru⟩ := vals_mem r hy
    obtain ⟨t, xs, rfl, ht⟩ := hus u hu1
    cases ru
    obtain ⟨ts, _, tp, _⟩ := I.tuple ht
    exact eq_tup_dict tp hd (by show X.A.units + 1 < cLine; omega)
  · show Value.bool _ = Value.bool false
    congr 1
    simp
/-- x in o, by o's own __contains__ -/
def rInO (K : PySem.W.Frag) (C : Addr) (sp : Sp) : R2 := fun x y H Q => ∃ (a d : Addr) (fs : List (Str × V)), y = .ref a ∧ H a = some (.ins C d fs) ∧ sp [.ref a, x] H (fun v H' => (∃ b, v = .bl b) ∧ Q v H') E0
theorem op_inO {X : Cx} {k j : Nat} {C : Addr} {sp : Sp} (c : MetG X.prog X.w X.K X.mg X.base k C "__contains__" sp) (hr : Room j X.A) (hg0 : X.A.guards = some []) (hkp : k ≤ j) : OpR X (compareOp .In) (rInO X.K C sp) := by
  intro pins s σ H x y u v Q I rx ry hq
  obtain ⟨f, fd, ps, F, M, b⟩ := c.ex
  obtain ⟨a, d, fs, rfl, ha, q⟩ := hq
  cases ry
  obtain ⟨mA, J, _⟩ := ins_get I.hok ha
  obtain ⟨od, J, _⟩ := J.look
  obtain ⟨m, hF⟩ := I.fr
  refine PySem.W.in_K hF I.ok.mod.kin J M.at_ M.fn ?_
  refine wpAny_mono (run_fnG (us := [.ref a, u]) (vs := [.ref a, x]) F (hr.mono hkp) hg0 b I (.cons rfl (.cons rx .nil)) q) (fun w s' z => ?_) (fun _ _ e => e)
  obtain ⟨z, H', I', rz, ⟨bb, eb⟩, q'⟩ := z
  subst eb
  cases rz
  exact wpAny_truthy_bool ⟨.bl bb, H', I', rfl, q'⟩
end Own

namespace Own
open PySem PySem.Spec PyProof.Rows L2 Evl
/-! ### list(text); dict comprehensions over anything -/
theorem vals_by : ∀ {xs : List V} {us : List Value}, xs.length = us.length → (∀ (i : Nat) x u, xs[i]? = some x → us[i]? = some u → RelV x u) → Vals xs us
  | [], [], _, _ => .nil
  | [], _ :: _, h, _ => by cases h
  | _ :: _, [], h, _ => by cases h
  | x :: xs, u :: us, h, f => .cons (f 0 x u rfl rfl) (vals_by (Nat.succ.inj h) fun i x u h1 h2 => f (i + 1) x u h1 h2)
def rListTx : List V → Hp → VK → Prop := fun vs H Q => ∃ z : Str, vs = [.str z] ∧ z.length ≤ 100000 ∧ ∀ l, H l = none → Q (.ref l) (upd H l (.lst ((TL.tl z).map fun c => .str (sgn c))))
theorem call_listTx {X : Cx} (hc : X.calm = true) : CallR X (.type "list") rListTx := by
  intro pk s τ H vs us Q I r h
  obtain ⟨z, rfl, hz, q⟩ := h
  cases r with
  | cons rx rr =>
    cases rr
    obtain ⟨t, rfl⟩ := rx
    have hz' : z.cps.size ≤ sizeLine := by
      rw [sizeLine_eq]
      have : z.length = z.cps.size := rfl
      omega
    refine call_list_str (I.ok.hd hc) z t (fun h' tk acc c' kp e hi => ?_) hz'
    have hl : ((TL.tl z).map fun c => V.str (sgn c)).length = acc.toList.length := by
      rw [List.length_map, show (TL.tl z).length = z.cps.size from Array.length_toList, Array.length_toList]
      exact hi.1.symm
    have rv : Vals ((TL.tl z).map fun c => V.str (sgn c)) acc.toList := vals_by hl fun i x u hx hu => by
      rw [Array.getElem?_toList] at hu
      obtain ⟨c, w, h1, rfl⟩ := hi.2 i u hu
      rw [List.getElem?_map] at hx
      have h2 : (TL.tl z)[i]? = some c := by
        show z.cps.toList[i]? = some c
        rw [Array.getElem?_toList]
        exact h1
      rw [h2] at hx
      cases hx
      exact ⟨w, rfl⟩
    refine ⟨.ref s.heap.objs.size, _, I.laid (t' := tk) kp (Nat.le_refl _) (show ObjOk X.prog X.w _ h' _ (.lst ((TL.tl z).map fun c => V.str (sgn c))) from ⟨?_, acc.toList, c', rv, e⟩), rfl, q _ (I.hok.fresh (Nat.le_refl _))⟩
    rw [hl, Array.length_toList, hi.1]
    exact hz'
def rListA (K : PySem.W.Frag) : List V → Hp → VK → Prop := fun xs H Q => (∃ p ys, xs = [.ref p] ∧ (SqL K H p ys ∨ SqT K H p ys) ∧ ∀ l, H l = none → Q (.ref l) (upd H l (.lst ys))) ∨ rListTx xs H Q
theorem call_listA {X : Cx} (hc : X.calm = true) : CallR X (.type "list") (rListA X.K) := CallR.or call_list_of (call_listTx hc)
/-- what is left of a dict comprehension behind its source -/
def DcRest (g : TG) (tt : TT) (tk tv : TE) (vs : List Nat) (σ : L2.St) (Q : VK) : It → Hp → Prop := fun J H1 => tDc (fun _ _ R => R J H1) g tt tk tv vs σ H1 Q
def tDcO (wi : TI) (g : TG) (tt : TT) (tk tv : TE) (vs : List Nat) : TE := fun σ H Q => wi σ H (DcRest g tt tk tv vs σ Q)
theorem pe_dcO {X : Cx} {e : Expr} {wi : TI} {g : TG} {tt : TT} {tk tv : TE} {vs : List Nat} (h : PE X e (tDc wi g tt tk tv vs)) : PE X e (tDcO wi g tt tk tv vs) := h
/-- each turn puts one key -/
theorem dcG {J : It} {n : Nat} {G : Hp → Prop} {Y : Nat → Hp → V → Hp → Prop} (w : Walk J n G Y) {g : TG} {tt : TT} {tk tv : TE} {vs : List Nat} {σ : L2.St} {H1 : Hp} {Q : VK} (hn : n ≤ 40000) (hG0 : G H1) (hGm : ∀ H H', Ex H H' → G H → G H') (hY : ∀ i H x H', Y i H x H' → Ex H H')
    (Pa : Nat → List (Key × V) → Prop) (p0 : Pa 0 [])
    (hs : ∀ i x H H' kvs, i < n → Ex H1 H → Y i H x H' → Pa i kvs → ∀ (N : Key → V → Hp → Prop) (N0 : Hp → Prop), (∀ k z H4, Ex H' H4 → Pa (i + 1) (putK kvs k z) → N k z H4) → (∀ H3, Ex H' H3 → Pa (i + 1) kvs → N0 H3) →
      g x (wipe σ vs) H' fun σ2 H2 => wipe σ2 vs = wipe σ vs ∧ tt σ2 H2 fun b H3 => if b = true then tk σ2 H3 fun y H4 => tv σ2 H4 fun z H5 => ∃ k, y = kV k ∧ N k z H5 else N0 H3)
    (k : ∀ D H2 kvs, H1 D = none → Ex H1 H2 → H2 D = some (.dK kvs) → kvs.length ≤ n → Pa n kvs → Q (.ref D) H2)
    (mono : ∀ (σ2 : L2.St) (H : Hp) (Q Q' : VK), (∀ v H', Q v H' → Q' v H') → tk σ2 H Q → tk σ2 H Q') (monoV : ∀ (σ2 : L2.St) (H : Hp) (Q Q' : VK), (∀ v H', Q v H' → Q' v H') → tv σ2 H Q → tv σ2 H Q')
    (monoG : ∀ x (σ2 : L2.St) (H : Hp) (Q Q' : L2.St → Hp → Prop), (∀ v H', Q v H' → Q' v H') → g x σ2 H Q → g x σ2 H Q') (monoT : ∀ (σ2 : L2.St) (H : Hp) (Q Q' : Bool → Hp → Prop), (∀ v H', Q v H' → Q' v H') → tt σ2 H Q → tt σ2 H Q') :
    DcRest g tt tk tv vs σ Q J H1 := by
  intro D hD
  refine ⟨fun i m H => m = n - i ∧ i ≤ n ∧ ∃ kvs, Ex H1 H ∧ H D = some (.dK kvs) ∧ kvs.length ≤ i ∧ Pa i kvs, ⟨n, by omega, Nat.zero_le _, [], Ex.new hD, upd_same, Nat.zero_le _, p0⟩, ?_⟩
  rintro i m H ⟨rfl, hi, kvs, e, hd, hl, hp⟩
  have hG := hGm _ _ e hG0
  by_cases hlt : i < n
  · refine .inr ⟨w.goes i H hlt hG, fun H' => i + 1 ≤ n ∧ ∃ kvs, Ex H1 H' ∧ H' D = some (.dK kvs) ∧ kvs.length ≤ i + 1 ∧ Pa (i + 1) kvs, fun H' p' => ⟨n - (i + 1), by omega, rfl, p'.1, p'.2⟩, fun x H' y => ?_⟩
    have y' := w.yields i H x H' hlt hG y
    have e' := hY _ _ _ _ y'
    have hd' := e' _ _ hd
    refine monoG _ _ _ _ _ (fun σ2 H2 h2 => ⟨h2.1, monoT _ _ _ _ (fun b H3 h3 => ?_) h2.2⟩) (hs i x H H' kvs hlt e y' hp (fun k z H5 => ∃ kvs, H5 D = some (.dK kvs) ∧ kvs.length < sizeLine ∧ i + 1 ≤ n ∧ ∃ kvs', Ex H1 (upd H5 D (.dK (putK kvs k z))) ∧ upd H5 D (.dK (putK kvs k z)) D = some (.dK kvs') ∧ kvs'.length ≤ i + 1 ∧ Pa (i + 1) kvs') (fun H3 => i + 1 ≤ n ∧ ∃ kvs, Ex H1 H3 ∧ H3 D = some (.dK kvs) ∧ kvs.length ≤ i + 1 ∧ Pa (i + 1) kvs)
      (fun k z H4 e4 p4 => ⟨kvs, e4 _ _ hd', by rw [sizeLine_eq]; omega, hlt, _, Ex.mut ((e.trans e').trans e4) hD, upd_same, Nat.le_trans (length_putK _ _ _) (by omega), p4⟩) (fun H3 e3 p3 => ⟨hlt, kvs, (e.trans e').trans e3, e3 _ _ hd', by omega, p3⟩))
    cases b with
    | false => exact h3
    | true =>
      refine mono _ _ _ _ (fun y H4 h4 => monoV _ _ _ _ (fun z H5 h5 => ?_) h4) h3
      obtain ⟨k, rfl, kvs, c1, c2, c3⟩ := h5
      exact ⟨kvs, k, rfl, c1, c2, c3⟩
  · have e2 : i = n := by omega
    subst e2
    exact .inl ⟨w.stops H hG, k D H kvs hD e hd hl hp⟩
section
variable {X : Cx}
/-- a dict comprehension given to a name on its line -/
theorem ps_setDc {i : Nat} {y : Str} {w : Pos} {kx vx tg src : Expr} {tests : List Expr} {scp : Scope} {own : List (Str × Nat)} {at1 at2 : Pos} {wi : TI} {g : TG} {tt : TT} {tk tv : TE} (calm : X.calm = true) (nd : X.N.Nodup) (hy : X.N[i]? = some y) (loc : X.env.scope.names.lookup y = some .local)
    (sw : swapsWith (.DictComp kx vx [⟨tg, src, tests, 0⟩] scp at1) (some (.Name y w)) at2.line X.env = pure true) (hi : PI X tg src wi) (ok : BlkOk X.N X.env.scope scp own)
    (hg : ∀ (s : Shared) (H : Hp) (C : Addr) (cl : List (Str × Addr)) (fp : List Addr), PG (X.blk s H scp (compEnvC scp cl C X.env) fp) tg g)
    (ht : ∀ (s : Shared) (H : Hp) (C : Addr) (cl : List (Str × Addr)) (fp : List Addr), PTs (X.blk s H scp (compEnvC scp cl C X.env) fp) tests tt)
    (hk : ∀ (s : Shared) (H : Hp) (C : Addr) (cl : List (Str × Addr)) (fp : List Addr), PE (X.blk s H scp (compEnvC scp cl C X.env) fp) kx tk)
    (hv : ∀ (s : Shared) (H : Hp) (C : Addr) (cl : List (Str × Addr)) (fp : List Addr), PE (X.blk s H scp (compEnvC scp cl C X.env) fp) vx tv) (fold : ∀ x, foldedSetIterable src X.env x = pure x := by intro _; rfl) :
    PS X (.Assign [.Name y w] (.DictComp kx vx [⟨tg, src, tests, 0⟩] scp at1) at2) (tAsg (tDc wi g tt tk tv (own.map (·.2))) (gName i)) := by
  constructor
  intro pins s σ H D I h
  rw [exec_Assign_Name_used _ _ _ _ sw]
  apply wpAny_bind; apply wpAny_standAt; apply wpAny_bind
  show wpAny _ X.A (do let _ ← comprehension (.DictComp kx vx [⟨tg, src, tests, 0⟩] scp at1) scp X.env (firstIterPos [⟨tg, src, tests, 0⟩] at1) newDict false (eval src X.env) (some (assign (.Name y w) X.env))) _ _ s
  have h : tDc wi g tt tk tv (own.map (·.2)) σ H (fun x H1 => gName i x σ H1 D.nx) := h
  apply wpAny_bind
  refine thn (dc_core (Qf := fun _ s' => SP X pins D .next s') calm nd I hi ok hg ht hk hv fold h fun Dd C s' m H' J q ns fr => ?_) fun _ s' hq => wpAny_pure (wpAny_pure hq)
  show wpAny _ _ (assign (.Name y w) X.env (.ref Dd)) _ _ _
  apply wpAny_assign_Name
  refine store_ok2 (v := V.ref Dd) J nd hy (.inl loc) rfl (fun s2 J2 ⟨a, sb, ha⟩ => ?_) (.inr loc)
  obtain ⟨f0, f1, f2, f3, f4, f5⟩ := fr
  have ne : C ≠ a := ha.elim (fun z => z ▸ f1) fun z e => f4 y a z e.symm
  exact ⟨m, ns.sameBut sb ne, fun h3 sb3 => ⟨_, H', J2.turned (t' := s2.toks) (fun b o hb e => (sb3.2 b hb).trans e) f0 f1 f3 f4 f5, q⟩⟩
theorem ps_setDcO {st : Stmt} {wi : TI} {g k : TG} {tt : TT} {tk tv : TE} {vs : List Nat} (h : PS X st (tAsg (tDc wi g tt tk tv vs) k)) : PS X st (tAsg (tDcO wi g tt tk tv vs) k) := h
theorem sw_dict {kx vx : Expr} {gs : List Comprehension} {scp : Scope} {at1 w : Pos} {y : Str} {l : Nat} {env : Env} (fn : env.scope.kind = .function) (loc : env.scope.names.lookup y = some .local) (line : (w.line == at1.line) = true)
    (other : (scp.names.any fun (n, k) => n == y && (k == .local || k == .cell)) = false) : swapsWith (.DictComp kx vx gs scp at1) (some (.Name y w)) l env = pure true := by
  have k1 : env.kindOf y = some .local := loc
  have k2 : env.blockKind = .function := by unfold Env.blockKind; rw [fn]; rfl
  unfold swapsWith
  simp only [k2, k1, other, Expr.pos, line]
  rfl
end
/-- a text twice -/
def rMul2 : R2 := fun x y H Q => ∃ z : Str, x = .str z ∧ y = .int 2 ∧ z.length ≤ 100000 ∧ Q (.str (z ++ z)) H
theorem op_mul2 {X : Cx} : OpR X (binaryOp .Mult) rMul2 := by
  intro pk s τ H x y v u Q I rx ry h
  obtain ⟨z, rfl, rfl, hl, q⟩ := h
  obtain ⟨t, rfl⟩ := rx
  obtain ⟨t', rfl⟩ := ry
  refine PySem.P.mul_str (by decide) (fun _ h => ?_) (fun _ _ => ?_) ?_
  · rw [show (2 ^ 63 - 1 : Int) / 2 = 4611686018427387903 from by decide]
    omega
  · show decide (z.length * 2 > sizeLine) = false
    refine decide_eq_false ?_
    rw [sizeLine_eq]
    omega
  · rw [if_neg (by decide)]
    by_cases h0 : z.length = 0
    · have e : z ++ z = z := cs_ext (by
        have : cs z = [] := List.eq_nil_of_length_eq_zero (by rw [← cs_len]; exact h0)
        rw [cs_add, this]
        rfl)
      rw [e] at q
      rw [h0, if_pos (by rfl)]
      exact ⟨.str _, H, I, ⟨_, rfl⟩, q⟩
    · rw [if_neg (by
        rw [beq_eq_false_iff_ne.mpr h0]
        decide)]
      have e : (⟨(List.replicate (2 : Int).toNat z.cps).foldl (· ++ ·) #[]⟩ : Str) = z ++ z := cs_ext (by
        rw [cs_add]
        show ((#[] ++ z.cps) ++ z.cps : Array Nat).toList = z.cps.toList ++ z.cps.toList
        simp)
      rw [e]
      refine ⟨?_, .str _, H, I.tok _, ⟨_, rfl⟩, q⟩
      rw [cs_len, cs_add, List.length_append, ← cs_len, sizeLine_eq]
      omega
end Own

namespace Own
open PySem PySem.Spec PyProof.Rows L2 Evl
/-! ### a lambda handed to a def, where no container is being shown -/
/-- the lambda's body; what it raises has no context -/
abbrev lamC (X : Cx) (A : Around) (outer : List Env) (s : Shared) (H : Hp) (E : XK) (sc : Scope) (f c : Addr) : Cx :=
  (LamX.lamCx X A outer s H E sc f c).tr [] fun e s' => wpAny (model X.prog X.w) (A.deeper (LamX.lamEnv X sc s.heap.objs.size f c)) (leaving (LamX.lamEnv X sc s.heap.objs.size f c) e) (fun _ t => L2N.CX X.prog X.w outer H s E e t) (fun e' t => L2N.CX X.prog X.w outer H s E e' t) s'
section
variable {X : Cx} {pk : List (Addr × Obj)} {τ : L2.St} {H : Hp} {s : Shared}
/-- the frame of the def that got it -/
abbrev gotC (X : Cx) (N : List Str) (q : Str) (sc : Scope) (g : Addr) (cdg : Value) (s : Shared) (H : Hp) : Cx := cxOf CX0 X.prog X.w X.K X.mg X.base N q sc g cdg X.A X.stack s H E0
theorem pe_actG {N : List Str} {q : Str} {sg lsc : Scope} {g f c : Addr} {cdg pm ctv : Value} {params : Arguments} {body : Expr} {k i : Nat} {a : Str} {pn : List (Addr × Obj)} {xe : Value → Shared → Prop} {W : WX} {E : XK} {tb : TE} {p1 p2 : Pos}
    (I : Inv X pk τ H s) (L : LamX.LamS X.env.scope lsc) (at_ : s.heap.get? f = some (PySem.W.kla_obj "<lambda>" (X.env.qual ++ "<lambda>") params body lsc (cloFrom X.env.cells lsc.names []) pm c ctv)) (nf : H f = none) (nfr : f ∉ frs X.stack)
    (bnd : bindArgs (PySem.W.kla_fn "<lambda>" (X.env.qual ++ "<lambda>") params body lsc (cloFrom X.env.cells lsc.names []) pm (.ref c) ctv) ⟨[], []⟩ = pure [])
    (tk : L2N.Takes ((gotC X N q sg g cdg s H).tr pn xe) W) (le : ∀ cls d σ' H', E cls d H' → W cls d σ' H') (hr : Room (k + 1) (X.A.deeper (envOfC q sg s.heap.objs.size g cdg))) (hG : X.A.guards = some [])
    (hbody : ∀ (A : Around) (outer : List Env) (t : Shared) (G : Hp), Room k (A.deeper (LamX.lamEnv X lsc t.heap.objs.size f c)) → A.guards = some [] → PE (lamC X A outer t G E lsc f c) body tb)
    (hN : N[i]? = some a) (vis : Vis sg a) (d1 : (a == ("__debug__" : Str)) = false := by decide) (d2 : (a == ("__classdict__" : Str)) = false := by decide) :
    PE ((gotC X N q sg g cdg s H).tr pn xe) (.Call (.Name a p1) [] [] p2) (fun σZ HZ Q => σZ[i]? = some (some (.ref f)) ∧ HZ c = some (LamX.CodeO c (X.env.qual ++ "<lambda>")) ∧ tb τ HZ Q) := by
  constructor
  rintro pkZ sZ σZ HZ Q IZ ⟨hs, hc, ht⟩
  refine wpAny_Call_Name_kw (thn ((pe_var (pos := p1) (i := i) hN vis d1 d2).run pkZ sZ σZ HZ (fun v H1 => v = .ref f ∧ H1 = HZ) IZ ⟨.ref f, hs, rfl, rfl⟩) fun u t ⟨v, H1, I1, r1, ev, eH⟩ => ?_)
  subst ev eH
  obtain rfl : u = Value.ref f := r1
  have here := I1.base.keep f _ at_ nf nfr fun z => nomatch (show f ∈ ([] : List Addr) from z)
  refine PySem.W.callWith_F0 ⟨_, _, _, _, here⟩ ?_
  obtain ⟨⟨oc, vs, tkn, hoc, hdc, hvc⟩, _, _⟩ := I1.hok c _ hc
  have run : codeAny (model X.prog X.w) (X.A.deeper (envOfC q sg s.heap.objs.size g cdg)) (.call (.ref f) ⟨[], []⟩) (CR (L2N.CX X.prog X.w) (envOfC q sg s.heap.objs.size g cdg :: X.stack) X.prog X.w H1 t Q E) t := by
    refine PySem.W.kla_callFunE hr.depth here rfl L.co L.gen rfl ⟨c, oc, vs, tkn, rfl, hoc, hdc, hvc⟩ ?_
    rw [bnd]
    refine wpAny_pure (wpAny_newFunctionEnv (fun y hy => (L.own y hy).2) (fun y hy => absurd hy (by simp)) (fun h1 hns sb => ⟨I1.nolimit.fresh _ sb, ?_⟩) L.kind)
    show codeAny _ _ (.expr body (LamX.lamEnv X lsc t.heap.objs.size f c)) _ _
    have J := LamX.lam_start2 (A := X.A.deeper (envOfC q sg s.heap.objs.size g cdg)) (outer := envOfC q sg s.heap.objs.size g cdg :: X.stack) (E := E) (f := f) (c' := c) (tk := t.toks + ([] : List (Str × Value)).length) I L I1.env0 hr.hd I1.base hns fun b o e => sb.extBut b o (Nat.ne_of_lt (Heap.lt_size e)) (Heap.get?_push_of_some _ e)
    have J2 := J.toTry fun e s' => wpAny (model X.prog X.w) ((X.A.deeper (envOfC q sg s.heap.objs.size g cdg)).deeper (LamX.lamEnv X lsc t.heap.objs.size f c)) (leaving (LamX.lamEnv X lsc t.heap.objs.size f c) e) (fun _ t' => L2N.CX X.prog X.w (envOfC q sg s.heap.objs.size g cdg :: X.stack) H1 t E e t') (fun e' t' => L2N.CX X.prog X.w (envOfC q sg s.heap.objs.size g cdg :: X.stack) H1 t E e' t') s'
    refine PySem.W.kla_codeExpr (wpAny_mono ((hbody _ _ t H1 (hr.deeper _) hG).run [] _ _ H1 Q J2 ht) (fun v s' hq => ?_) fun e s' hq => hq)
    obtain ⟨w', H', J', rv, qq⟩ := hq
    exact ⟨w', H', J'.os, J'.bare, J'.base, J'.hok, rv, qq⟩
  have hx := L2N.passes_call tk le
  refine wpAny_call (codeAny_mono run fun r s' hq => ?_)
  cases r with
  | error e => exact hx pkZ σZ H1 t e s' I1 hq
  | ok fl =>
    cases fl with
    | ret u => exact I1.after hq
    | next => exact False.elim hq
    | brk => exact False.elim hq
    | cont => exact False.elim hq
/-- a def that calls what it is given: TT is what it makes of that -/
structure GivesG (P : Program) (w : World) (K : PySem.W.Frag) (mg : Str → Option Value) (base : Heap) (k : Nat) (N : List Str) (x : Str) (sg : Scope) (g : Addr) (cdg : Value) (bg : List Stmt) (a q : Str) (TT : (XK → Hp → VK → Prop) → Hp → VK → Prop) : Prop where
  run : ∀ (A : Around) (outer : List Env) (f c : Addr) (s : Shared) (H : Hp) (Q : VK) (tl : XK → Hp → VK → Prop), Room k (A.deeper (envOfC x sg s.heap.objs.size g cdg)) → A.guards = some [] →
    (∀ (W : WX) (pn : List (Addr × Obj)) (xe : Value → Shared → Prop) (E : XK) (p1 p2 : Pos), L2N.Takes ((cxOf CX0 P w K mg base N x sg g cdg A outer s H E0).tr pn xe) W → (∀ cls d σ' H', E cls d H' → W cls d σ' H') →
      PE ((cxOf CX0 P w K mg base N x sg g cdg A outer s H E0).tr pn xe) (.Call (.Name a p1) [] [] p2) (fun σZ HZ Q => σZ[0]? = some (some (.ref f)) ∧ HZ c = some (LamX.CodeO c q) ∧ tl E HZ Q)) →
    H c = some (LamX.CodeO c q) → TT tl H Q →
    ∃ t, PSs (cxOf CX0 P w K mg base N x sg g cdg A outer s H E0).nox bg t ∧ t { nx := fun _ H' => Q .non H', rt := Q } (L2.start N [.ref f]) H
/-- x(lambda: body) -/
theorem pe_lamG {T : List (Addr × Str)} {TT : (XK → Hp → VK → Prop) → Hp → VK → Prop} {x a : Str} {g c P : Addr} {k : Nat} {pg : Arguments} {bg : List Stmt} {sg : Scope} {dV kV doc pm cdv ct oc : Value} {an od : Option Addr} {osl : Array (Option Value)} {N : List Str}
    {params : Arguments} {body : Expr} {lsc : Scope} {t : XK → TE} {p lpos pos : Pos} (hg : Gl X x) (hm : X.mg x = some (.ref g)) (hk : PySem.W.keepIn X.K (.ref g) = true)
    (lk : X.K.lookup g = some ⟨oc, od, .func (PySem.W.fnOf x x pg bg sg dV kV doc pm an cdv ct), osl⟩) (hcg : PySem.W.codeIn X.K cdv x = true) (hb : Binds X.K (PySem.W.fnOf x x pg bg sg dV kV doc pm an cdv ct) [a] []) (Sg : FnScope N [a] sg) (hN : N[0]? = some a) (va : Vis sg a)
    (give : GivesG X.prog X.w X.K X.mg X.base (k + 1) N x sg g cdv bg a (X.env.qual ++ "<lambda>") TT) (TB : LamX.TabB X.base X.mg c P) (hcode : X.env.code = .ref c) (inT : (P, X.env.qual ++ "<lambda>") ∈ T) (one : ∀ z ∈ T, z.1 = P → z.2 = X.env.qual ++ "<lambda>")
    (hr : Room (k + 2) X.A) (hG : X.A.guards = some []) (L : LamX.LamS X.env.scope lsc) (nodf : defaultsOf params X.env = ([], []))
    (bnd : ∀ (q : Str) (cl : List (Str × Addr)) (pm cv ctv : Value), bindArgs (PySem.W.kla_fn "<lambda>" q params body lsc cl pm cv ctv) ⟨[], []⟩ = pure [])
    (hbody : ∀ (A : Around) (outer : List Env) (s : Shared) (H : Hp) (E : XK) (f c : Addr), Room k (A.deeper (LamX.lamEnv X lsc s.heap.objs.size f c)) → A.guards = some [] → PE (lamC X A outer s H E lsc f c) body (t E))
    (d0 : (x == ("__debug__" : Str)) = false := by decide) (d1 : (a == ("__debug__" : Str)) = false := by decide) (d2 : (a == ("__classdict__" : Str)) = false := by decide) :
    PE X (.Call (.Name x p) [.Lambda params body lsc lpos] [] pos) (LamX.tLam T TT t) := by
  constructor
  rintro pk s τ H Q I ⟨hT, h⟩
  refine wpAny_Call_Name_kw (ld_glob I hg hm ?_ d0)
  refine PySem.W.callWith_K (h₀ := X.base) I.ok.mod.kin hk ?_ (by rfl) (by rfl)
  show wpAny _ _ (spliced ((false, eval (.Lambda params body lsc lpos) X.env) :: backTo pos (starEach [] X.env))) _ _ s
  refine Calls.spliced_cons (LamX.lam_make2 I TB hcode inT one hT nodf (L.has I.ok) fun f c' pm' ctv H1 t' I1 eN T1 hf hfn hfr hco => ?_)
  refine Calls.spliced_nil ⟨I1.kIn, ?_⟩
  have run : codeAny (model X.prog X.w) X.A (.call (.ref g) ⟨[.ref f], []⟩) (CR CX0 X.stack X.prog X.w H1 t' Q E0) t' := by
    refine LamX.run_ofS (N := N) (ps := [a]) (us := [.ref f]) (vs := [.ref f]) lk hcg Sg hr I1.env0 (hb t' [.ref f] I1.kIn rfl) (.cons rfl .nil) rfl fun hr' => ?_
    obtain ⟨u, hu, q⟩ := give.run X.A X.stack f c' t' H1 Q (fun E H' Q' => t E τ H' Q') hr' hG (fun W pn xe E p1 p2 tk le => pe_actG (i := 0) I1 L hf hfn hfr (bnd _ _ _ _ _) tk le hr' hG (fun A outer s H hr2 hg2 => hbody A outer s H E f c' hr2 hg2) hN va d1 d2) hco (h H1 eN T1)
    exact ⟨u, hu.nox, q⟩
  refine wpAny_call (codeAny_mono run fun r s2 hq => ?_)
  cases r with
  | error e => exact (show False from hq).elim
  | ok fl =>
    cases fl with
    | ret u => exact I1.after hq
    | next => exact False.elim hq
    | brk => exact False.elim hq
    | cont => exact False.elim hq
end
end Own

namespace Own
open PySem PySem.Spec PyProof.Rows L2 Evl
def top (i : Nat) : Stmt := PySem.Challenge.pw_scriptpicks_k34_scripts_changed.main.body.getD i (.Pass ⟨0, 0, 0, 0⟩)
/-- all but b stands -/
def ExB (b : Addr) (H H' : Hp) : Prop := ∀ a o, a ≠ b → H a = some o → H' a = some o
theorem ExB.refl (b : Addr) (H : Hp) : ExB b H H := fun _ _ _ h => h
theorem ExB.set {b : Addr} {H H' : Hp} {o : HO} (e : ExB b H H') : ExB b H (upd H' b o) := fun a u n h => by
  rw [upd_ne n]
  exact e a u n h
theorem ExB.new {b p : Addr} {H H' : Hp} {o : HO} (e : ExB b H H') (hp : H' p = none) : ExB b H (upd H' p o) := fun a u n h => by
  have q := e a u n h
  rw [upd_ne (ne_of_none q hp)]
  exact q
theorem ints_ne4 {ns : List Int} {i j k : Int} {c : Addr} (z : HO.lst (ns.map V.int) = .lst [.int i, .int j, .int k, .ref c]) : False := by
  have z2 : ns.map V.int = [.int i, .int j, .int k, .ref c] := by injection z
  match ns, z2 with
  | [], z2 => cases z2
  | [_], z2 => cases z2
  | [_, _], z2 => cases z2
  | [_, _, _], z2 => cases z2
  | _ :: _ :: _ :: _ :: _, z2 =>
    simp only [List.map_cons] at z2
    injection z2 with _ z2
    injection z2 with _ z2
    injection z2 with _ z2
    injection z2 with z2 _
    cases z2
theorem first_int (ns : List Int) (lo hi : Option Int) : ∃ z, atI (cutV (ns.map V.int) lo hi ++ [V.int 0]) 0 = some (V.int z) := by
  unfold cutV
  rw [← List.map_drop, ← List.map_take]
  generalize (List.take _ (List.drop _ ns)) = l
  cases l with
  | nil => exact ⟨0, rfl⟩
  | cons a r => exact ⟨a, atI_nat (j := 0) rfl⟩
theorem genB {H H3 H4 : Hp} {b : Addr} {o : HO} (hq : upd H3 b o = H4) (e : ExB b H H3) : ExB b H H4 ∧ H4 b = some o := by
  subst hq
  exact ⟨e.set, upd_same⟩
structure Txt0 (mg : Str → Option Value) : Prop where
  abs : mg "abs" = none
  int : mg "int" = none
  len : mg "len" = none
  tuple : mg "tuple" = none
  list : mg "list" = none
  all : mg "all" = none
  any : mg "any" = none
  zip : mg "zip" = none
  range : mg "range" = none
  repr : mg "repr" = none
  dict : mg "dict" = none
abbrev s_l_bag : Stmt := top 39
theorem sc_l_bag : FnScope ["_law_script", "_law_cell"] ["_law_script"] (defScope s_l_bag) := ⟨rfl, rfl, rfl, by decide +kernel, rfl, by decide +kernel, by decide +kernel⟩
abbrev s_l_take : Stmt := top 40
theorem sc_l_take : FnScope ["_law_bag_here", "_law_many", "_law_cell", "_law_mixed", "_law_value", "_law_begin", "_law_second"] ["_law_bag_here", "_law_many"] (defScope s_l_take) := ⟨rfl, rfl, rfl, by decide +kernel, rfl, by decide +kernel, by decide +kernel⟩
abbrev s_l_some : Stmt := top 42
theorem sc_l_some : FnScope ["_law_bag_here", "_law_things"] ["_law_bag_here", "_law_things"] (defScope s_l_some) := ⟨rfl, rfl, rfl, by decide +kernel, rfl, by decide +kernel, by decide +kernel⟩
section
variable {P : Program} {w : World} {K : PySem.W.Frag} {mg : Str → Option Value} {base : Heap}
/-- the bag as a list -/
def spTakeL : Sp := fun vs H Q _ => ∃ (b c : Addr) (m i j k : Int) (ns : List Int), vs = [.ref b, .int m] ∧ H b = some (.lst [.int i, .int j, .int k, .ref c]) ∧ H c = some (.lst (ns.map V.int)) ∧ ns.length ≤ 63 ∧ 0 < m ∧ m < 1000000000 ∧
  ∀ (H' : Hp) (r i' j' k' : Int), 0 ≤ r → r < m → ExB b H H' → H' b = some (.lst [.int i', .int j', .int k', .ref c]) → Q (.int r) H'
theorem ok_takeL (T : Txt0 mg) (D : Df K mg "_law_take" s_l_take) : CalG P w K mg base 1 "_law_take" spTakeL := by
  refine cal_mk D sc_l_take (fun _ _ _ _ _ _ us hl => match us, hl with | [_, _], _ => rfl) (fun vs H Q E h => ?_) (fun f cdv A outer s H vs Q E hr hG h => ?_)
  · obtain ⟨b, c, m, i, j, k, ns, rfl, _⟩ := h
    rfl
  · obtain ⟨b, c, m, i, j, k, ns, rfl, hb, hc, h63, hm, hm9, q⟩ := h
    have nbc : c ≠ b := ne_of hc hb (fun z => ints_ne4 z)
    refine ⟨_, (Evl.pss_cut (ps_if (pt_cmpR (opEq hr) (pe_ix ixAny (pv 0) pe_int (fun _ _ => rfl)) pe_int (nomark _)) (pss_cons (ps_set (i := 2) sc_l_take.nd rfl (Or.inl rfl) (pe_ix ixAny (pe_op opAdd (pe_slice slAny (pe_ix ixAny (pv 0) pe_int (fun _ _ => rfl)) (po_some (pe_ix ixAny (pv 0) pe_int (fun _ _ => rfl))) po_none) (pe_lst (pa_cons pe_int pa_nil))) pe_int (fun _ _ => rfl)))
      (pss_cons (ps_augS (pv 0) pe_int pgetL pe_int ip_add set_list)
      (Evl.pss_cut (ps_if (pt_cmpR opGe (pv 2) pe_int (nomark _)) (pss_one (ps_asg (pv 2) (pg_sub (pv 0) pe_int set_list))) pss_nil)
      (pss_cons (ps_set (i := 3) sc_l_take.nd rfl (Or.inl rfl) (pe_op opAdd (pe_op opAdd (pe_op opMul (pe_ix ixAny (pv 0) pe_int (fun _ _ => rfl)) pe_int) (pe_op op_mod (pe_callTy call_int1 (by rfl) T.int (by decide +kernel) (pa_cons (pv 2) pa_nil)) pe_int)) (pe_op opMul pe_int (pe_ix ixAny (pv 0) pe_int (fun _ _ => rfl)))))
      (pss_one (ps_asg (pe_op op_mod (pe_callTy call_int1 (by rfl) T.int (by decide +kernel) (pa_cons (pv 3) pa_nil)) pe_int) (pg_sub (pv 0) pe_int set_list))))))) pss_nil)
      (pss_cons (ps_if (pt_cmpR opGt (pe_ix ixAny (pv 0) pe_int (fun _ _ => rfl)) pe_int (nomark _)) (pss_cons (ps_set (i := 4) sc_l_take.nd rfl (Or.inl rfl) (pe_op op_mod (pe_callTy call_int1 (by rfl) T.int (by decide +kernel) (pa_cons (pe_ix ixAny (pv 0) pe_int (fun _ _ => rfl)) pa_nil)) (pv 1)))
      (pss_cons (ps_asg (pe_op op_fdivW (pe_ix ixAny (pv 0) pe_int (fun _ _ => rfl)) (pv 1)) (pg_sub (pv 0) pe_int set_list))
      (pss_one (ps_ret (pv 4))))) pss_nil)
      (pss_cons (ps_set (i := 5) sc_l_take.nd rfl (Or.inl rfl) (pe_op op_mod (pe_callTy call_int1 (by rfl) T.int (by decide +kernel) (pa_cons (pe_op opMul (pe_op opAdd (pe_ix ixAny (pv 0) pe_int (fun _ _ => rfl)) pe_int) pe_int) pa_nil)) pe_int))
      (pss_cons (ps_set (i := 6) sc_l_take.nd rfl (Or.inl rfl) (pe_op op_mod (pe_callTy call_int1 (by rfl) T.int (by decide +kernel) (pa_cons (pe_op opMul (pe_op op_mod (pe_callTy call_int1 (by rfl) T.int (by decide +kernel) (pa_cons (pe_op opMul (pv 5) (pv 5)) pa_nil)) pe_int) pe_int) pa_nil)) pe_int))
      (pss_one (ps_ret (pe_op op_mod (pe_callTy call_int1 (by rfl) T.int (by decide +kernel) (pa_cons (pe_op op_fdivW (pv 6) pe_int) pa_nil)) (pv 1)))))))), ?_⟩
    refine ⟨fun σ' H' => ∃ (i j k : Int) (x2 x3 : Option V), σ' = [some (.ref b), some (.int m), x2, x3, none, none, none] ∧ ExB b H H' ∧ H' b = some (.lst [.int i, .int j, .int k, .ref c]), ?_, ?_⟩
    · refine ⟨_, rfl, .inl ⟨b, _, 0, _, rfl, rfl, sq_of hb, rfl, .inl ⟨rfl, _, rfl, ?_⟩⟩⟩
      refine ite2 (fun _ => ?_) (fun _ => ⟨i, j, k, none, none, rfl, ExB.refl b H, hb⟩)
      -- cell = (bag[3][bag[2]:] + [0])[0]
      refine ⟨_, rfl, .inl ⟨b, _, 3, _, rfl, rfl, sq_of hb, rfl, ⟨_, rfl, .inl ⟨b, _, 2, _, rfl, rfl, sq_of hb, rfl, k, rfl, .inl ⟨c, _, rfl, sq_of hc, fun p hp => ?_⟩⟩⟩⟩⟩
      refine ⟨by show 1 ≤ sizeLine; decide, fun p2 hp2 => .inr (.inr (.inl ⟨p, p2, _, _, rfl, rfl, up_old hp2 upd_same, upd_same, ?_, fun p3 hp3 => ?_⟩))⟩
      · refine sz_of ?_
        have q1 := cutV_length (ns.map V.int) (some k) none
        rw [List.length_map] at q1
        show _ + 1 ≤ 100000
        omega
      obtain ⟨z, hz⟩ := first_int ns (some k) none
      refine .inl ⟨p3, _, 0, _, rfl, rfl, sq_of upd_same, hz, ?_⟩
      have e3 := (((ExB.refl b H).new (o := .lst (cutV (ns.map V.int) (some k) none)) hp).new (o := .lst [V.int 0]) hp2).new (o := .lst (cutV (ns.map V.int) (some k) none ++ [V.int 0])) hp3
      have hb3 := up_old (o := .lst (cutV (ns.map V.int) (some k) none ++ [V.int 0])) hp3 (up_old (o := .lst [V.int 0]) hp2 (up_old (o := .lst (cutV (ns.map V.int) (some k) none)) hp hb))
      generalize upd (upd (upd H p _) p2 _) p3 _ = H3 at e3 hb3 ⊢
      -- bag[2] += 1
      refine ⟨_, rfl, b, _, 2, _, rfl, rfl, sq_of hb3, rfl, k, 1, rfl, rfl, b, _, 2, 2, rfl, rfl, hb3, rfl, ?_⟩
      generalize hq4 : upd H3 b _ = H4
      obtain ⟨e4, hb4⟩ := genB hq4 e3
      -- if cell >= ..: bag[0] = cell
      refine ⟨fun σ' H' => ∃ (i : Int), σ' = [some (.ref b), some (.int m), some (.int z), none, none, none, none] ∧ ExB b H H' ∧ H' b = some (.lst [.int i, .int j, .int (k + 1), .ref c]), ?_, ?_⟩
      · refine ⟨_, rfl, z, _, rfl, rfl, _, rfl, ?_⟩
        refine ite2 (fun _ => ?_) (fun _ => ⟨i, rfl, e4, hb4⟩)
        exact ⟨_, rfl, _, rfl, b, _, 0, 0, rfl, rfl, hb4, rfl, z, rfl, e4.set, upd_same⟩
      · rintro σ5 H5 ⟨i5, rfl, e5, hb5⟩
        -- mixed
        refine ⟨_, rfl, .inl ⟨b, _, 1, _, rfl, rfl, sq_of hb5, rfl, .inl ⟨j, 48271, rfl, rfl, .inr (by decide), ?_⟩⟩⟩
        refine ⟨_, rfl, .inl ⟨z, rfl, ?_⟩⟩
        refine ⟨_, _, rfl, rfl, (show (0 : Int) < 2147483647 by decide), .inl ⟨_, _, rfl, rfl, ?_⟩⟩
        refine ⟨_, rfl, .inl ⟨b, _, 2, _, rfl, rfl, sq_of hb5, rfl, .inl ⟨7919, _, rfl, rfl, .inl (by decide), .inl ⟨_, _, rfl, rfl, ?_⟩⟩⟩⟩
        refine ⟨_, rfl, .inl ⟨_, rfl, ?_⟩⟩
        refine ⟨_, _, rfl, rfl, (show (0 : Int) < 2147483647 by decide), _, rfl, b, _, 1, 1, rfl, rfl, hb5, rfl, ?_⟩
        exact ⟨i5, _, k + 1, _, _, rfl, e5.set, upd_same⟩
    · rintro σ' H' ⟨i, j, k, x2, x3, rfl, e, hb⟩
      refine ⟨_, rfl, .inl ⟨b, _, 0, _, rfl, rfl, sq_of hb, rfl, i, 0, rfl, rfl, _, rfl, ?_⟩⟩
      refine ite2 (fun _ => ?_) (fun _ => ?_)
      · refine ⟨_, rfl, .inl ⟨b, _, 0, _, rfl, rfl, sq_of hb, rfl, .inl ⟨_, rfl, ?_⟩⟩⟩
        refine ⟨_, rfl, _, _, rfl, rfl, hm, ?_⟩
        refine ⟨_, rfl, .inl ⟨b, _, 0, _, rfl, rfl, sq_of hb, rfl, ?_⟩⟩
        refine ⟨_, rfl, _, _, rfl, rfl, wide_div hm (b := 30) (by omega) (by decide) (by decide), ?_⟩
        refine ⟨_, rfl, b, _, 0, 0, rfl, rfl, hb, rfl, ?_⟩
        exact ⟨_, rfl, q _ _ _ _ _ (Int.emod_nonneg _ (by omega)) (Int.emod_lt_of_pos _ hm) e.set upd_same⟩
      · refine ⟨_, rfl, .inl ⟨b, _, 1, _, rfl, rfl, sq_of hb, rfl, .inl ⟨j, 1, rfl, rfl, .inl ⟨_, 39373, rfl, rfl, .inr (by decide), .inl ⟨_, rfl, ?_⟩⟩⟩⟩⟩
        refine ⟨_, _, rfl, rfl, (show (0 : Int) < 1000000007 by decide), ?_⟩
        have h0 : 0 ≤ (j + 1) * 39373 % 1000000007 := Int.emod_nonneg _ (by decide)
        have h1 : (j + 1) * 39373 % 1000000007 < 1000000007 := Int.emod_lt_of_pos _ (by decide)
        refine ⟨_, rfl, _, rfl, .inl ⟨_, _, rfl, rfl, .inl ⟨Int.lt_of_lt_of_le (by decide) h0, Int.lt_trans h1 (by decide)⟩, .inl ⟨_, rfl, ?_⟩⟩⟩
        refine ⟨_, _, rfl, rfl, (show (0 : Int) < 998244353 by decide), .inl ⟨_, 30011, rfl, rfl, .inr (by decide), .inl ⟨_, rfl, ?_⟩⟩⟩
        refine ⟨_, _, rfl, rfl, (show (0 : Int) < 998244353 by decide), ?_⟩
        refine ⟨_, rfl, _, _, rfl, rfl, wide_div (b := 30) (by decide) (by decide) (by decide) (by decide), .inl ⟨_, rfl, ?_⟩⟩
        exact ⟨_, rfl, _, _, rfl, rfl, hm, q _ _ _ _ _ (Int.emod_nonneg _ (by omega)) (Int.emod_lt_of_pos _ hm) e hb⟩
end
/-- the bag, its numbers left open -/
def bagF (b c : Addr) (h : Heap) : Prop := ∃ (i j k : Int) (t u v : Tok) (n : Nat), h.get? b = some { cls := .type "list", data := .seq #[.int i t, .int j u, .int k v, .ref c] n }
def bagO (b c : Addr) : HO := .ext (bagF b c)
def BagAt (H : Hp) (b : Addr) : Prop := ∃ (c : Addr) (ns : List Int), H b = some (bagO b c) ∧ H c = some (.lst (ns.map V.int)) ∧ ns.length ≤ 63
theorem BagAt.ex {H H' : Hp} {b : Addr} (e : Ex H H') (h : BagAt H b) : BagAt H' b := by
  obtain ⟨c, ns, h1, h2, h3⟩ := h
  exact ⟨c, ns, e _ _ h1, e _ _ h2, h3⟩
theorem objOk_swap {P : Program} {w : World} {H H' : Hp} {h : Heap} (ht : ∀ a xs, H a = some (.tup xs) → H' a = some (.tup xs)) (ho : ∀ a x, H a = some (.own x) → H' a = some (.own x)) : ∀ (o : HO) (a : Addr), ObjOk P w H h a o → ObjOk P w H' h a o
  | .lst _, _, q => q
  | .tup _, _, q => q
  | .dK _, _, q => q
  | .dT kvs, a, q => by
    obtain ⟨q1, q2, xs, q3, q4⟩ := q
    exact ⟨q1, q2, xs, Paired.mapP q3 fun x y z => ⟨z.1, ht _ _ z.2.1, z.2.2⟩, q4⟩
  | .set _ _, _, q => q
  | .ins _ _ _, a, q => by
    obtain ⟨q1, q2⟩ := q
    exact ⟨ho _ _ q1, q2⟩
  | .own _, _, q => q
  | .xd _, _, q => q
  | .met _ _, _, q => q
  | .rng _ _, _, q => q
  | .frz o u, a, q => ⟨q.1, objOk_swap ht ho u a q.2⟩
  | .tbl _, _, q => q
  | .ext _, _, q => q
theorem hOk_set {P : Program} {w : World} {H : Hp} {h : Heap} {b : Addr} {o1 o2 : HO} (hk : HOk P w H h) (h1 : H b = some o1) (nt : ∀ xs, o1 ≠ .tup xs) (no : ∀ x, o1 ≠ .own x) (h2 : ObjOk P w (upd H b o2) h b o2) : HOk P w (upd H b o2) h := fun a o e => by
  by_cases ea : a = b
  · subst ea
    rw [upd_same] at e
    cases e
    exact h2
  · rw [upd_ne ea] at e
    refine objOk_swap (fun a' xs q => ?_) (fun a' x q => ?_) o a (hk a o e)
    · have n : a' ≠ b := fun z => by
        rw [z, h1] at q
        exact nt _ (Option.some.inj q)
      rw [upd_ne n]
      exact q
    · have n : a' ≠ b := fun z => by
        rw [z, h1] at q
        exact no _ (Option.some.inj q)
      rw [upd_ne n]
      exact q
def spTake : Sp := fun vs H Q _ => ∃ (b : Addr) (m : Int), vs = [.ref b, .int m] ∧ BagAt H b ∧ 0 < m ∧ m < 1000000000 ∧ ∀ (H' : Hp) (r : Int), 0 ≤ r → r < m → Ex H H' → Q (.int r) H'
section
variable {P : Program} {w : World} {K : PySem.W.Frag} {mg : Str → Option Value} {base : Heap}
theorem bag_shut {P : Program} {w : World} {H : Hp} {h : Heap} {b c : Addr} {i j k : Int} (q : ObjOk P w H h b (.lst [.int i, .int j, .int k, .ref c])) : bagF b c h := by
  obtain ⟨_, its, n, rv, ho⟩ := q
  cases rv with
  | cons r1 rv => cases rv with
    | cons r2 rv => cases rv with
      | cons r3 rv => cases rv with
        | cons r4 rv =>
          cases rv
          obtain ⟨t, rfl⟩ := r1
          obtain ⟨u, rfl⟩ := r2
          obtain ⟨v, rfl⟩ := r3
          cases r4
          exact ⟨i, j, k, t, u, v, n, ho⟩
theorem take_ext (C : CalG P w K mg base 1 "_law_take" spTakeL) : CalG P w K mg base 1 "_law_take" spTake := by
  obtain ⟨f, fd, ps, F, a, kp, bd⟩ := C.ex
  have hps : ps.length = 2 := (F.len [.ref 0, .int 1] (fun x => if x = 0 then some (.lst [.int 0, .int 0, .int 0, .ref 1]) else if x = 1 then some (.lst ([].map V.int)) else none) (fun _ _ => True) (fun _ _ _ => True) ⟨0, 1, 1, 0, 0, 0, [], rfl, rfl, rfl, by decide, by decide, by decide, fun _ _ _ _ _ _ _ _ _ => trivial⟩).symm
  refine ⟨f, fd, ps, ⟨fun vs H Q E h => ?_, fun A outer s H args us vs Q E hr hg e0 hb rv h => ?_⟩, a, kp, bd⟩
  · obtain ⟨b, m, rfl, _⟩ := h
    exact hps.symm
  · obtain ⟨b, m, rfl, ⟨c, ns, h1, h2, h3⟩, hm, hm9, q⟩ := h
    obtain ⟨⟨i, j, k, t, u, v, n, ho⟩, _, _⟩ := e0.hok b _ h1
    have nbc : c ≠ b := ne_of h2 h1 (by intro z; cases z)
    have hok : HOk P w (upd H b (.lst [.int i, .int j, .int k, .ref c])) s.heap := hOk_set e0.hok h1 (fun _ z => by cases z) (fun _ z => by cases z)
      ⟨by show 4 ≤ sizeLine; decide, [.int i t, .int j u, .int k v, .ref c], n, .cons ⟨t, rfl⟩ (.cons ⟨u, rfl⟩ (.cons ⟨v, rfl⟩ (.cons rfl .nil))), ho⟩
    have nb : ∀ x, H x = none → (upd H b (.lst [.int i, .int j, .int k, .ref c])) x = none := fun x e => by
      rw [upd_ne (fun z => by rw [z, h1] at e; cases e)]
      exact e
    have e1 : Env0 P w K mg base A outer s (upd H b (.lst [.int i, .int j, .int k, .ref c])) :=
      ⟨e0.frames, e0.mod, fun x o e => ⟨(e0.bs x o e).1, nb _ (e0.bs x o e).2⟩, e0.bsz, e0.funs, fun x hx => nb _ (e0.frf x hx), hok, e0.bare⟩
    have run := F.run A outer s _ args us [.ref b, .int m] (fun v H'' => (∃ i j k, H'' b = some (.lst [.int i, .int j, .int k, .ref c])) ∧ Q v (upd H'' b (bagO b c))) E hr hg e1 hb rv
      ⟨b, c, m, i, j, k, ns, rfl, upd_same, by rw [upd_ne nbc]; exact h2, h3, hm, hm9, fun H' r i' j' k' r0 r1 e2 hb' => ⟨⟨_, _, _, hb'⟩, q _ r r0 r1 fun x o hx => by
        by_cases ex : x = b
        · rw [ex] at hx ⊢
          rw [upd_same, ← h1]
          exact hx
        · rw [upd_ne ex]
          exact e2 x o ex (by rw [upd_ne ex]; exact hx)⟩⟩
    refine codeAny_mono run fun r s' hq => ?_
    cases r with
    | error e => exact hq
    | ok fl =>
      cases fl with
      | next => exact hq
      | brk => exact hq
      | cont => exact hq
      | ret u' =>
        obtain ⟨v', H'', q1, q2, q3, q4, q5, ⟨i2, j2, k2, q6⟩, q7⟩ := hq
        refine ⟨v', upd H'' b (bagO b c), q1, q2, ⟨?_, ?_, ?_, ?_, ?_, ?_, ?_⟩, ?_, q5, q7⟩
        · exact fun x o e n f g => q3.keep x o e (nb x n) f g
        · exact fun x o e n f g => q3.slot x o e (nb x n) f g
        · intro x o e n g
          have nx : x ≠ b := fun z => by
            rw [z, h1] at n
            cases n
          rw [upd_ne nx]
          exact q3.free x o e (nb x n) g
        · exact q3.there
        · intro x xs e
          have nx : x ≠ b := fun z => by
            rw [z, h1] at e
            cases e
          rw [upd_ne nx]
          exact q3.tups x xs (by rw [upd_ne nx]; exact e)
        · intro x o u e
          have nx : x ≠ b := fun z => by
            rw [z, h1] at e
            cases e
          rw [upd_ne nx]
          exact q3.frzs x o u (by rw [upd_ne nx]; exact e)
        · intro x ps e
          have nx : x ≠ b := fun z => by
            rw [z, h1] at e
            cases e
          rw [upd_ne nx]
          exact q3.tbls x ps (by rw [upd_ne nx]; exact e)
        · refine hOk_set q4 q6 (fun _ z => by cases z) (fun _ z => by cases z) ?_
          have q8 := bag_shut (q4 b _ q6)
          refine ⟨q8, ?_, fun ha hb ⟨i, j, k, t, u, v, n, x⟩ y => ⟨i, j, k, t, u, v, n, y _ x⟩⟩
          obtain ⟨_, _, _, _, _, _, _, x⟩ := q8
          exact ⟨_, x⟩
def spBagL (K : PySem.W.Frag) : Sp := fun vs H Q _ => ∃ (a : Addr) (ns : List Int), vs = [.ref a] ∧ SqL K H a (ns.map V.int) ∧ ns.length ≤ 63 ∧
  ∀ (H' : Hp) (b c : Addr) (ms : List Int), Ex H H' → H' b = some (.lst [.int 0, .int 1234567891, .int 0, .ref c]) → H' c = some (.lst (ms.map V.int)) → ms.length ≤ 63 → H b = none → Q (.ref b) H'
theorem all_ints : ∀ (ys : List V), (∀ (i : Nat) y, ys[i]? = some y → ∃ z : Int, y = .int z) → ∃ ms : List Int, ys = ms.map V.int
  | [], _ => ⟨[], rfl⟩
  | y :: ys, h => by
    obtain ⟨z, rfl⟩ := h 0 y rfl
    obtain ⟨ms, e⟩ := all_ints ys fun i y q => h (i + 1) y q
    exact ⟨z :: ms, by rw [e]; rfl⟩
theorem cut_at {xs : List V} {lo hi : Option Int} {i : Nat} {x : V} (h : (cutV xs lo hi)[i]? = some x) : ∃ j : Nat, xs[j]? = some x := by
  unfold cutV at h
  rw [List.getElem?_take] at h
  split at h
  · rw [List.getElem?_drop] at h
    exact ⟨_, h⟩
  · cases h
theorem map_at {ns : List Int} {i : Nat} {x : V} (h : (ns.map V.int)[i]? = some x) : ∃ z : Int, x = .int z := by
  rw [List.getElem?_map] at h
  cases e : ns[i]? with
  | none => rw [e] at h; cases h
  | some z => rw [e] at h; exact ⟨z, (Option.some.inj h).symm⟩
theorem ok_bagL (T : Txt0 mg) (D : Df K mg "_law_bag" s_l_bag) : CalG P w K mg base 1 "_law_bag" (spBagL K) := by
  refine cal_mk D sc_l_bag (fun _ _ _ _ _ _ us hl => match us, hl with | [_], _ => rfl) (fun vs H Q E h => ?_) (fun f cdv A outer s H vs Q E hr hG h => ?_)
  · obtain ⟨a, ns, rfl, _⟩ := h
    rfl
  · obtain ⟨a, ns, rfl, ha, h63, q⟩ := h
    refine ⟨_, (pss_one (ps_ret (pe_lst (pa_cons pe_int (pa_cons pe_int (pa_cons pe_int (pa_cons (pe_lcO (pe_lc (own := [("_law_cell", 1)]) rfl sc_l_bag.nd (piAny (pe_slice slAny (pv 0) po_none (po_some pe_int))) (blkOk_by (own := [("_law_cell", 1)]) (N := ["_law_script", "_law_cell"]) (sc := defScope s_l_bag) (by first | decide +kernel | kernel_rfl)) (fun _ _ _ _ _ => pg_name (i := 1) sc_l_bag.nd rfl (Or.inl rfl)) (fun _ _ _ _ _ => pts_nil) (fun _ _ _ _ _ => pe_callB call_abs (by rfl) T.abs (by decide +kernel) (pa_cons (pv 1) pa_nil)))) pa_nil))))))), ?_⟩
    refine .inl ⟨_, rfl, 63, rfl, .inl ⟨a, _, rfl, ha, fun p hp => ?_⟩⟩
    generalize hq1 : upd H p _ = H1
    obtain ⟨e1, h1⟩ := gen1 hq1 hp
    have hlen := cutV_length (ns.map V.int) none (some 63)
    rw [List.length_map] at hlen
    refine ⟨p, rfl, ⟨_, sq_of h1⟩, ?_⟩
    refine lcG (walk_list (xs := cutV (ns.map V.int) none (some 63))) (by omega) (sq_of h1) (fun _ _ e h => ex_l e h) yAt_ex (fun i ys _ => ∀ (j : Nat) y, ys[j]? = some y → ∃ z : Int, y = .int z) (fun _ _ _ _ _ h => h) (fun j y z => by simp at z) ?_ ?_
    · rintro i x H2 H3 ys hi e2 ⟨rfl, hx⟩ hp N N0 kN kN0
      obtain ⟨j, hj⟩ := cut_at hx
      obtain ⟨z, rfl⟩ := map_at hj
      refine ⟨rfl, ?_⟩
      refine ⟨_, rfl, z, rfl, ?_⟩
      refine kN _ _ (Ex.refl _) fun j y hy => ?_
      rw [List.getElem?_append] at hy
      split at hy
      · exact hp j y hy
      · rw [List.getElem?_singleton] at hy
        split at hy
        · exact ⟨_, (Option.some.inj hy).symm⟩
        · cases hy
    · intro D H2 ys hD e2 h2 hl hp
      obtain ⟨ms, rfl⟩ := all_ints ys hp
      refine ⟨by show 4 ≤ sizeLine; decide, fun b hb => ?_⟩
      generalize hq3 : upd H2 b _ = H3
      obtain ⟨e3, h3⟩ := gen1 hq3 hb
      rw [List.length_map] at hl
      exact q _ b D ms ((e1.trans e2).trans e3) h3 (e3 _ _ h2) (by omega) (fresh_back (e1.trans e2) hb)
/-- script: any list of ints -/
def spBag (K : PySem.W.Frag) : Sp := fun vs H Q _ => ∃ (a : Addr) (ns : List Int), vs = [.ref a] ∧ SqL K H a (ns.map V.int) ∧ ns.length ≤ 63 ∧ ∀ (H' : Hp) (b : Addr), Ex H H' → BagAt H' b → Q (.ref b) H'
theorem bag_ext (C : CalG P w K mg base 1 "_law_bag" (spBagL K)) : CalG P w K mg base 1 "_law_bag" (spBag K) := by
  obtain ⟨f, fd, ps, F, a, kp, bd⟩ := C.ex
  refine ⟨f, fd, ps, ⟨fun vs H Q E h => ?_, fun A outer s H args us vs Q E hr hg e0 hb rv h => ?_⟩, a, kp, bd⟩
  · obtain ⟨a, ns, rfl, ha, hl, _⟩ := h
    exact F.len [.ref a] H (fun _ _ => True) E ⟨a, ns, rfl, ha, hl, fun _ _ _ _ _ _ _ _ _ => trivial⟩
  · obtain ⟨a, ns, rfl, ha, hl, q⟩ := h
    have run := F.run A outer s _ args us [.ref a] (fun v H'' => ∃ (b c : Addr) (ms : List Int), v = .ref b ∧ Ex H H'' ∧ H'' b = some (.lst [.int 0, .int 1234567891, .int 0, .ref c]) ∧ H'' c = some (.lst (ms.map V.int)) ∧ ms.length ≤ 63 ∧ H b = none) E hr hg e0 hb rv
      ⟨a, ns, rfl, ha, hl, fun H' b c ms e h1 h2 h3 h4 => ⟨b, c, ms, rfl, e, h1, h2, h3, h4⟩⟩
    refine codeAny_mono run fun r s' hq => ?_
    cases r with
    | error e => exact hq
    | ok fl =>
      cases fl with
      | next => exact hq
      | brk => exact hq
      | cont => exact hq
      | ret u' =>
        obtain ⟨v', H'', q1, q2, q3, q4, q5, b, c, ms, rfl, e, h1, h2, h3, h4⟩ := hq
        have nbc : c ≠ b := ne_of h2 h1 (fun z => ints_ne4 z)
        have no : ∀ x o, H x = some o → x ≠ b := fun x o hx z => by
          rw [z, h4] at hx
          cases hx
        refine ⟨.ref b, upd H'' b (bagO b c), q1, q2, ⟨q3.keep, q3.slot, ?_, q3.there, ?_, ?_, ?_⟩, ?_, q5, q _ b (Ex.mut e h4) ⟨c, ms, upd_same, ?_, h3⟩⟩
        · intro x o ho n g
          have z := q3.free x o ho n g
          have nx : x ≠ b := fun y => by
            rw [y, h1] at z
            cases z
          rw [upd_ne nx]
          exact z
        · intro x xs hx
          rw [upd_ne (no _ _ hx)]
          exact q3.tups x xs hx
        · intro x o u hx
          rw [upd_ne (no _ _ hx)]
          exact q3.frzs x o u hx
        · intro x ps hx
          rw [upd_ne (no _ _ hx)]
          exact q3.tbls x ps hx
        · refine hOk_set q4 h1 (fun _ z => by cases z) (fun _ z => by cases z) ?_
          have q8 := bag_shut (q4 b _ h1)
          refine ⟨q8, ?_, fun ha hb ⟨i, j, k, t, u, v, n, x⟩ y => ⟨i, j, k, t, u, v, n, y _ x⟩⟩
          obtain ⟨_, _, _, _, _, _, _, x⟩ := q8
          exact ⟨_, x⟩
        · rw [upd_ne nbc]
          exact h2
def spSome (K : PySem.W.Frag) : Sp := fun vs H Q _ => ∃ (b a : Addr) (xs : List V), vs = [.ref b, .ref a] ∧ BagAt H b ∧ (SqL K H a xs ∨ SqT K H a xs) ∧ xs ≠ [] ∧ xs.length ≤ 100000 ∧
  ∀ (H' : Hp) (i : Nat) (x : V), Ex H H' → xs[i]? = some x → Q x H'
theorem ok_some (T : Txt0 mg) (D : Df K mg "_law_some" s_l_some) (c_l_take : CalG P w K mg base 1 "_law_take" spTake) : CalG P w K mg base 2 "_law_some" (spSome K) := by
  refine cal_mk D sc_l_some (fun _ _ _ _ _ _ us hl => match us, hl with | [_, _], _ => rfl) (fun vs H Q E h => ?_) (fun f cdv A outer s H vs Q E hr hG h => ?_)
  · obtain ⟨b, a, xs, rfl, _⟩ := h
    rfl
  · obtain ⟨b, a, xs, rfl, hb, ha, hne, hl, q⟩ := h
    have hpos : 0 < xs.length := List.length_pos_iff.mpr hne
    refine ⟨_, (pss_one (ps_ret (pe_ix ixAny (pv 1) (pe_cG c_l_take hr hG (by decide) rfl (pa_cons (pv 0) (pa_cons (pe_callB callLen (by rfl) T.len PySem.boot_len (pa_cons (pv 1) pa_nil)) pa_nil))) (fun _ _ => rfl)))), ?_⟩
    refine ⟨_, rfl, _, rfl, _, rfl, .inl ⟨a, xs, rfl, ha, ?_⟩⟩
    refine ⟨b, _, rfl, hb, by omega, by omega, fun H' r r0 r1 e => ?_⟩
    obtain ⟨j, rfl⟩ : ∃ j : Nat, r = (j : Int) := ⟨r.toNat, by omega⟩
    have hj : j < xs.length := by omega
    rcases ha with ha | ha
    · exact .inl ⟨a, xs, _, xs[j], rfl, rfl, ex_l e ha, atI_nat (List.getElem?_eq_getElem hj), q H' j _ e (List.getElem?_eq_getElem hj)⟩
    · exact .inr (.inl ⟨a, xs, _, xs[j], rfl, rfl, ex_t e ha, atI_nat (List.getElem?_eq_getElem hj), q H' j _ e (List.getElem?_eq_getElem hj)⟩)
end
abbrev s_l_names : Stmt := top 43
theorem sc_l_names : FnScope ["_law_bag_here", "_law_many", "_law_letters", "_law_found", "_law_words", "_law_k", "_law_signs", "_law_spin", "_law_at", "_law_rest", "_law_some_here", "_law_one"] ["_law_bag_here", "_law_many"] (defScope s_l_names) := ⟨rfl, rfl, rfl, by decide +kernel, rfl, by decide +kernel, by decide +kernel⟩
section
variable {P : Program} {w : World} {K : PySem.W.Frag} {mg : Str → Option Value} {base : Heap}
/-! ### names -/
def LET : Str := "abcdefghijklmnopqrstuvwxyz"
def WRD : Str := "at as last like all name book goal with turn part drop call copy chain close eq lt gt put"
def WL : List Str := ["at", "as", "last", "like", "all", "name", "book", "goal", "with", "turn", "part", "drop", "call", "copy", "chain", "close", "eq", "lt", "gt", "put"]
def lowc (c : Nat) : Bool := decide (97 ≤ c) && decide (c ≤ 122)
def isNm (z : Str) : Bool := decide (1 ≤ z.length) && decide (z.length ≤ 8) && (TL.tl z).all lowc
theorem wl_split : Txt.split WRD " " = WL := by decide +kernel
theorem wl_nm : WL.all isNm = true := by decide +kernel
theorem let_at : ∀ j : Fin 26, atI LET.cps.toList ((j.val : Nat) : Int) = some (97 + j.val) := by decide +kernel
theorem let_occ : ∀ j : Fin 26, Builtin.Str.occurrences LET (sgn (97 + j.val)) 0 LET.length 1 = [j.val] := by decide +kernel
theorem let_rot : ∀ j : Fin 26, (TL.tl (cutS LET (some (j.val : Int)) none ++ cutS LET none (some (j.val : Int)))).Nodup ∧ (TL.tl (cutS LET (some (j.val : Int)) none ++ cutS LET none (some (j.val : Int)))).all lowc = true ∧ (TL.tl (cutS LET (some (j.val : Int)) none ++ cutS LET none (some (j.val : Int)))).length = 26 := by decide +kernel
theorem let_cut : ∀ j : Fin 26, (cutS LET (some (j.val : Int)) none).length + (cutS LET none (some (j.val : Int))).length ≤ 26 := by decide +kernel
theorem four_at {r : Int} (h0 : 0 ≤ r) (h1 : r < 4) : ∃ n : Nat, 1 ≤ n ∧ n ≤ 8 ∧ atI [V.int 1, V.int 2, V.int 8, V.int 4] r = some (.int (n : Int)) := by
  have q : r = 0 ∨ r = 1 ∨ r = 2 ∨ r = 3 := by omega
  rcases q with rfl | rfl | rfl | rfl
  · exact ⟨1, by decide, by decide, rfl⟩
  · exact ⟨2, by decide, by decide, rfl⟩
  · exact ⟨8, by decide, by decide, rfl⟩
  · exact ⟨4, by decide, by decide, rfl⟩
/-- of more different names than stand in a list one is none of it -/
theorem more_left {α : Type} [DecidableEq α] : ∀ (xs ys : List α), xs.Nodup → ys.length < xs.length → ∃ x ∈ xs, x ∉ ys
  | [], ys, _, h => by simp at h
  | x :: xs, ys, hn, h => by
    by_cases hx : x ∈ ys
    · have hn2 := (List.nodup_cons.mp hn)
      obtain ⟨z, hz, hz2⟩ := more_left xs (ys.erase x) hn2.2 (by
        rw [List.length_erase_of_mem hx]
        rw [List.length_cons] at h
        have : 0 < ys.length := List.length_pos_of_mem hx
        omega)
      refine ⟨z, List.mem_cons_of_mem _ hz, fun q => hz2 ?_⟩
      have ne : z ≠ x := fun e => hn2.1 (e ▸ hz)
      exact (List.mem_erase_of_ne ne).mpr q
    · exact ⟨x, List.mem_cons_self, hx⟩
def spNames : Sp := fun vs H Q _ => ∃ (b : Addr) (m : Int), vs = [.ref b, .int m] ∧ BagAt H b ∧ 0 ≤ m ∧ m ≤ 25 ∧
  ∀ (H' : Hp) (p : Addr) (ns : List Str), Ex H H' → H p = none → H' p = some (.lst (ns.map V.str)) → (ns.length : Int) = m → ns.Nodup → (∀ z ∈ ns, isNm z = true) → Q (.ref p) H'
theorem ok_names (T : Txt0 mg) (D : Df K mg "_law_names" s_l_names) (c_l_take : CalG P w K mg base 1 "_law_take" spTake) : CalG P w K mg base 2 "_law_names" spNames := by
  refine cal_mk D sc_l_names (fun _ _ _ _ _ _ us hl => match us, hl with | [_, _], _ => rfl) (fun vs H Q E h => ?_) (fun f cdv A outer s H vs Q E hr hG h => ?_)
  · obtain ⟨b, m, rfl, _⟩ := h
    rfl
  · obtain ⟨b, m, rfl, hb, m0, m25, q⟩ := h
    refine ⟨_, (pss_cons (ps_asg (pe_tup (pa_cons pe_str (pa_cons (pe_lst pa_nil) pa_nil))) (pg_tup rfl (pgs_cons (pg_name (i := 2) sc_l_names.nd rfl (Or.inr rfl)) (pgs_cons (pg_name (i := 3) sc_l_names.nd rfl (Or.inr rfl)) pgs_nil))))
      (pss_cons (ps_set (i := 4) sc_l_names.nd rfl (Or.inl rfl) (pe_split pe_str pe_str))
      (pss_cons (ps_forO (ps_for PassesOwn.never rfl (pi_range1 rfl T.range (pa_cons (pv 1) pa_nil)) (pg_name (i := 5) sc_l_names.nd rfl (Or.inl rfl))
        (pss_cons (ps_setLcO (ps_setLc (i := 6) (own := [("_law_spin", 7)]) rfl sc_l_names.nd rfl rfl (sw_true rfl rfl rfl (by decide +kernel)) (pi_range1 rfl T.range (pa_cons (pe_ix ixAny (pe_lst (pa_cons pe_int (pa_cons pe_int (pa_cons pe_int (pa_cons pe_int pa_nil))))) (pe_cG c_l_take hr hG (by decide) rfl (pa_cons (pv 0) (pa_cons pe_int pa_nil))) (fun _ _ => rfl)) pa_nil)) (blkOk_by (own := [("_law_spin", 7)]) (N := ["_law_bag_here", "_law_many", "_law_letters", "_law_found", "_law_words", "_law_k", "_law_signs", "_law_spin", "_law_at", "_law_rest", "_law_some_here", "_law_one"]) (sc := defScope s_l_names) (by first | decide +kernel | kernel_rfl)) (fun _ _ _ _ _ => pg_name (i := 7) sc_l_names.nd rfl (Or.inl rfl)) (fun _ _ _ _ _ => pts_nil) (fun _ _ _ _ _ => pe_ix ixAnyB (pv 2) (pe_cG c_l_take hr hG (by decide) rfl (pa_cons (pv 0) (pa_cons pe_int pa_nil))) (fun _ _ => rfl))))
      (pss_cons (ps_asg (pe_tup (pa_cons (pe_bm PySem.F.plainAttrs_str PySem.F.slot_str_index PySem.F.type_str_index mt_sindex (pv 2) (pa_cons (pe_ix ixAny (pv 6) pe_int (fun _ _ => rfl)) pa_nil)) (pa_cons (pe_join pe_str (pe_slice slAny (pv 6) (po_some pe_int) po_none)) pa_nil))) (pg_tup rfl (pgs_cons (pg_name (i := 8) sc_l_names.nd rfl (Or.inl rfl)) (pgs_cons (pg_name (i := 9) sc_l_names.nd rfl (Or.inr rfl)) pgs_nil))))
      (pss_cons (ps_set (i := 10) sc_l_names.nd rfl (Or.inl rfl) (pe_op opAdd (pe_op opMul (pe_slice slAny (pv 4) (po_some (pv 8)) po_none) (pe_callTy call_int1 (by rfl) T.int (by decide +kernel) (pa_cons (pe_cmpR (opEq hr) (pe_cG c_l_take hr hG (by decide) rfl (pa_cons (pv 0) (pa_cons pe_int pa_nil))) pe_int (nomark _)) pa_nil))) (pe_lcO (pe_lc (own := [("_law_one", 11)]) rfl sc_l_names.nd (piAny (pe_op opAdd (pe_slice slAny (pv 2) (po_some (pv 8)) po_none) (pe_slice slAny (pv 2) po_none (po_some (pv 8))))) (blkOk_by (own := [("_law_one", 11)]) (N := ["_law_bag_here", "_law_many", "_law_letters", "_law_found", "_law_words", "_law_k", "_law_signs", "_law_spin", "_law_at", "_law_rest", "_law_some_here", "_law_one"]) (sc := defScope s_l_names) (by first | decide +kernel | kernel_rfl)) (fun _ _ _ _ _ => pg_name (i := 11) sc_l_names.nd rfl (Or.inl rfl)) (fun _ _ _ _ _ => pts_nil) (fun _ _ _ _ _ => pe_op opAddB (pv 11) (pv 9))))))
      (pss_one (ps_expr (pe_bm PySem.F.plainAttrs_list PySem.F.slot_list_append PySem.F.type_list_append mt_append (pv 3) (pa_cons (pe_ix ixAny (pe_lcO (pe_lc (own := [("_law_one", 11)]) rfl sc_l_names.nd (piAny (pv 10)) (blkOk_by (own := [("_law_one", 11)]) (N := ["_law_bag_here", "_law_many", "_law_letters", "_law_found", "_law_words", "_law_k", "_law_signs", "_law_spin", "_law_at", "_law_rest", "_law_some_here", "_law_one"]) (sc := defScope s_l_names) (by first | decide +kernel | kernel_rfl)) (fun _ _ _ _ _ => pg_name (i := 11) sc_l_names.nd rfl (Or.inl rfl)) (fun _ _ _ _ _ => pts_one (pt_cmpR opNotInB (pv 11) (pv 3) rfl)) (fun _ _ _ _ _ => pv 11))) pe_int (fun _ _ => rfl)) pa_nil)))))))))
      (pss_one (ps_ret (pv 3)))))), ?_⟩
    -- letters, found = '..', []
    refine ⟨Nat.zero_le _, fun fp hfp => ?_⟩
    generalize hq1 : upd H fp _ = H0
    obtain ⟨e0, h0⟩ := gen1 hq1 hfp
    refine ⟨by show 2 ≤ sizeLine; decide, fun tp htp => ?_⟩
    generalize hqt : upd H0 tp _ = H1
    obtain ⟨et, ht⟩ := gen1 hqt htp
    have e1 := e0.trans et
    have h1 := et _ _ h0
    refine ⟨tp, _, rfl, st_of ht, rfl, _, _, rfl, _, _, rfl, rfl, ?_⟩
    -- words
    refine ⟨⟨_, rfl⟩, _, _, rfl, rfl, (by decide), (by decide), fun wp hwp => ?_⟩
    generalize hq2 : upd H1 wp _ = H2
    obtain ⟨e2, h2⟩ := gen1 hq2 hwp
    have h2 : H2 wp = some (.lst (WL.map V.str)) := h2.trans (by rw [← wl_split]; rfl)
    refine ⟨_, rfl, m, rfl, by omega, by omega, ?_⟩
    refine frG (walk_range (lo := 0) (n := m.toNat)) (fun i σ H' => ∃ (ns : List Str) (x5 x6 x8 x9 x10 : Option V), σ = [some (.ref b), some (.int m), some (.str LET), some (.ref fp), some (.ref wp), x5, x6, none, x8, x9, x10, none] ∧ Ex H H' ∧
      H' fp = some (.lst (ns.map V.str)) ∧ H' wp = some (.lst (WL.map V.str)) ∧ ns.length = i ∧ ns.Nodup ∧ ∀ z ∈ ns, isNm z = true) ?_ (fun _ _ _ _ _ => trivial) ?_ ?_
    · exact ⟨[], none, none, none, none, none, rfl, e1.trans e2, e2 _ _ h1, h2, rfl, List.nodup_nil, fun z hz => by cases hz⟩
    · rintro i x σ H3 H4 hi ⟨ns, x5, x6, x8, x9, x10, rfl, e3, hf, hw, hl, hnd, hnm⟩ ⟨rfl, rfl⟩
      -- signs
      refine ⟨by show 4 ≤ sizeLine; decide, fun l4 hl4 => ?_⟩
      generalize hq5 : upd H4 l4 _ = H5
      obtain ⟨e5, h5⟩ := gen1 hq5 hl4
      refine ⟨_, rfl, b, 4, rfl, hb.ex (e3.trans e5), by decide, by decide, fun H6 r r0 r1 e6 => ?_⟩
      obtain ⟨n, n1, n8, hn⟩ := four_at r0 r1
      refine .inl ⟨l4, _, r, _, rfl, rfl, sq_of (e6 _ _ h5), hn, ?_⟩
      refine ⟨(n : Int), rfl, by omega, by omega, ?_⟩
      refine lcG (walk_range (lo := 0) (n := (n : Int).toNat)) (by omega) trivial (fun _ _ _ _ => trivial) yFn_ex (fun i ys _ => ∃ cl : List Nat, ys = (cl.map sgn).map V.str ∧ cl.length = i ∧ cl.all lowc = true) (fun _ _ _ _ _ h => h) ⟨[], rfl, rfl, rfl⟩ ?_ ?_
      · rintro j x H7 H8 ys hj e7 ⟨rfl, rfl⟩ ⟨cl, rfl, hcl, hlow⟩ N N0 kN kN0
        refine ⟨rfl, ?_⟩
        refine ⟨_, rfl, _, rfl, b, 26, rfl, hb.ex (((e3.trans e5).trans e6).trans e7), by decide, by decide, fun H9 r r0 r1 e9 => ?_⟩
        obtain ⟨j, rfl⟩ : ∃ j : Nat, r = (j : Int) := ⟨r.toNat, by omega⟩
        have ha := let_at ⟨j, by omega⟩
        refine .inr (.inr (.inl ⟨_, _, 97 + j, rfl, rfl, by decide, ha, ?_⟩))
        refine kN _ _ e9 ⟨cl ++ [97 + j], by simp [sgn], by simp [hcl], ?_⟩
        rw [List.all_append, hlow]
        simp [lowc]
        omega
      · rintro sp H7 ys hsp e7 h7 _ ⟨cl, rfl, hcl, hlow⟩
        -- at, rest
        have hcn : cl.length = n := by rw [hcl]; rfl
        obtain ⟨c0, cr, rfl⟩ : ∃ c0 cr, cl = c0 :: cr := by
          cases cl with
          | nil => rw [List.length_nil] at hcn; omega
          | cons c r => exact ⟨c, r, rfl⟩
        rw [List.all_cons, Bool.and_eq_true] at hlow
        obtain ⟨hc0, hcr⟩ := hlow
        obtain ⟨j0, rfl⟩ : ∃ j : Fin 26, c0 = 97 + j.val := by
          simp only [lowc, Bool.and_eq_true, decide_eq_true_eq] at hc0
          exact ⟨⟨c0 - 97, by omega⟩, by show c0 = 97 + (c0 - 97); omega⟩
        have hcrl : cr.length ≤ 7 := by rw [List.length_cons] at hcn; omega
        refine ⟨_, rfl, rfl, _, rfl, .inl ⟨sp, _, 0, .str (sgn (97 + j0.val)), rfl, rfl, sq_of h7, atI_nat (j := 0) rfl, ?_⟩⟩
        refine ⟨LET, sgn (97 + j0.val), j0.val, [], rfl, rfl, let_occ j0, ?_⟩
        refine ⟨⟨_, rfl⟩, _, rfl, 1, rfl, .inl ⟨sp, _, rfl, sq_of h7, fun l8 hl8 => ?_⟩⟩
        generalize hq8 : upd H7 l8 _ = H8
        obtain ⟨e8, h8⟩ := gen1 hq8 hl8
        have h8 : H8 l8 = some (.lst ((cr.map sgn).map V.str)) := by
          rw [h8]
          have z := cut_from (((((97 + j0.val) :: cr : List Nat)).map sgn).map V.str) 1
          rw [show (some (1 : Int)) = some ((1 : Nat) : Int) from rfl, z]
          rfl
        refine ⟨_, l8, cr.map sgn, rfl, rfl, .inl (sq_of h8), ?_, ?_⟩
        · have z := sum_sgn cr
          rw [z, List.length_map]
          show cr.length + cr.length * 0 ≤ 16777216
          omega
        generalize hR : Txt.join _ (cr.map sgn) = R
        have hR : R = SX.S cr := hR.symm.trans (join_sgn cr)
        refine ⟨by show 2 ≤ sizeLine; decide, fun t9 ht9 => ?_⟩
        generalize hq9 : upd H8 t9 _ = H9
        obtain ⟨e9, h9⟩ := gen1 hq9 ht9
        refine ⟨t9, _, rfl, st_of h9, rfl, _, _, rfl, _, _, rfl, rfl, ?_⟩
        have ee := (((e5.trans e6).trans e7).trans e8).trans e9
        -- some = words[at:] * int(take(8) == 0) + ..
        refine ⟨_, rfl, _, rfl, _, rfl, .inl ⟨wp, _, rfl, sq_of (ee _ _ hw), fun l10 hl10 => ?_⟩⟩
        generalize hq10 : upd H9 l10 _ = H10
        obtain ⟨e10, h10⟩ := gen1 hq10 hl10
        refine ⟨_, rfl, b, 8, rfl, hb.ex ((e3.trans ee).trans e10), by decide, by decide, fun H11 r r0 r1 e11 => ?_⟩
        refine .inl ⟨rfl, .inr ⟨_, rfl, ?_⟩⟩
        have hz10 : H10 l10 = some (.lst ((WL.drop j0.val).map V.str)) := by
          rw [h10, cut_from, List.map_drop]
        obtain ⟨kk, hkk⟩ : ∃ kk : Nat, (kk = 0 ∨ kk = 1) ∧ (if decide (V.int r = V.int 0) = true then (1 : Int) else 0) = (kk : Int) := by
          by_cases hz : decide (V.int r = V.int 0) = true
          · exact ⟨1, .inr rfl, by rw [if_pos hz]; rfl⟩
          · exact ⟨0, .inl rfl, by rw [if_neg hz]; rfl⟩
        refine .inr ⟨l10, (kk : Int), (WL.drop j0.val).map V.str, rfl, by rw [hkk.2], e11 _ _ hz10, by omega, by omega, ?_, fun l12 hl12 => ?_⟩
        · refine sz_of ?_
          rw [List.length_map, List.length_drop, Int.toNat_natCast]
          have z : WL.length = 20 := rfl
          rw [z]
          rcases hkk.1 with rfl | rfl <;> omega
        generalize hq12 : upd H11 l12 _ = H12
        obtain ⟨e12, h12⟩ := gen1 hq12 hl12
        obtain ⟨W0, hW0, hW1, hW2⟩ : ∃ W0 : List Str, H12 l12 = some (.lst (W0.map V.str)) ∧ W0.length ≤ 20 ∧ W0.all isNm = true := by
          rw [h12, Int.toNat_natCast]
          rcases hkk.1 with rfl | rfl
          · exact ⟨[], rfl, by decide, rfl⟩
          · refine ⟨WL.drop j0.val, by simp, ?_, ?_⟩
            · rw [List.length_drop]
              have z : WL.length = 20 := rfl
              omega
            · rw [List.all_eq_true]
              exact fun x hx => (List.all_eq_true.mp wl_nm) x (List.drop_subset _ _ hx)
        refine .inr (.inr ⟨_, rfl, _, rfl, _, rfl, .inr (.inr ⟨LET, rfl, by decide, ?_⟩)⟩)
        refine ⟨_, rfl, _, rfl, _, rfl, .inr (.inr ⟨LET, rfl, by decide, ?_⟩)⟩
        refine .inr (.inl ⟨_, _, rfl, rfl, sz_of (Nat.le_trans (let_cut j0) (by decide)), _, rfl, ?_⟩)
        obtain ⟨rnd, rlow, rlen⟩ := let_rot j0
        generalize hrot : (cutS LET (some (j0.val : Int)) none ++ cutS LET none (some (j0.val : Int))) = ROT at rnd rlow rlen
        have eW := (ee.trans e10).trans (e11.trans e12)
        have hrotl : ROT.cps.size = 26 := by rw [← rlen, Array.length_toList]
        refine lcG (walk_str (z := ROT)) (by rw [hrotl]; decide) trivial (fun _ _ _ _ => trivial) (fun _ _ _ _ h => ex_eq h.1) (fun i ys _ => ys = (((TL.tl ROT).take i).map fun c => sgn c ++ R).map V.str) (fun _ _ _ _ _ h => h) rfl ?_ ?_
        · rintro j x H13 H14 ys hj e13 ⟨rfl, c, hc, rfl⟩ rfl N N0 kN kN0
          refine ⟨rfl, ?_⟩
          refine ⟨_, rfl, _, rfl, .inr (.inl ⟨sgn c, R, rfl, rfl, ?_, ?_⟩)⟩
          · rw [hR]
            show 1 + cr.toArray.size ≤ sizeLine
            refine sz_of ?_
            rw [List.size_toArray]
            omega
          · refine kN _ _ (Ex.refl _) ?_
            have hc' : (TL.tl ROT)[j]? = some c := by rw [Array.getElem?_toList]; exact hc
            rw [List.take_add_one, hc', List.map_append, List.map_append]
            rfl
        · rintro l15 H15 ys hl15 e15 h15 _ rfl
          rw [hrotl, List.take_of_length_le (by rw [rlen]; decide)] at h15
          have c2l : ((TL.tl ROT).map fun c => sgn c ++ R).length = 26 := by rw [List.length_map]; exact rlen
          refine .inr (.inr (.inl ⟨l12, l15, W0.map V.str, ((TL.tl ROT).map fun c => sgn c ++ R).map V.str, rfl, rfl, e15 _ _ hW0, h15, ?_, fun l16 hl16 => ?_⟩))
          · rw [List.length_map, List.length_map]
            refine sz_of ?_
            omega
          generalize hq16 : upd H15 l16 _ = H16
          obtain ⟨e16, h16⟩ := gen1 hq16 hl16
          rw [← List.map_append] at h16
          have eA := (eW.trans e15).trans e16
          have hf16 := eA _ _ hf
          have hcl2 : (W0 ++ (TL.tl ROT).map fun c => sgn c ++ R).length ≤ 46 := by
            rw [List.length_append, c2l]
            omega
          have hcn2 : ∀ z ∈ (W0 ++ (TL.tl ROT).map fun c => sgn c ++ R), isNm z = true := by
            intro z hz
            rcases List.mem_append.mp hz with hz | hz
            · exact (List.all_eq_true.mp hW2) z hz
            · obtain ⟨c, hc, rfl⟩ := List.mem_map.mp hz
              have lc := (List.all_eq_true.mp rlow) c hc
              have e1 : TL.tl (sgn c ++ R) = c :: cr := by
                rw [TL.tl_append, hR]
                rfl
              unfold isNm
              rw [TL.len_tl, e1, List.all_cons, lc, hcr, List.length_cons]
              simp
              omega
          have hmore : ∃ z ∈ (W0 ++ (TL.tl ROT).map fun c => sgn c ++ R), z ∉ ns := by
            obtain ⟨z, hz, hz2⟩ := more_left ((TL.tl ROT).map fun c => sgn c ++ R) ns (by
              rw [List.Nodup, List.pairwise_map]
              refine List.Pairwise.imp (fun {a b} hab e => hab ?_) rnd
              have q := congrArg TL.tl e
              rw [TL.tl_append, TL.tl_append] at q
              exact (List.cons.inj q).1) (by rw [c2l]; omega)
            exact ⟨z, List.mem_append_right _ hz, hz2⟩
          generalize (W0 ++ (TL.tl ROT).map fun c => sgn c ++ R) = C at h16 hcl2 hcn2 hmore
          refine ⟨_, rfl, .inl ⟨rfl, _, sq_of hf16⟩, .inl ⟨_, rfl, l16, rfl, ⟨_, sq_of h16⟩, ?_⟩⟩
          refine lcG (walk_list (xs := C.map V.str)) (by rw [List.length_map]; omega) (sq_of h16) (fun _ _ e h => ex_l e h) yAt_ex (fun i ys _ => ys = ((C.take i).filter fun z => !decide (z ∈ ns)).map V.str) (fun _ _ _ _ _ h => h) rfl ?_ ?_
          · rintro j x H17 H18 ys hj e17 ⟨rfl, hx⟩ rfl N N0 kN kN0
            obtain ⟨z, hz, rfl⟩ := str_at hx
            refine ⟨rfl, ?_⟩
            refine ⟨_, rfl, _, rfl, .inl ⟨fp, _, rfl, .inl (sq_of (e17 _ _ hf16)), rfl, flat_strs ns, _, rfl, ?_⟩⟩
            have hin : (if true = true then !inV (V.str z) (ns.map V.str) else inV (V.str z) (ns.map V.str)) = !decide (z ∈ ns) := by
              rw [if_pos rfl, in_strs]
            rw [hin]
            by_cases hm : (!decide (z ∈ ns)) = true
            · rw [hm]
              refine iteT ⟨_, rfl, kN _ _ (Ex.refl _) ?_⟩
              rw [List.take_add_one, hz, List.filter_append, Option.toList, List.filter_cons, if_pos hm, List.map_append]
              rfl
            · rw [show (!decide (z ∈ ns)) = false by simpa using hm]
              refine iteF (kN0 _ (Ex.refl _) ?_)
              rw [List.take_add_one, hz, List.filter_append, Option.toList, List.filter_cons, if_neg hm, List.map_append]
              simp
          · rintro l17 H17 ys hl17 e17 h17 _ rfl
            rw [List.take_of_length_le (by rw [List.length_map]; exact Nat.le_refl _)] at h17
            obtain ⟨z0, zr, hz0⟩ : ∃ z0 zr, (C.filter fun z => !decide (z ∈ ns)) = z0 :: zr := by
              cases hc : (C.filter fun z => !decide (z ∈ ns)) with
              | nil =>
                obtain ⟨z, hz, hz2⟩ := hmore
                have q : z ∈ C.filter fun z => !decide (z ∈ ns) := List.mem_filter.mpr ⟨hz, by simpa using hz2⟩
                rw [hc] at q
                cases q
              | cons z0 zr => exact ⟨z0, zr, rfl⟩
            rw [hz0] at h17
            have hm0 : z0 ∈ C.filter fun z => !decide (z ∈ ns) := by rw [hz0]; exact List.mem_cons_self
            obtain ⟨hz1, hz2⟩ := List.mem_filter.mp hm0
            have hz2 : z0 ∉ ns := by simpa using hz2
            refine .inl ⟨l17, _, 0, .str z0, rfl, rfl, sq_of h17, atI_nat (j := 0) rfl, ?_⟩
            have hf17 := e17 _ _ hf16
            refine ⟨fp, _, .str z0, rfl, rfl, hf17, ?_, ?_⟩
            · rw [List.length_map]
              refine sz_lt ?_
              omega
            · have fe := (e3.trans eA).trans e17
              have nfw : wp ≠ fp := fun z => by
                have q := fe wp
                rw [z] at hwp
                rw [h1] at hwp
                cases hwp
              refine ⟨ns ++ [z0], _, _, _, _, _, rfl, Ex.mut fe hfp, ?_, ?_, ?_, ?_, ?_⟩
              · rw [upd_same, List.map_append]
                rfl
              · rw [upd_ne nfw]
                exact e17 _ _ (eA _ _ hw)
              · rw [List.length_append, hl]
                rfl
              · rw [List.nodup_append]
                refine ⟨hnd, by simp, fun a ha b hb e => hz2 ?_⟩
                rw [List.mem_singleton] at hb
                rw [← hb, ← e]
                exact ha
              · intro z hz
                rcases List.mem_append.mp hz with hz | hz
                · exact hnm z hz
                · rw [List.mem_singleton] at hz
                  rw [hz]
                  exact hcn2 z0 hz1
    · rintro σ H3 ⟨ns, x5, x6, x8, x9, x10, rfl, e3, hf, hw, hl, hnd, hnm⟩
      exact ⟨_, rfl, q _ fp ns e3 hfp hf (by omega) hnd hnm⟩
end
/-! ### atoms and facts as data -/
abbrev A3 := Str × Str × Str
def sl3 (a : A3) : List Str := [a.1, a.2.1, a.2.2]
def AtomAt (H : Hp) (v : V) (a : A3) : Prop := ∃ p, v = .ref p ∧ H p = some (.tup ((sl3 a).map V.str))
theorem AtomAt.tex {H H' : Hp} {v : V} {a : A3} (e : TEx H H') (h : AtomAt H v a) : AtomAt H' v a := by
  obtain ⟨p, h1, h2⟩ := h
  exact ⟨p, h1, e _ _ h2⟩
theorem AtomAt.ex {H H' : Hp} {v : V} {a : A3} (e : Ex H H') (h : AtomAt H v a) : AtomAt H' v a := h.tex (TEx.of e)
def AllAt (H : Hp) : List V → List A3 → Prop
  | [], [] => True
  | v :: vs, a :: as => AtomAt H v a ∧ AllAt H vs as
  | _, _ => False
theorem AllAt.tex {H H' : Hp} (e : TEx H H') : ∀ {vs : List V} {as : List A3}, AllAt H vs as → AllAt H' vs as
  | [], [], _ => trivial
  | _ :: _, _ :: _, h => ⟨h.1.tex e, AllAt.tex e h.2⟩
  | [], _ :: _, h => h.elim
  | _ :: _, [], h => h.elim
theorem AllAt.len {H : Hp} : ∀ {vs : List V} {as : List A3}, AllAt H vs as → vs.length = as.length
  | [], [], _ => rfl
  | _ :: vs, _ :: as, h => by rw [List.length_cons, List.length_cons, AllAt.len h.2]
  | [], _ :: _, h => h.elim
  | _ :: _, [], h => h.elim
theorem AllAt.at {H : Hp} : ∀ {vs : List V} {as : List A3} {i : Nat} {v : V}, AllAt H vs as → vs[i]? = some v → ∃ a, as[i]? = some a ∧ AtomAt H v a
  | _ :: _, a :: _, 0, _, h, e => ⟨a, rfl, by cases e; exact h.1⟩
  | _ :: vs, _ :: as, i + 1, v, h, e => AllAt.at (vs := vs) (as := as) (i := i) h.2 e
  | [], [], _, _, _, e => by simp at e
  | [], _ :: _, _, _, h, _ => h.elim
  | _ :: _, [], _, _, h, _ => h.elim
theorem AllAt.snoc {H : Hp} {v : V} {a : A3} (hv : AtomAt H v a) : ∀ {vs : List V} {as : List A3}, AllAt H vs as → AllAt H (vs ++ [v]) (as ++ [a])
  | [], [], _ => ⟨hv, trivial⟩
  | _ :: vs, _ :: as, h => ⟨h.1, AllAt.snoc hv h.2⟩
  | [], _ :: _, h => h.elim
  | _ :: _, [], h => h.elim
def FactAt (H : Hp) (v : V) (as : List A3) : Prop := ∃ p xs, v = .ref p ∧ H p = some (.tup xs) ∧ AllAt H xs as
theorem FactAt.ex {H H' : Hp} {v : V} {as : List A3} (e : Ex H H') (h : FactAt H v as) : FactAt H' v as := by
  obtain ⟨p, xs, h1, h2, h3⟩ := h
  exact ⟨p, xs, h1, e _ _ h2, h3.tex (TEx.of e)⟩
def atD (a : A3) : PyData := .tuple ((sl3 a).map PyData.str)
theorem dp_strs {K : PySem.W.Frag} {H : Hp} : ∀ ns : List Str, DpAll K H (ns.map V.str) (ns.map PyData.str)
  | [] => .nil
  | n :: ns => .cons (.str n) (dp_strs ns)
theorem AtomAt.dp {K : PySem.W.Frag} {H : Hp} {v : V} {a : A3} (h : AtomAt H v a) : Dp K H v (atD a) := by
  obtain ⟨p, rfl, h2⟩ := h
  exact .tup (st_of h2) (dp_strs _)
theorem AllAt.dp {K : PySem.W.Frag} {H : Hp} : ∀ {vs : List V} {as : List A3}, AllAt H vs as → DpAll K H vs (as.map atD)
  | [], [], _ => .nil
  | _ :: vs, _ :: as, h => .cons h.1.dp (AllAt.dp h.2)
  | [], _ :: _, h => h.elim
  | _ :: _, [], h => h.elim
def faD (as : List A3) : PyData := .tuple (as.map atD)
theorem FactAt.dp {K : PySem.W.Frag} {H : Hp} {v : V} {as : List A3} (h : FactAt H v as) : Dp K H v (faD as) := by
  obtain ⟨p, xs, rfl, h2, h3⟩ := h
  exact .tup (st_of h2) h3.dp
/-! ### the mathematics -/
def isR (r : Str) : Bool := r == "eq" || r == "lt" || r == "gt" || r == ""
def trR (r : Str) : Str := if r = "lt" then "gt" else if r = "gt" then "lt" else r
def trA (a : A3) : A3 := (trR a.1, a.2.2, a.2.1)
def okp (p a : Str) : Bool := (("" : Str) == p) || (a == p)
def fitL (p a : A3) : List Bool := List.zipWith okp (sl3 p) (sl3 a)
def fitB (p a : A3) : Bool := (fitL p a).all id
theorem isR_cases {r : Str} (h : isR r = true) : r = "eq" ∨ r = "lt" ∨ r = "gt" ∨ r = "" := by
  simp only [isR, Bool.or_eq_true, beq_iff_eq] at h
  rcases h with ((h | h) | h) | h
  · exact .inl h
  · exact .inr (.inl h)
  · exact .inr (.inr (.inl h))
  · exact .inr (.inr (.inr h))
theorem trR_trR {r : Str} (h : isR r = true) : trR (trR r) = r := by
  rcases isR_cases h with rfl | rfl | rfl | rfl <;> decide +kernel
theorem trR_isR {r : Str} (h : isR r = true) : isR (trR r) = true := by
  rcases isR_cases h with rfl | rfl | rfl | rfl <;> decide +kernel
theorem trA_trA {a : A3} (h : isR a.1 = true) : trA (trA a) = a := by
  obtain ⟨r, l, t⟩ := a
  show (trR (trR r), l, t) = (r, l, t)
  rw [trR_trR h]
theorem okp_trR {p a : Str} (hp : isR p = true) (ha : isR a = true) : okp (trR p) a = okp p (trR a) := by
  rcases isR_cases hp with rfl | rfl | rfl | rfl <;> rcases isR_cases ha with rfl | rfl | rfl | rfl <;> decide +kernel
theorem fitB_eq (p a : A3) : fitB p a = (okp p.1 a.1 && (okp p.2.1 a.2.1 && okp p.2.2 a.2.2)) := by
  show (okp p.1 a.1 && (okp p.2.1 a.2.1 && (okp p.2.2 a.2.2 && true))) = _
  rw [Bool.and_true]
theorem fitB_tr {p a : A3} (hp : isR p.1 = true) (ha : isR a.1 = true) : fitB (trA p) a = fitB p (trA a) := by
  rw [fitB_eq, fitB_eq]
  show (okp (trR p.1) a.1 && (okp p.2.2 a.2.1 && okp p.2.1 a.2.2)) = (okp p.1 (trR a.1) && (okp p.2.1 a.2.2 && okp p.2.2 a.2.1))
  rw [okp_trR hp ha, Bool.and_comm (okp p.2.2 a.2.1)]
theorem okp_self (a : Str) : okp a a = true := by simp [okp]
theorem fitB_self (a : A3) : fitB a a = true := by
  rw [fitB_eq, okp_self, okp_self, okp_self]
  rfl
def lay (z : Str) : Bool := (PyData.str z).canLay0
def sOk (a : A3) : Bool := lay a.1 && (lay a.2.1 && lay a.2.2)
theorem shp_at {a : A3} (h : sOk a = true) : SeqAt.shaped (atD a) = true := by
  show ((lay a.1 && (lay a.2.1 && (lay a.2.2 && true))) && true) = true
  rw [Bool.and_true, Bool.and_true]
  exact h
theorem nm_ok {z : Str} (h : isNm z = true) : lay z = true := by
  unfold isNm at h
  rw [Bool.and_eq_true] at h
  show z.cps.all (· < 0x110000) = true
  rw [← Array.all_toList, List.all_eq_true]
  intro c hc
  have q := (List.all_eq_true.mp h.2) c hc
  simp only [lowc, Bool.and_eq_true, decide_eq_true_eq] at q
  exact decide_eq_true (by omega)
theorem rel_ok {r : Str} (h : isR r = true) : lay r = true := by
  rcases isR_cases h with rfl | rfl | rfl | rfl <;> decide +kernel
theorem eqv_at (a b : A3) : PyData.eqv (atD a) (atD b) = decide (a = b) := by
  obtain ⟨a1, a2, a3⟩ := a
  obtain ⟨b1, b2, b3⟩ := b
  show (a1 == b1 && (a2 == b2 && (a3 == b3 && true))) = decide ((a1, a2, a3) = (b1, b2, b3))
  rw [Bool.and_true]
  by_cases h1 : a1 = b1 <;> by_cases h2 : a2 = b2 <;> by_cases h3 : a3 = b3 <;> simp [h1, h2, h3]
theorem eqv_ats : ∀ as bs : List A3, PyData.eqvAll (as.map atD) (bs.map atD) = decide (as = bs)
  | [], [] => rfl
  | [], _ :: _ => rfl
  | _ :: _, [] => rfl
  | a :: as, b :: bs => by
    show (PyData.eqv (atD a) (atD b) && PyData.eqvAll (as.map atD) (bs.map atD)) = decide (a :: as = b :: bs)
    rw [eqv_at, eqv_ats as bs]
    by_cases h1 : a = b <;> by_cases h2 : as = bs <;> simp [h1, h2]
theorem shp_fa {as : List A3} (h : as.length ≤ 2) (hs : ∀ a ∈ as, sOk a = true) : SeqAt.shaped (faD as) = true := by
  have hk : ∀ a ∈ as, (atD a).canLay0 = true := fun a ha => (Bool.and_eq_true_iff.mp (shp_at (hs a ha))).1
  match as, h, hk with
  | [], _, _ => rfl
  | [a], _, hk =>
    show (((atD a).canLay0 && true) && true) = true
    rw [hk a (by simp)]
    rfl
  | [a, b], _, hk =>
    show (((atD a).canLay0 && ((atD b).canLay0 && true)) && true) = true
    rw [hk a (by simp), hk b (by simp)]
    rfl
  | _ :: _ :: _ :: _, h, _ => simp at h
theorem eqv_fa (as bs : List A3) : PyData.eqv (faD as) (faD bs) = decide (as = bs) := eqv_ats as bs
def isR3 (r : Str) : Bool := r == "eq" || r == "lt" || r == "gt"
theorem isR_of {r : Str} (h : isR3 r = true) : isR r = true := by
  unfold isR
  unfold isR3 at h
  rw [h]
  rfl
theorem rel_at {r : Int} (h0 : 0 ≤ r) (h1 : r < 4) : ∃ z : Str, isR3 z = true ∧ atI [V.str "eq", V.str "lt", V.str "gt", V.str "lt"] r = some (.str z) := by
  have q : r = 0 ∨ r = 1 ∨ r = 2 ∨ r = 3 := by omega
  rcases q with rfl | rfl | rfl | rfl
  · exact ⟨"eq", by decide +kernel, rfl⟩
  · exact ⟨"lt", by decide +kernel, rfl⟩
  · exact ⟨"gt", by decide +kernel, rfl⟩
  · exact ⟨"lt", by decide +kernel, rfl⟩
theorem okp_full {p a : Str} (h : p ≠ "") : okp p a = decide (p = a) := by
  unfold okp
  have h1 : (("" : Str) == p) = false := beq_eq_false_iff_ne.mpr fun e => h e.symm
  rw [h1, Bool.false_or]
  by_cases e : p = a
  · subst e
    simp
  · have e2 : ¬ a = p := fun z => e z.symm
    have e3 : (a == p) = false := beq_eq_false_iff_ne.mpr e2
    rw [e3]
    simp [e]
theorem fitB_full {p a : A3} (h1 : p.1 ≠ "") (h2 : p.2.1 ≠ "") (h3 : p.2.2 ≠ "") : fitB p a = decide (p = a) := by
  obtain ⟨p1, p2, p3⟩ := p
  obtain ⟨a1, a2, a3⟩ := a
  rw [fitB_eq]
  show (okp p1 a1 && (okp p2 a2 && okp p3 a3)) = _
  rw [okp_full h1, okp_full h2, okp_full h3]
  by_cases e1 : p1 = a1 <;> by_cases e2 : p2 = a2 <;> by_cases e3 : p3 = a3 <;> simp [e1, e2, e3]
theorem fitB_none (a : A3) : fitB ("", "", "") a = true := by
  rw [fitB_eq]
  show ((("" : Str) == "" || _) && (((("" : Str) == "") || _) && ((("" : Str) == "") || _))) = true
  rw [show (("" : Str) == "") = true from by decide +kernel]
  rfl
theorem isR3_ne {r : Str} (h : isR3 r = true) : r ≠ "" := by
  intro e
  subst e
  revert h
  decide +kernel
theorem nm_ne {z : Str} (h : isNm z = true) : z ≠ "" := by
  intro e
  subst e
  revert h
  decide +kernel
abbrev s_l_atom : Stmt := top 45
theorem sc_l_atom : FnScope ["_law_bag_here", "_law_things"] ["_law_bag_here", "_law_things"] (defScope s_l_atom) := ⟨rfl, rfl, rfl, by decide +kernel, rfl, by decide +kernel, by decide +kernel⟩
section
variable {P : Program} {w : World} {K : PySem.W.Frag} {mg : Str → Option Value} {base : Heap}
def spAtom : Sp := fun vs H Q _ => ∃ (b p : Addr) (ns : List Str), vs = [.ref b, .ref p] ∧ BagAt H b ∧ H p = some (.lst (ns.map V.str)) ∧ ns ≠ [] ∧ ns.length ≤ 30 ∧
  ∀ (H' : Hp) (v : V) (a : A3), Ex H H' → AtomAt H' v a → isR3 a.1 = true → a.2.1 ∈ ns → a.2.2 ∈ ns → Q v H'
theorem ok_atom (T : Txt0 mg) (D : Df K mg "_law_atom" s_l_atom) (c_l_take : CalG P w K mg base 1 "_law_take" spTake) (c_l_some : CalG P w K mg base 2 "_law_some" (spSome K)) : CalG P w K mg base 3 "_law_atom" spAtom := by
  refine cal_mk D sc_l_atom (fun _ _ _ _ _ _ us hl => match us, hl with | [_, _], _ => rfl) (fun vs H Q E h => ?_) (fun f cdv A outer s H vs Q E hr hG h => ?_)
  · obtain ⟨b, p, ns, rfl, _⟩ := h
    rfl
  · obtain ⟨b, p, ns, rfl, hb, hp, hne, hl, q⟩ := h
    refine ⟨_, (pss_one (ps_ret (pe_tup (pa_cons (pe_ix ixAny (pe_lst (pa_cons pe_str (pa_cons pe_str (pa_cons pe_str (pa_cons pe_str pa_nil))))) (pe_cG c_l_take hr hG (by decide) rfl (pa_cons (pv 0) (pa_cons pe_int pa_nil))) (fun _ _ => rfl)) (pa_cons (pe_cG c_l_some hr hG (by decide) rfl (pa_cons (pv 0) (pa_cons (pv 1) pa_nil))) (pa_cons (pe_cG c_l_some hr hG (by decide) rfl (pa_cons (pv 0) (pa_cons (pv 1) pa_nil))) pa_nil)))))), ?_⟩
    refine ⟨by show 4 ≤ sizeLine; decide, fun l hl1 => ?_⟩
    generalize hq1 : upd H l _ = H1
    obtain ⟨e1, h1⟩ := gen1 hq1 hl1
    refine ⟨_, rfl, b, 4, rfl, hb.ex e1, by decide, by decide, fun H2 r r0 r1 e2 => ?_⟩
    obtain ⟨z, hz, hat⟩ := rel_at r0 r1
    refine .inl ⟨l, _, r, _, rfl, rfl, sq_of (e2 _ _ h1), hat, ?_⟩
    have e12 := e1.trans e2
    have hne' : ns.map V.str ≠ [] := fun e => hne (List.map_eq_nil_iff.mp e)
    refine ⟨_, rfl, _, rfl, b, p, _, rfl, hb.ex e12, .inl (sq_of (e12 _ _ hp)), hne', by rw [List.length_map]; omega, fun H3 i x e3 hx => ?_⟩
    obtain ⟨x1, hx1, rfl⟩ := str_at hx
    refine ⟨_, rfl, _, rfl, b, p, _, rfl, hb.ex (e12.trans e3), .inl (sq_of (e3 _ _ (e12 _ _ hp))), hne', by rw [List.length_map]; omega, fun H4 j y e4 hy => ?_⟩
    obtain ⟨y1, hy1, rfl⟩ := str_at hy
    refine ⟨by show 3 ≤ sizeLine; decide, fun t ht => ?_⟩
    exact q _ _ (z, x1, y1) (((e12.trans e3).trans e4).trans (Ex.new ht)) ⟨t, rfl, upd_same⟩ hz (List.mem_of_getElem? hx1) (List.mem_of_getElem? hy1)
end
abbrev s_l_pattern : Stmt := top 46
theorem sc_l_pattern : FnScope ["_law_bag_here", "_law_things", "_law_atom_here", "_law_manner", "_law_k"] ["_law_bag_here", "_law_things"] (defScope s_l_pattern) := ⟨rfl, rfl, rfl, by decide +kernel, rfl, by decide +kernel, by decide +kernel⟩
section
variable {P : Program} {w : World} {K : PySem.W.Frag} {mg : Str → Option Value} {base : Heap}
def spPattern : Sp := fun vs H Q _ => ∃ (b p : Addr) (ns : List Str), vs = [.ref b, .ref p] ∧ BagAt H b ∧ H p = some (.lst (ns.map V.str)) ∧ ns ≠ [] ∧ ns.length ≤ 30 ∧
  ∀ (H' : Hp) (v : V) (a : A3), Ex H H' → AtomAt H' v a → isR a.1 = true → (a.2.1 = "" ∨ a.2.1 ∈ ns) → (a.2.2 = "" ∨ a.2.2 ∈ ns) → Q v H'
theorem two_at (i : Nat) (h : i < 3) : ∃ d : Int, 0 < d ∧ d < 8 ∧ atI [V.int 1, V.int 2, V.int 4] (i : Int) = some (.int d) := by
  have q : i = 0 ∨ i = 1 ∨ i = 2 := by omega
  rcases q with rfl | rfl | rfl
  · exact ⟨1, by decide, by decide, rfl⟩
  · exact ⟨2, by decide, by decide, rfl⟩
  · exact ⟨4, by decide, by decide, rfl⟩
theorem ok_pattern (T : Txt0 mg) (D : Df K mg "_law_pattern" s_l_pattern) (c_l_take : CalG P w K mg base 1 "_law_take" spTake) (c_l_atom : CalG P w K mg base 3 "_law_atom" spAtom) : CalG P w K mg base 4 "_law_pattern" spPattern := by
  refine cal_mk D sc_l_pattern (fun _ _ _ _ _ _ us hl => match us, hl with | [_, _], _ => rfl) (fun vs H Q E h => ?_) (fun f cdv A outer s H vs Q E hr hG h => ?_)
  · obtain ⟨b, p, ns, rfl, _⟩ := h
    rfl
  · obtain ⟨b, p, ns, rfl, hb, hp, hne, hl, q⟩ := h
    refine ⟨_, (pss_cons (ps_asg (pe_tup (pa_cons (pe_cG c_l_atom hr hG (by decide) rfl (pa_cons (pv 0) (pa_cons (pv 1) pa_nil))) (pa_cons (pe_cG c_l_take hr hG (by decide) rfl (pa_cons (pv 0) (pa_cons pe_int pa_nil))) pa_nil))) (pg_tup rfl (pgs_cons (pg_name (i := 2) sc_l_pattern.nd rfl (Or.inr rfl)) (pgs_cons (pg_name (i := 3) sc_l_pattern.nd rfl (Or.inr rfl)) pgs_nil))))
      (pss_one (ps_ret (pe_callTy call_tuple_of (by rfl) T.tuple (by decide +kernel) (pa_cons (pe_lcO (pe_lc (own := [("_law_k", 4)]) rfl sc_l_pattern.nd (pi_range1 rfl T.range (pa_cons pe_int pa_nil)) (blkOk_by (own := [("_law_k", 4)]) (N := ["_law_bag_here", "_law_things", "_law_atom_here", "_law_manner", "_law_k"]) (sc := defScope s_l_pattern) (by first | decide +kernel | kernel_rfl)) (fun _ _ _ _ _ => pg_name (i := 4) sc_l_pattern.nd rfl (Or.inl rfl)) (fun _ _ _ _ _ => pts_nil) (fun _ _ _ _ _ => pe_ifExp (pt_cmpR (opEqB hr) (pe_op op_mod (pe_callTy call_int1 (by rfl) T.int (by decide +kernel) (pa_cons (pe_op op_fdivW (pv 3) (pe_ix ixAnyB (pe_lst (pa_cons pe_int (pa_cons pe_int (pa_cons pe_int pa_nil)))) (pv 4) (fun _ _ => rfl))) pa_nil)) pe_int) pe_int (nomark _)) (pe_ix ixAnyB (pv 2) (pv 4) (fun _ _ => rfl)) pe_str))) pa_nil))))), ?_⟩
    refine ⟨_, rfl, _, rfl, b, p, ns, rfl, hb, hp, hne, hl, fun H1 va a e1 ha hR h1 h2 => ?_⟩
    refine ⟨_, rfl, b, 8, rfl, hb.ex e1, by decide, by decide, fun H2 r r0 r1 e2 => ?_⟩
    obtain ⟨pa, rfl, hpa⟩ := ha.ex e2
    refine ⟨by show 2 ≤ sizeLine; decide, fun tq htq => ?_⟩
    generalize hqt : upd H2 tq _ = H2' 
    obtain ⟨et, ht⟩ := gen1 hqt htq
    refine ⟨tq, _, rfl, st_of ht, rfl, _, _, rfl, _, _, rfl, rfl, ?_⟩
    have hpa := et _ _ hpa
    have e2 := e2.trans et
    refine ⟨3, rfl, by decide, by decide, ?_⟩
    refine lcG (walk_range (lo := 0) (n := 3)) (by decide) trivial (fun _ _ _ _ => trivial) yFn_ex (fun i ys _ => ∃ zs : List Str, ys = zs.map V.str ∧ zs.length = i ∧ ∀ (j : Nat) z, zs[j]? = some z → z = "" ∨ (sl3 a)[j]? = some z) (fun _ _ _ _ _ h => h) ⟨[], rfl, rfl, fun j z hz => by simp at hz⟩ ?_ ?_
    · rintro i x H3 H4 ys hi e3 ⟨rfl, rfl⟩ ⟨zs, rfl, hzl, hzs⟩ N N0 kN kN0
      have z0 : (0 : Int) + (i : Int) = (i : Int) := Int.zero_add _
      obtain ⟨d, d0, d8, hd⟩ := two_at i hi
      refine ⟨rfl, ?_⟩
      refine ⟨_, rfl, by show 3 ≤ sizeLine; decide, fun l hl1 => ?_⟩
      generalize hq5 : upd H4 l _ = H5
      obtain ⟨e5, h5⟩ := gen1 hq5 hl1
      refine ⟨_, rfl, .inl ⟨l, _, _, _, rfl, rfl, sq_of h5, (by rw [z0]; exact hd), ?_⟩⟩
      refine ⟨_, _, rfl, rfl, wide_div d0 (b := 30) (by omega) (by decide) (by decide), .inl ⟨_, rfl, ?_⟩⟩
      refine ⟨_, _, rfl, rfl, (show (0 : Int) < 2 by decide), .inl ⟨rfl, _, rfl, ?_⟩⟩
      have grow : ∀ z : Str, (z = "" ∨ (sl3 a)[i]? = some z) → ∃ zs' : List Str, zs.map V.str ++ [V.str z] = zs'.map V.str ∧ zs'.length = i + 1 ∧ ∀ (j : Nat) y, zs'[j]? = some y → y = "" ∨ (sl3 a)[j]? = some y := fun z hz =>
        ⟨zs ++ [z], by rw [List.map_append]; rfl, by rw [List.length_append, hzl]; rfl, fun j y hy => by
          rw [List.getElem?_append] at hy
          split at hy
          · exact hzs j y hy
          · rename_i hj
            rw [List.getElem?_singleton] at hy
            split at hy
            · cases hy
              have : j = i := by omega
              rw [this]
              exact hz
            · cases hy⟩
      have hi3 : i < (sl3 a).length := hi
      refine ite2 (fun _ => ?_) (fun _ => ?_)
      · refine ⟨_, rfl, _, rfl, .inr (.inl ⟨pa, _, _, .str (sl3 a)[i], rfl, rfl, st_of (e5 _ _ (e3 _ _ hpa)), ?_, ?_⟩)⟩
        · rw [z0]
          refine atI_nat ?_
          rw [List.getElem?_map, List.getElem?_eq_getElem hi3]
          rfl
        · exact kN _ _ e5 (grow _ (.inr (List.getElem?_eq_getElem hi3)))
      · exact kN _ _ e5 (grow _ (.inl rfl))
    · rintro l H3 ys hl3 e3 h3 _ ⟨zs, rfl, hzl, hzs⟩
      obtain ⟨z1, z2, z3, rfl⟩ : ∃ z1 z2 z3, zs = [z1, z2, z3] := by
        match zs, hzl with
        | [z1, z2, z3], _ => exact ⟨z1, z2, z3, rfl⟩
      refine ⟨l, _, rfl, .inl ⟨sq_of h3, fun x hx => ?_⟩⟩
      refine q _ _ (z1, z2, z3) (((e1.trans e2).trans e3).trans (Ex.new hx)) ⟨x, rfl, upd_same⟩ ?_ ?_ ?_
      · rcases hzs 0 z1 rfl with h | h
        · show isR z1 = true
          rw [h]
          decide +kernel
        · cases h
          exact isR_of hR
      · rcases hzs 1 z2 rfl with h | h
        · exact .inl h
        · cases h
          exact .inr h1
      · rcases hzs 2 z3 rfl with h | h
        · exact .inl h
        · cases h
          exact .inr h2
end
theorem fin_at {a : A3} (h : sOk a = true) (h1 : a.1.length ≤ 8) (h2 : a.2.1.length ≤ 8) (h3 : a.2.2.length ≤ 8) : fin 1 300 (atD a) := by
  unfold sOk lay at h
  rw [Bool.and_eq_true, Bool.and_eq_true] at h
  refine (fin_tup (n := 0) (W := 82) (m := 3) (fun d hd => ?_) (Nat.le_refl _)).mono (by decide) (by decide)
  have hd : d ∈ [PyData.str a.1, PyData.str a.2.1, PyData.str a.2.2] := hd
  simp only [List.mem_cons, List.not_mem_nil, or_false] at hd
  rcases hd with rfl | rfl | rfl
  · exact fin_str (L := 8) h.1 h1
  · exact fin_str (L := 8) h.2.1 h2
  · exact fin_str (L := 8) h.2.2 h3
def gA (a : A3) : Prop := sOk a = true ∧ a.1.length ≤ 8 ∧ a.2.1.length ≤ 8 ∧ a.2.2.length ≤ 8
theorem gA.fin {a : A3} (h : gA a) : fin 1 300 (atD a) := fin_at h.1 h.2.1 h.2.2.1 h.2.2.2
theorem fin_fa {as : List A3} (h : ∀ a ∈ as, gA a) (h2 : as.length ≤ 2) : Own.fin 2 700 (faD as) := by
  refine (fin_tup (n := 1) (W := 300) (m := 2) (fun d hd => ?_) (by rw [List.length_map]; exact h2)).mono (by decide) (by decide)
  obtain ⟨a, ha, rfl⟩ := List.mem_map.mp hd
  exact (h a ha).fin
theorem rel_len {r : Str} (h : isR r = true) : r.length ≤ 8 := by
  rcases isR_cases h with rfl | rfl | rfl | rfl <;> decide
theorem nm_len {z : Str} (h : isNm z = true) : z.length ≤ 8 := by
  unfold isNm at h
  simp only [Bool.and_eq_true, decide_eq_true_eq] at h
  exact h.1.2
theorem gA_of {ns : List Str} (hnm : ∀ z ∈ ns, isNm z = true) {a : A3} (h0 : isR a.1 = true) (h1 : a.2.1 = "" ∨ a.2.1 ∈ ns) (h2 : a.2.2 = "" ∨ a.2.2 ∈ ns) : gA a := by
  have ok : ∀ z : Str, (z = "" ∨ z ∈ ns) → lay z = true ∧ z.length ≤ 8 := fun z hz => by
    rcases hz with rfl | hz
    · exact ⟨by decide +kernel, by decide⟩
    · exact ⟨nm_ok (hnm z hz), nm_len (hnm z hz)⟩
  refine ⟨?_, rel_len h0, (ok _ h1).2, (ok _ h2).2⟩
  show (lay a.1 && (lay a.2.1 && lay a.2.2)) = true
  rw [rel_ok h0, (ok _ h1).1, (ok _ h2).1]
  rfl
theorem gA.tr {a : A3} (h : gA a) (hr : isR a.1 = true) : gA (trA a) := by
  obtain ⟨h1, h2, h3, h4⟩ := h
  have hr2 := trR_isR hr
  unfold sOk at h1
  rw [Bool.and_eq_true, Bool.and_eq_true] at h1
  refine ⟨?_, rel_len hr2, h4, h3⟩
  show (lay (trR a.1) && (lay a.2.2 && lay a.2.1)) = true
  rw [rel_ok hr2, h1.2.1, h1.2.2]
  rfl
end Own

namespace Own
open PySem PySem.Spec PyProof.Rows L2 Evl
/-! ### what data is -/
structure TxtI (K : PySem.W.Frag) (mg : Str → Option Value) (rel : Addr) : Prop where
  isinstance : mg "isinstance" = none
  str : mg "str" = none
  bool : mg "bool" = none
  tuple : mg "tuple" = none
  g_LONGEST_NAME : ∃ t, mg "LONGEST_NAME" = some (.int 8 t)
  g_RELATIONS : mg "RELATIONS" = some (.ref rel)
  rels : ∀ H, SqT K H rel [.str "eq", .str "lt", .str "gt"]
def rLeA : R2 := fun x y H Z => rLeI x y H Z ∨ ∃ i j, x = .str i ∧ y = .str j ∧ Z (.bl (!decide (j.cps.toList < i.cps.toList))) H
theorem opLeA {X : Cx} : OpR X (compareOp .LtE) rLeA := OpR.or op_le op_le_str
def nmD : PyData → Bool | .str z => isNm z | _ => false
def relD : PyData → Bool | .str z => isR3 z | _ => false
def blankD : PyData → Bool | .str z => decide (z = "") | _ => false
def atomD : PyData → Bool | .tuple [a, b, c] => relD a && (nmD b && nmD c) | _ => false
def partD (d : PyData) : Bool := blankD d || nmD d
def patD : PyData → Bool | .tuple [a, b, c] => (blankD a || relD a) && (partD b && partD c) | _ => false
def factD : PyData → Bool | .tuple ds => decide (1 ≤ ds.length) && (decide (ds.length ≤ 2) && ds.all atomD) | _ => false
def rowD : PyData → Bool | .tuple [a, b] => nmD a && factD b | _ => false
theorem str_of {d : PyData} (h : isStrD d = true) : ∃ z, d = .str z := by cases d <;> first | exact ⟨_, rfl⟩ | cases h
theorem tup_of {d : PyData} (h : isTupD d = true) : ∃ ds, d = .tuple ds := by cases d <;> first | exact ⟨_, rfl⟩ | cases h
theorem nmD_no {d : PyData} (h : isStrD d = false) : nmD d = false := by cases d <;> first | rfl | cases h
theorem relD_no {d : PyData} (h : isStrD d = false) : relD d = false := by cases d <;> first | rfl | cases h
theorem blankD_no {d : PyData} (h : isStrD d = false) : blankD d = false := by cases d <;> first | rfl | cases h
theorem atomD_no {d : PyData} (h : isTupD d = false) : atomD d = false := by cases d <;> first | rfl | cases h
theorem patD_no {d : PyData} (h : isTupD d = false) : patD d = false := by cases d <;> first | rfl | cases h
theorem factD_no {d : PyData} (h : isTupD d = false) : factD d = false := by cases d <;> first | rfl | cases h
theorem rowD_no {d : PyData} (h : isTupD d = false) : rowD d = false := by cases d <;> first | rfl | cases h
theorem atomD_len : ∀ {ds : List PyData}, ds.length ≠ 3 → atomD (.tuple ds) = false
  | [], _ => rfl
  | [_], _ => rfl
  | [_, _], _ => rfl
  | [_, _, _], h => absurd rfl h
  | _ :: _ :: _ :: _ :: _, _ => rfl
theorem patD_len : ∀ {ds : List PyData}, ds.length ≠ 3 → patD (.tuple ds) = false
  | [], _ => rfl
  | [_], _ => rfl
  | [_, _], _ => rfl
  | [_, _, _], h => absurd rfl h
  | _ :: _ :: _ :: _ :: _, _ => rfl
theorem rowD_len : ∀ {ds : List PyData}, ds.length ≠ 2 → rowD (.tuple ds) = false
  | [], _ => rfl
  | [_], _ => rfl
  | [_, _], h => absurd rfl h
  | _ :: _ :: _ :: _, _ => rfl
theorem Da.str_inv {H : Hp} {v : V} {z : Str} (h : Da H v (.str z)) : v = .str z := by cases h; rfl
theorem Da.tup_inv {H : Hp} {v : V} {ds : List PyData} (h : Da H v (.tuple ds)) : ∃ p xs, v = .ref p ∧ H p = some (.tup xs) ∧ DaAll H xs ds := by cases h with | tup h1 h2 => exact ⟨_, _, rfl, h1, h2⟩
theorem Da.lst_inv {H : Hp} {v : V} {ds : List PyData} (h : Da H v (.list ds)) : ∃ p xs, v = .ref p ∧ H p = some (.lst xs) ∧ DaAll H xs ds := by cases h with | lst h1 h2 => exact ⟨_, _, rfl, h1, h2⟩
theorem three {H : Hp} {xs : List V} {ds : List PyData} (h : DaAll H xs ds) (hl : ds.length = 3) : ∃ x y z a b c, xs = [x, y, z] ∧ ds = [a, b, c] ∧ Da H x a ∧ Da H y b ∧ Da H z c := by
  match ds, xs, h, hl with
  | [a, b, c], _, .cons h1 (.cons h2 (.cons h3 .nil)), _ => exact ⟨_, _, _, _, _, _, rfl, rfl, h1, h2, h3⟩
theorem two {H : Hp} {xs : List V} {ds : List PyData} (h : DaAll H xs ds) (hl : ds.length = 2) : ∃ x y a b, xs = [x, y] ∧ ds = [a, b] ∧ Da H x a ∧ Da H y b := by
  match ds, xs, h, hl with
  | [a, b], _, .cons h1 (.cons h2 .nil), _ => exact ⟨_, _, _, _, rfl, rfl, h1, h2⟩
theorem okD.memT {n W : Nat} {ds : List PyData} (h : okD n W (.tuple ds)) {d : PyData} (hd : d ∈ ds) : okD n W d := by
  obtain ⟨h1, h2, h3⟩ := h
  have q2 : PyData.depthAll ds + 1 ≤ n := h2
  have q3 : wds ds + 3 ≤ W := h3
  have z := wd_mem hd
  exact ⟨gDs_iff.mp h1 d hd, Nat.le_trans (depthAll_le.mp (Nat.le_refl _) d hd) (by omega), by omega⟩
theorem okD.memL {n W : Nat} {ds : List PyData} (h : okD n W (.list ds)) {d : PyData} (hd : d ∈ ds) : okD n W d := okD.memT (ds := ds) h hd
theorem okD.lenT {n W : Nat} {ds : List PyData} (h : okD n W (.tuple ds)) : 5 * ds.length ≤ W := by
  have q3 : wds ds + 3 ≤ W := h.2.2
  have := len_wds ds
  omega
theorem int_ne (n m : Nat) : (!decide (V.int (n : Int) = V.int (m : Int))) = !decide (n = m) := by
  by_cases h : n = m
  · rw [h]
    simp
  · rw [decide_eq_false h, decide_eq_false (show ¬ V.int (n : Int) = V.int (m : Int) from fun e => h (Int.ofNat.inj (V.int.inj e)))]
theorem int_eq (n m : Nat) : decide (V.int (n : Int) = V.int (m : Int)) = decide (n = m) := by
  by_cases h : n = m
  · rw [h]
    simp
  · rw [decide_eq_false h, decide_eq_false (show ¬ V.int (n : Int) = V.int (m : Int) from fun e => h (Int.ofNat.inj (V.int.inj e)))]
theorem one_lt (a b : Nat) : decide (([a] : List Nat) < [b]) = decide (a < b) := by
  by_cases h : a < b
  · rw [decide_eq_true h, decide_eq_true (List.cons_lt_cons_iff.mpr (.inl h))]
  · rw [decide_eq_false h, decide_eq_false]
    intro e
    rcases List.cons_lt_cons_iff.mp e with e | ⟨_, e⟩
    · exact h e
    · exact absurd e (by simp)
theorem le_a (c : Nat) : (!decide ((sgn c).cps.toList < (Str.ofString "a").cps.toList)) = decide (97 ≤ c) := by
  show (!decide (([c] : List Nat) < [97])) = _
  rw [one_lt]
  by_cases h : c < 97
  · rw [decide_eq_true h, decide_eq_false (by omega)]
    rfl
  · rw [decide_eq_false h, decide_eq_true (by omega)]
    rfl
theorem le_z (c : Nat) : (!decide ((Str.ofString "z").cps.toList < (sgn c).cps.toList)) = decide (c ≤ 122) := by
  show (!decide (([122] : List Nat) < [c])) = _
  rw [one_lt]
  by_cases h : 122 < c
  · rw [decide_eq_true h, decide_eq_false (by omega)]
    rfl
  · rw [decide_eq_false h, decide_eq_true (by omega)]
    rfl
theorem rel_in (z : Str) : inV (.str z) [.str "eq", .str "lt", .str "gt"] = isR3 z := by
  rw [show [V.str "eq", V.str "lt", V.str "gt"] = (["eq", "lt", "gt"] : List Str).map V.str from rfl, in_strs]
  unfold isR3
  by_cases h1 : z = "eq" <;> by_cases h2 : z = "lt" <;> by_cases h3 : z = "gt" <;> simp [h1, h2, h3]
theorem tk {α : Type} {l : List α} {i : Nat} {x : α} (h : l[i]? = some x) : l.take (i + 1) = l.take i ++ [x] := by
  rw [List.take_add_one, h]
  rfl
section
variable {P : Program} {w : World} {K : PySem.W.Frag} {mg : Str → Option Value} {base : Heap} {rel : Addr}
def spIs (p : PyData → Bool) : Sp := fun vs H Q _ => ∃ (v : V) (d : PyData), vs = [v] ∧ Da H v d ∧ okD 40 16000000 d ∧ ∀ H', Ex H H' → Q (.bl (p d)) H'
end
abbrev s_is_name : Stmt := top 13
theorem sc_is_name : FnScope ["thing", "letter"] ["thing"] (defScope s_is_name) := ⟨rfl, rfl, rfl, by decide +kernel, rfl, by decide +kernel, by decide +kernel⟩
abbrev s_is_relation : Stmt := top 14
theorem sc_is_relation : FnScope ["thing"] ["thing"] (defScope s_is_relation) := ⟨rfl, rfl, rfl, by decide +kernel, rfl, by decide +kernel, by decide +kernel⟩
abbrev s_is_blank : Stmt := top 16
theorem sc_is_blank : FnScope ["thing"] ["thing"] (defScope s_is_blank) := ⟨rfl, rfl, rfl, by decide +kernel, rfl, by decide +kernel, by decide +kernel⟩
abbrev s_is_pattern : Stmt := top 17
theorem sc_is_pattern : FnScope ["thing", "part"] ["thing"] (defScope s_is_pattern) := ⟨rfl, rfl, rfl, by decide +kernel, rfl, by decide +kernel, by decide +kernel⟩
section
variable {P : Program} {w : World} {K : PySem.W.Frag} {mg : Str → Option Value} {base : Heap} {rel : Addr}
theorem ok_is_name (T : Txt0 mg) (TI : TxtI K mg rel) (D : Df K mg "is_name" s_is_name) : CalG P w K mg base 1 "is_name" (spIs nmD) := by
  obtain ⟨t0, g_LONGEST_NAME⟩ := TI.g_LONGEST_NAME
  refine cal_mk D sc_is_name (fun _ _ _ _ _ _ us hl => match us, hl with | [_], _ => rfl) (fun vs H Q E h => ?_) (fun f cdv A outer s H vs Q E hr hG h => ?_)
  · obtain ⟨v, d, rfl, _⟩ := h
    rfl
  · obtain ⟨v, d, rfl, hv, hok, q⟩ := h
    refine ⟨_, (pss_cons (ps_if (PW.pt (pw_or (pt_not (pt_val (pe_callB call_isi (by rfl) TI.isinstance (by decide +kernel) (pa_cons (pv 0) (pa_cons (pe_bltn (v := .ty "str") (by rfl) TI.str (by decide +kernel) rfl) pa_nil))))) (pw_or1 (pt_not (pt_chain opLeA opLeA pe_int (pe_callB callLen (by rfl) T.len PySem.boot_len (pa_cons (pv 0) pa_nil)) (pe_glob (v := .int _) rfl g_LONGEST_NAME ⟨_, rfl⟩)))))) (pss_one (ps_ret pe_bl)) pss_nil)
      (pss_one (ps_ret (pe_callB (cr_all rfl) (by rfl) T.all (by decide +kernel) (pa_cons (pe_lcO (pe_lc (own := [("letter", 1)]) rfl sc_is_name.nd (piAny (pv 0)) (blkOk_by (own := [("letter", 1)]) (N := ["thing", "letter"]) (sc := defScope s_is_name) (by first | decide +kernel | kernel_rfl)) (fun _ _ _ _ _ => pg_name (i := 1) sc_is_name.nd rfl (Or.inl rfl)) (fun _ _ _ _ _ => pts_nil) (fun _ _ _ _ _ => pe_chain opLeA opLeA pe_str (pv 1) pe_str))) pa_nil))))), ?_⟩
    refine ⟨_, rfl, v, .ty "str", _, _, _, rfl, .ty _, hv.ty, kit_ty (kit_str d), _, rfl, ?_⟩
    cases hs : isStrD d with
    | false =>
      refine iteT ?_
      rw [← nmD_no hs]
      exact q _ (Ex.refl _)
    | true =>
      obtain ⟨z, rfl⟩ := str_of hs
      have ev := hv.str_inv
      subst ev
      have hw : 10 * z.length + 5 ≤ 16000000 := hok.2.2
      refine iteF ⟨_, rfl, .inr ⟨z, rfl, by show z.length ≤ 16777216; omega, ?_⟩⟩
      refine .inl ⟨_, _, rfl, rfl, _, rfl, ite2 (fun h1 => .inl ⟨_, _, rfl, rfl, _, rfl, ite2 (fun h2 => ?_) (fun h2 => ?_)⟩) (fun h1 => ⟨_, rfl, ifT (by rfl) ?_⟩)⟩
      · have e : nmD (.str z) = false := by
          show (_ && decide (z.length ≤ 8) && _) = false
          have z2 : ¬ ((z.length : Int) ≤ (8 : Int)) := by simpa using h2
          rw [decide_eq_false (show ¬ z.length ≤ 8 by omega), Bool.and_false, Bool.false_and]
        rw [← e]
        exact q _ (Ex.refl _)
      · have z1 : ((1 : Int) ≤ (z.length : Int)) := by simpa using h1
        have z2 : ((z.length : Int) ≤ (8 : Int)) := by simpa using h2
        refine .inr (.inr ⟨_, rfl, z, rfl, ?_⟩)
        refine lcG walk_str (by have z2 : z.cps.size = z.length := rfl; omega) trivial (fun _ _ _ _ => trivial) (fun i H x H' h => by rw [h.1]; exact Ex.refl _) (fun i ys _ => ys = (((TL.tl z).take i).map lowc).map V.bl) (fun _ _ _ _ _ h => h) rfl ?_ ?_
        · rintro i x H1 H2 ys hi e ⟨rfl, c, hc, rfl⟩ rfl N N0 kN kN0
          have hc2 : (TL.tl z)[i]? = some c := by
            show z.cps.toList[i]? = some c
            rw [Array.getElem?_toList]
            exact hc
          have fin : ∀ b : Bool, b = lowc c → N (.bl b) H2 := fun b hb => kN _ _ (Ex.refl _) (by
            rw [tk hc2, List.map_append, List.map_append, hb]
            rfl)
          refine ⟨rfl, ?_⟩
          refine ⟨_, rfl, .inr ⟨_, _, rfl, rfl, _, congrArg V.bl (le_a c), ite2 (fun k1 => .inr ⟨_, _, rfl, rfl, ?_⟩) (fun k1 => fin _ ?_)⟩⟩
          · refine fin _ ?_
            rw [show (!decide ((Str.ofString "z").cps.toList < (⟨#[c]⟩ : Str).cps.toList)) = decide (c ≤ 122) from le_z c]
            unfold lowc
            rw [k1, Bool.true_and]
          · unfold lowc
            rw [show decide (97 ≤ c) = false from by simpa using k1, Bool.false_and]
        · rintro l H1 ys hl e1 h1' _ rfl
          refine ⟨l, _, rfl, sq_of h1', ?_⟩
          have e : ((((TL.tl z).take z.cps.size).map lowc).all id) = nmD (.str z) := by
            rw [show z.cps.size = (TL.tl z).length from by simp, List.take_length, List.all_map]
            show _ = (decide (1 ≤ z.length) && decide (z.length ≤ 8) && (TL.tl z).all lowc)
            rw [decide_eq_true (show 1 ≤ z.length by omega), decide_eq_true (show z.length ≤ 8 by omega)]
            rfl
          rw [e]
          exact q _ e1
      · have e : nmD (.str z) = false := by
          show (decide (1 ≤ z.length) && _ && _) = false
          have z1 : ¬ ((1 : Int) ≤ (z.length : Int)) := by simpa using h1
          rw [decide_eq_false (show ¬ 1 ≤ z.length by omega), Bool.false_and, Bool.false_and]
        rw [← e]
        exact q _ (Ex.refl _)
theorem ok_is_relation (T : Txt0 mg) (TI : TxtI K mg rel) (D : Df K mg "is_relation" s_is_relation) : CalG P w K mg base 1 "is_relation" (spIs relD) := by
  refine cal_mk D sc_is_relation (fun _ _ _ _ _ _ us hl => match us, hl with | [_], _ => rfl) (fun vs H Q E h => ?_) (fun f cdv A outer s H vs Q E hr hG h => ?_)
  · obtain ⟨v, d, rfl, _⟩ := h
    rfl
  · obtain ⟨v, d, rfl, hv, hok, q⟩ := h
    refine ⟨_, (pss_one (ps_ret (pe_and (pe_callB call_isi (by rfl) TI.isinstance (by decide +kernel) (pa_cons (pv 0) (pa_cons (pe_bltn (v := .ty "str") (by rfl) TI.str (by decide +kernel) rfl) pa_nil))) (pe_one (pe_cmpR opIn (pv 0) (pe_glob (v := .ref _) rfl TI.g_RELATIONS rfl) rfl))))), ?_⟩
    refine ⟨_, rfl, v, .ty "str", _, _, _, rfl, .ty _, hv.ty, kit_ty (kit_str d), _, rfl, ?_⟩
    cases hs : isStrD d with
    | false =>
      refine iteF ?_
      rw [← relD_no hs]
      exact q _ (Ex.refl _)
    | true =>
      obtain ⟨z, rfl⟩ := str_of hs
      have ev := hv.str_inv
      subst ev
      refine iteT ⟨_, rfl, .inl ⟨rel, _, rfl, .inr (TI.rels H), rfl, rfl, ?_⟩⟩
      show Q (.bl (inV (.str z) [.str "eq", .str "lt", .str "gt"])) H
      rw [rel_in]
      exact q _ (Ex.refl _)
theorem ok_is_blank (T : Txt0 mg) (TI : TxtI K mg rel) (D : Df K mg "is_blank" s_is_blank) : CalG P w K mg base 1 "is_blank" (spIs blankD) := by
  refine cal_mk D sc_is_blank (fun _ _ _ _ _ _ us hl => match us, hl with | [_], _ => rfl) (fun vs H Q E h => ?_) (fun f cdv A outer s H vs Q E hr hG h => ?_)
  · obtain ⟨v, d, rfl, _⟩ := h
    rfl
  · obtain ⟨v, d, rfl, hv, hok, q⟩ := h
    refine ⟨_, (pss_one (ps_ret (pe_and (pe_callB call_isi (by rfl) TI.isinstance (by decide +kernel) (pa_cons (pv 0) (pa_cons (pe_bltn (v := .ty "str") (by rfl) TI.str (by decide +kernel) rfl) pa_nil))) (pe_one (pe_cmpR (opEq hr) (pv 0) pe_str (nomark _)))))), ?_⟩
    refine ⟨_, rfl, v, .ty "str", _, _, _, rfl, .ty _, hv.ty, kit_ty (kit_str d), _, rfl, ?_⟩
    cases hs : isStrD d with
    | false =>
      refine iteF ?_
      rw [← blankD_no hs]
      exact q _ (Ex.refl _)
    | true =>
      obtain ⟨z, rfl⟩ := str_of hs
      have ev := hv.str_inv
      subst ev
      refine iteT ⟨_, rfl, .inl ⟨rfl, ?_⟩⟩
      have e : decide (V.str z = V.str "") = blankD (.str z) := by
        show _ = decide (z = "")
        by_cases h : z = ""
        · rw [h]
          simp
        · rw [decide_eq_false h, decide_eq_false (fun e => h (V.str.inj e))]
      show Q (.bl (decide (V.str z = V.str ""))) H
      rw [e]
      exact q _ (Ex.refl _)
theorem ok_is_pattern (T : Txt0 mg) (TI : TxtI K mg rel) (D : Df K mg "is_pattern" s_is_pattern) (c_is_relation : CalG P w K mg base 1 "is_relation" (spIs relD)) (c_is_name : CalG P w K mg base 1 "is_name" (spIs nmD)) (c_is_blank : CalG P w K mg base 1 "is_blank" (spIs blankD)) : CalG P w K mg base 2 "is_pattern" (spIs patD) := by
  refine cal_mk D sc_is_pattern (fun _ _ _ _ _ _ us hl => match us, hl with | [_], _ => rfl) (fun vs H Q E h => ?_) (fun f cdv A outer s H vs Q E hr hG h => ?_)
  · obtain ⟨v, a, rfl, _⟩ := h
    rfl
  · obtain ⟨v, d, rfl, hv, hok, q⟩ := h
    refine ⟨_, (pss_cons (ps_if (PW.pt (pw_or (pt_not (pt_val (pe_callB call_isi (by rfl) TI.isinstance (by decide +kernel) (pa_cons (pv 0) (pa_cons (pe_bltn (v := .ty "tuple") (by rfl) T.tuple (by decide +kernel) rfl) pa_nil))))) (pw_or1 (pt_cmpR (opNe hr) (pe_callB callLen (by rfl) T.len PySem.boot_len (pa_cons (pv 0) pa_nil)) pe_int (nomark _))))) (pss_one (ps_ret pe_bl)) pss_nil)
      (Evl.pss_cut (ps_if (PW.pt (pw_and (pt_not (pt_val (pe_cG c_is_blank hr hG (by decide) rfl (pa_cons (pe_ix ixAny (pv 0) pe_int (fun _ _ => rfl)) pa_nil)))) (pw_and1 (pt_not (pt_val (pe_cG c_is_relation hr hG (by decide) rfl (pa_cons (pe_ix ixAny (pv 0) pe_int (fun _ _ => rfl)) pa_nil))))))) (pss_one (ps_ret pe_bl)) pss_nil)
      (pss_one (ps_ret (pe_callB (cr_all rfl) (by rfl) T.all (by decide +kernel) (pa_cons (pe_lcO (pe_lc (own := [("part", 1)]) rfl sc_is_pattern.nd (piAny (pe_slice slAny (pv 0) (po_some pe_int) po_none)) (blkOk_by (own := [("part", 1)]) (N := ["thing", "part"]) (sc := defScope s_is_pattern) (by first | decide +kernel | kernel_rfl)) (fun _ _ _ _ _ => pg_name (i := 1) sc_is_pattern.nd rfl (Or.inl rfl)) (fun _ _ _ _ _ => pts_nil) (fun _ _ _ _ _ => (pe_or (pe_cG c_is_blank hr hG (by decide) rfl (pa_cons (pv 1) pa_nil)) (pe_one (pe_cG c_is_name hr hG (by decide) rfl (pa_cons (pv 1) pa_nil))))))) pa_nil)))))), ?_⟩
    refine ⟨_, rfl, v, .ty "tuple", _, _, _, rfl, .ty _, hv.ty, kit_ty (kit_tuple d), _, rfl, ?_⟩
    cases hs : isTupD d with
    | false =>
      refine iteT ?_
      rw [← patD_no hs]
      exact q _ (Ex.refl _)
    | true =>
      obtain ⟨ds, rfl⟩ := tup_of hs
      obtain ⟨p, xs, rfl, hp, hA⟩ := hv.tup_inv
      have hl := hA.len
      refine iteF ⟨_, rfl, .inl ⟨p, _, rfl, .inr (st_of hp), .inl ⟨rfl, _, rfl, ?_⟩⟩⟩
      by_cases h3 : ds.length = 3
      · obtain ⟨x, y, z, a, b, c, rfl, rfl, ha, hb, hc⟩ := three hA h3
        refine ifF (b := !decide (V.int 3 = V.int 3)) (by decide +kernel) ?_
        refine ⟨fun σ' H' => σ' = [some (.ref p), none] ∧ Ex H H' ∧ (blankD a || relD a) = true, ?_, ?_⟩
        · refine ⟨_, rfl, .inr (.inl ⟨p, _, 0, _, rfl, rfl, st_of hp, atI_nat (j := 0) rfl, ?_⟩)⟩
          refine ⟨x, a, rfl, ha, hok.memT (by simp), fun H1 e1 => ⟨_, rfl, ?_⟩⟩
          cases r1 : blankD a with
          | true => exact iteF (iteF ⟨rfl, e1, rfl⟩)
          | false =>
            refine iteT ⟨_, rfl, .inr (.inl ⟨p, _, 0, _, rfl, rfl, st_of (e1 _ _ hp), atI_nat (j := 0) rfl, ?_⟩)⟩
            refine ⟨x, a, rfl, ha.ex e1, hok.memT (by simp), fun H2 e2 => ⟨_, rfl, ?_⟩⟩
            cases r2 : relD a with
            | true => exact iteF ⟨rfl, e1.trans e2, rfl⟩
            | false =>
              refine iteT ?_
              have e : patD (.tuple [a, b, c]) = false := by show ((blankD a || relD a) && _) = false; rw [r1, r2]; rfl
              rw [← e]
              exact q _ (e1.trans e2)
        · rintro σ' H1 ⟨rfl, e1, hrel⟩
          refine .inr (.inl ⟨_, rfl, ?_⟩)
          refine ⟨1, rfl, .inr (.inl ⟨p, _, rfl, st_of (e1 _ _ hp), fun hz => absurd hz.1 (by show ¬ HT.sIx 3 0 (some 1) = 0; decide), fun _ t ht => ?_⟩)⟩
          rw [show (some (1 : Int)) = some ((1 : Nat) : Int) from rfl, cut_from]
          generalize hq2 : upd H1 t _ = H2
          obtain ⟨e2, h2⟩ := gen1 hq2 ht
          have h2 : H2 t = some (.tup [y, z]) := h2
          have e12 := e1.trans e2
          have hA2 : DaAll H2 [y, z] [b, c] := .cons (hb.ex e12) (.cons (hc.ex e12) .nil)
          refine ⟨t, rfl, ⟨_, st_of h2⟩, ?_⟩
          refine lcG (walk_tup (xs := [y, z])) (by show 2 ≤ 40000; decide) (st_of h2) (fun _ _ e h => ex_t e h) yAt_ex (fun i ys _ => ys = (([b, c].take i).map partD).map V.bl) (fun _ _ _ _ _ h => h) rfl ?_ ?_
          · rintro i u H3 H4 ys hi e ⟨rfl, hx⟩ rfl N N0 kN kN0
            obtain ⟨g, hg, hat⟩ := (DaAll.ex e _ hA2).at hx
            have hgm : g ∈ [a, b, c] := List.mem_cons_of_mem _ (List.mem_of_getElem? hg)
            have fin : ∀ (o : Bool) (H5 : Hp), Ex H4 H5 → o = partD g → N (.bl o) H5 := fun o H5 e5 ho => kN _ _ e5 (by
              rw [tk hg, List.map_append, List.map_append, ho]
              rfl)
            refine ⟨rfl, ?_⟩
            refine ⟨_, rfl, u, g, rfl, hat, hok.memT hgm, fun H5 e5 => ⟨_, rfl, ?_⟩⟩
            cases r1 : blankD g with
            | true => exact iteT (fin _ _ e5 (by unfold partD; rw [r1]; rfl))
            | false =>
              refine iteF ⟨_, rfl, u, g, rfl, hat.ex e5, hok.memT hgm, fun H6 e6 => fin _ _ (e5.trans e6) ?_⟩
              unfold partD
              rw [r1, Bool.false_or]
          · rintro l H3 ys hl3 e3 h3' _ rfl
            refine ⟨l, _, rfl, sq_of h3', ?_⟩
            have e : ((([b, c].take [y, z].length).map partD).all id) = patD (.tuple [a, b, c]) := by
              show (partD b && (partD c && true)) = ((blankD a || relD a) && (partD b && partD c))
              rw [hrel, Bool.and_true, Bool.true_and]
            rw [e]
            exact q _ (e12.trans e3)
      · refine ifT (b := !decide (V.int (xs.length : Int) = V.int ((3 : Nat) : Int))) (by rw [int_ne, decide_eq_false (by omega)]; rfl) ?_
        rw [← patD_len h3]
        exact q _ (Ex.refl _)end
end Own

namespace Own
open PySem PySem.Spec PyProof.Rows L2 Evl
/-! ### rows as data -/
theorem strs_da {H : Hp} : ∀ ns : List Str, DaAll H (ns.map V.str) (ns.map PyData.str)
  | [] => .nil
  | n :: ns => .cons (.str n) (strs_da ns)
theorem AtomAt.da {H : Hp} {v : V} {a : A3} (h : AtomAt H v a) : Da H v (atD a) := by
  obtain ⟨p, rfl, h2⟩ := h
  exact .tup h2 (strs_da _)
theorem AllAt.da {H : Hp} : ∀ {vs : List V} {as : List A3}, AllAt H vs as → DaAll H vs (as.map atD)
  | [], [], _ => .nil
  | _ :: vs, _ :: as, h => .cons h.1.da (AllAt.da h.2)
  | [], _ :: _, h => h.elim
  | _ :: _, [], h => h.elim
theorem okD_str {z : Str} {L : Nat} (h : lay z = true) (hl : z.length ≤ L) : okD 0 (10 * L + 5) (.str z) := ⟨h, Nat.le_refl _, by show 10 * z.length + 5 ≤ _; omega⟩
theorem okD_tup {n W : Nat} {ds : List PyData} (h : ∀ d ∈ ds, okD n W d) {m : Nat} (hm : ds.length ≤ m) : okD (n + 1) (m * (W + 2) + 3) (.tuple ds) := by
  refine ⟨gDs_iff.mpr fun d hd => (h d hd).1, Nat.succ_le_succ (depthAll_le.mpr fun d hd => (h d hd).2.1), ?_⟩
  have z : ∀ es : List PyData, (∀ d ∈ es, wd d ≤ W) → wds es ≤ es.length * (W + 2) := by
    intro es
    induction es with
    | nil => exact fun _ => Nat.zero_le _
    | cons e es ih =>
      intro he
      have q1 := he e List.mem_cons_self
      have q2 := ih fun d hd => he d (List.mem_cons_of_mem _ hd)
      show wd e + 2 + wds es ≤ (es.length + 1) * (W + 2)
      rw [Nat.add_mul]
      omega
  have q := z ds fun d hd => (h d hd).2.2
  have q2 := Nat.mul_le_mul_right (W + 2) hm
  show wds ds + 3 ≤ _
  omega
theorem okD_list {n W : Nat} {ds : List PyData} (h : ∀ d ∈ ds, okD n W d) {m : Nat} (hm : ds.length ≤ m) : okD (n + 1) (m * (W + 2) + 3) (.list ds) := okD_tup h hm
theorem gA.okD {a : A3} (h : gA a) : okD 1 264 (atD a) := by
  obtain ⟨h1, h2, h3, h4⟩ := h
  unfold sOk at h1
  rw [Bool.and_eq_true, Bool.and_eq_true] at h1
  refine okD_tup (n := 0) (W := 85) (m := 3) (fun d hd => ?_) (Nat.le_refl _)
  have hd : d ∈ [PyData.str a.1, PyData.str a.2.1, PyData.str a.2.2] := hd
  simp only [List.mem_cons, List.not_mem_nil, or_false] at hd
  rcases hd with rfl | rfl | rfl
  · exact okD_str (L := 8) h1.1 h2
  · exact okD_str (L := 8) h1.2.1 h3
  · exact okD_str (L := 8) h1.2.2 h4
theorem okD_fa {as : List A3} {m : Nat} (h : ∀ a ∈ as, gA a) (h2 : as.length ≤ m) : okD 2 (m * 266 + 3) (faD as) := by
  refine okD_tup (n := 1) (W := 264) (m := m) (fun d hd => ?_) (by rw [List.length_map]; exact h2)
  obtain ⟨a, ha, rfl⟩ := List.mem_map.mp hd
  exact (h a ha).okD
abbrev s_l_world : Stmt := top 44
theorem sc_l_world : FnScope ["_law_bag_here"] ["_law_bag_here"] (defScope s_l_world) := ⟨rfl, rfl, rfl, by decide +kernel, rfl, by decide +kernel, by decide +kernel⟩
structure WOk (ns ts : List Str) : Prop where
  n : ns.length = 3
  t2 : 2 ≤ ts.length
  t4 : ts.length ≤ 4
  nn : ∀ z ∈ ns, isNm z = true
  nt : ∀ z ∈ ts, isNm z = true
def WorldAt (H : Hp) (v : V) (ns ts : List Str) : Prop := ∃ (d pn pt : Addr) (kvs : List (Key × V)), v = .ref d ∧ H d = some (.dK kvs) ∧ valV kvs (Sum.inr "names") = some (.ref pn) ∧ valV kvs (Sum.inr "things") = some (.ref pt) ∧ H pn = some (.lst (ns.map V.str)) ∧ H pt = some (.lst (ts.map V.str))
theorem WorldAt.ex {H H' : Hp} {v : V} {ns ts : List Str} (e : Ex H H') (h : WorldAt H v ns ts) : WorldAt H' v ns ts := by
  obtain ⟨d, pn, pt, kvs, h1, h2, h3, h4, h5, h6⟩ := h
  exact ⟨d, pn, pt, kvs, h1, e _ _ h2, h3, h4, e _ _ h5, e _ _ h6⟩
theorem w_names (x y : V) : valV (mergeK [] [((Sum.inr "names" : Key), x), ((Sum.inr "things" : Key), y)]) (Sum.inr "names") = some x := by rfl
theorem w_things (x y : V) : valV (mergeK [] [((Sum.inr "names" : Key), x), ((Sum.inr "things" : Key), y)]) (Sum.inr "things") = some y := by rfl
section
variable {P : Program} {w : World} {K : PySem.W.Frag} {mg : Str → Option Value} {base : Heap}
def spWorld : Sp := fun vs H Q _ => ∃ (b : Addr), vs = [.ref b] ∧ BagAt H b ∧ ∀ (H' : Hp) (v : V) (ns ts : List Str), Ex H H' → WorldAt H' v ns ts → WOk ns ts → Q v H'
theorem ok_world (T : Txt0 mg) (D : Df K mg "_law_world" s_l_world) (c_l_take : CalG P w K mg base 1 "_law_take" spTake) (c_l_names : CalG P w K mg base 2 "_law_names" spNames) : CalG P w K mg base 3 "_law_world" spWorld := by
  refine cal_mk D sc_l_world (fun _ _ _ _ _ _ us hl => match us, hl with | [_], _ => rfl) (fun vs H Q E h => ?_) (fun f cdv A outer s H vs Q E hr hG h => ?_)
  · obtain ⟨b, rfl, _⟩ := h
    rfl
  · obtain ⟨b, rfl, hb, q⟩ := h
    refine ⟨_, (pss_one (ps_ret (pe_disp (pps_cons pe_str (pe_cG c_l_names hr hG (by decide) rfl (pa_cons (pv 0) (pa_cons pe_int pa_nil))) (pps_cons pe_str (pe_cG c_l_names hr hG (by decide) rfl (pa_cons (pv 0) (pa_cons (pe_op opAdd pe_int (pe_cG c_l_take hr hG (by decide) rfl (pa_cons (pv 0) (pa_cons pe_int pa_nil)))) pa_nil))) pps_nil)) (by rfl) (by rfl) (fun z => by cases z) (by decide)))), fun d hd => ?_⟩
    generalize hq1 : upd H d _ = H1
    obtain ⟨e1, h1⟩ := gen1 hq1 hd
    refine ⟨_, rfl, b, 3, rfl, hb.ex e1, by decide, by decide, fun H2 pn ns e2 _ hpn hnl _ hnn => ?_⟩
    refine ⟨_, rfl, _, rfl, b, 3, rfl, hb.ex (e1.trans e2), by decide, by decide, fun H3 r r0 r1 e3 => .inl ⟨2, r, rfl, rfl, ?_⟩⟩
    refine ⟨b, _, rfl, hb.ex ((e1.trans e2).trans e3), by omega, by omega, fun H4 pt ts e4 _ hpt htl _ hnt => ?_⟩
    have e14 := (e2.trans e3).trans e4
    refine ⟨e14 _ _ h1, [(Sum.inr "names", .ref pn), (Sum.inr "things", .ref pt)], rfl, by show 2 ≤ 15; decide, ?_⟩
    have e34 := e3.trans e4
    have hpn4 := e34 _ _ hpn
    have n1 : pn ≠ d := fun e => by
      rw [e] at hpn4
      rw [e14 _ _ h1] at hpn4
      cases hpn4
    have n2 : pt ≠ d := fun e => by
      rw [e] at hpt
      rw [e14 _ _ h1] at hpt
      cases hpt
    refine q _ _ ns ts (Ex.mut (e1.trans e14) hd) ⟨d, pn, pt, _, rfl, upd_same, w_names _ _, w_things _ _, by rw [upd_ne n1]; exact hpn4, by rw [upd_ne n2]; exact hpt⟩ ⟨by omega, by omega, by omega, hnn, hnt⟩
end
end Own

namespace Own
open PySem PySem.Spec PyProof.Rows L2 Evl
/-! ### picks as data -/
theorem one {H : Hp} {xs : List V} {ds : List PyData} (h : DaAll H xs ds) (hl : ds.length = 1) : ∃ x a, xs = [x] ∧ ds = [a] ∧ Da H x a := by
  match ds, xs, h, hl with
  | [a], _, .cons h1 .nil, _ => exact ⟨_, _, rfl, rfl, h1⟩
def eqS (d : PyData) (w : Str) : Bool := match d with | .str z => decide (z = w) | _ => false
def natD : PyData → Bool | .int i => decide (0 ≤ i) | _ => false
def intD : PyData → Bool | .int _ => true | _ => false
def argD (a b : PyData) : Bool := (eqS a "name" && nmD b) || ((eqS a "at" && natD b) || ((eqS a "like" || eqS a "all") && patD b))
def bareD : PyData → Bool
  | .tuple [a] => eqS a "last"
  | .tuple [a, b] => argD a b
  | _ => false
def pickD : PyData → Bool
  | .tuple [a, b] => if eqS a "book" = true then bareD b else argD a b
  | d => bareD d
theorem eqS_no {d : PyData} {w : Str} (h : isStrD d = false) : eqS d w = false := by cases d <;> first | rfl | cases h
theorem eqS_inv {d : PyData} {w : Str} (h : eqS d w = true) : d = .str w := by
  cases d with
  | str z => exact congrArg PyData.str (of_decide_eq_true h)
  | none => cases h
  | bool b => cases h
  | int i => cases h
  | list l => cases h
  | tuple l => cases h
  | dict l => cases h
theorem argD_no {a b : PyData} (h : isStrD a = false) : argD a b = false := by unfold argD; rw [eqS_no h, eqS_no h, eqS_no h, eqS_no h]; rfl
theorem bareD_no {d : PyData} (h : isTupD d = false) : bareD d = false := by cases d <;> first | rfl | cases h
theorem pickD_no {d : PyData} (h : isTupD d = false) : pickD d = false := by cases d <;> first | rfl | cases h
theorem bareD_len : ∀ {ds : List PyData}, ¬ (1 ≤ ds.length ∧ ds.length ≤ 2) → bareD (.tuple ds) = false
  | [], _ => rfl
  | [_], h => absurd ⟨Nat.le_refl _, Nat.le_succ 1⟩ h
  | [_, _], h => absurd ⟨by show 1 ≤ 2; decide, Nat.le_refl _⟩ h
  | _ :: _ :: _ :: _, _ => rfl
theorem pickD_len : ∀ {ds : List PyData}, ds.length ≠ 2 → pickD (.tuple ds) = bareD (.tuple ds)
  | [], _ => rfl
  | [_], _ => rfl
  | [_, _], h => absurd rfl h
  | _ :: _ :: _ :: _, _ => rfl
theorem pat_inv {d : PyData} (h : patD d = true) : ∃ a b c, d = .tuple [a, b, c] ∧ (blankD a || relD a) = true ∧ partD b = true ∧ partD c = true := by
  unfold patD at h
  split at h
  · simp only [Bool.and_eq_true] at h
    exact ⟨_, _, _, rfl, h.1, h.2.1, h.2.2⟩
  · cases h
theorem arg_inv {a b : PyData} (h : argD a b = true) : ∃ w : Str, a = .str w ∧ ((w = "name" ∧ nmD b = true) ∨ (w = "at" ∧ natD b = true) ∨ ((w = "like" ∨ w = "all") ∧ patD b = true)) := by
  unfold argD at h
  simp only [Bool.or_eq_true, Bool.and_eq_true] at h
  rcases h with ⟨h1, h2⟩ | ⟨h1, h2⟩ | ⟨h1 | h1, h2⟩
  · exact ⟨_, eqS_inv h1, .inl ⟨rfl, h2⟩⟩
  · exact ⟨_, eqS_inv h1, .inr (.inl ⟨rfl, h2⟩)⟩
  · exact ⟨_, eqS_inv h1, .inr (.inr ⟨.inl rfl, h2⟩)⟩
  · exact ⟨_, eqS_inv h1, .inr (.inr ⟨.inr rfl, h2⟩)⟩
theorem bare_inv {d : PyData} (h : bareD d = true) : d = .tuple [.str "last"] ∨ ∃ (w : Str) (b : PyData), d = .tuple [.str w, b] ∧ ((w = "name" ∧ nmD b = true) ∨ (w = "at" ∧ natD b = true) ∨ ((w = "like" ∨ w = "all") ∧ patD b = true)) := by
  unfold bareD at h
  split at h
  · exact .inl (by rw [eqS_inv h])
  · obtain ⟨w, rfl, k⟩ := arg_inv h
    exact .inr ⟨w, _, rfl, k⟩
  · cases h
theorem pick_inv {d : PyData} (h : pickD d = true) : bareD d = true ∨ ∃ b, d = .tuple [.str "book", b] ∧ bareD b = true := by
  unfold pickD at h
  split at h
  · split at h
    · next a b k => exact .inr ⟨_, by rw [eqS_inv k], h⟩
    · exact .inl h
  · exact .inl h
theorem fin_nm {d : PyData} (h : nmD d = true) : fin 0 82 d := by
  cases d with
  | str z => exact (fin_str (L := 8) (nm_ok h) (nm_len h)).mono (by decide) (by decide)
  | none => cases h
  | bool b => cases h
  | int i => cases h
  | list l => cases h
  | tuple l => cases h
  | dict l => cases h
theorem fin_blank {d : PyData} (h : blankD d = true) : fin 0 82 d := by
  cases d with
  | str z =>
    have e : z = "" := of_decide_eq_true h
    rw [e]
    exact (fin_str (L := 0) (by decide +kernel) (by decide +kernel)).mono (by decide) (by decide)
  | none => cases h
  | bool b => cases h
  | int i => cases h
  | list l => cases h
  | tuple l => cases h
  | dict l => cases h
theorem fin_rel {d : PyData} (h : relD d = true) : fin 0 82 d := by
  cases d with
  | str z => exact (fin_str (L := 8) (rel_ok (isR_of h)) (rel_len (isR_of h))).mono (by decide) (by decide)
  | none => cases h
  | bool b => cases h
  | int i => cases h
  | list l => cases h
  | tuple l => cases h
  | dict l => cases h
theorem fin_part {d : PyData} (h : partD d = true) : fin 0 82 d := by
  unfold partD at h
  rcases Bool.or_eq_true _ _ ▸ h with h | h
  · exact fin_blank h
  · exact fin_nm h
theorem fin_pat {d : PyData} (h : patD d = true) : fin 1 300 d := by
  obtain ⟨a, b, c, rfl, h1, h2, h3⟩ := pat_inv h
  refine (fin_tup (n := 0) (W := 82) (m := 3) (fun d hd => ?_) (Nat.le_refl _)).mono (by decide) (by decide)
  simp only [List.mem_cons, List.not_mem_nil, or_false] at hd
  rcases hd with rfl | rfl | rfl
  · rcases Bool.or_eq_true _ _ ▸ h1 with h | h
    · exact fin_blank h
    · exact fin_rel h
  · exact fin_part h2
  · exact fin_part h3
theorem fin_nat {d : PyData} (h : natD d = true) (g : gD d = true) : fin 0 1921 d := by
  cases d with
  | int i => exact fin_int (of_decide_eq_true g)
  | none => cases h
  | bool b => cases h
  | str z => cases h
  | list l => cases h
  | tuple l => cases h
  | dict l => cases h
theorem fin_word {w : Str} (h : w = "name" ∨ w = "at" ∨ w = "like" ∨ w = "all" ∨ w = "last" ∨ w = "book" ∨ w = "goal") : fin 0 82 (.str w) := by
  have q : (PyData.str w).canLay0 = true ∧ w.length ≤ 8 := by
    rcases h with rfl | rfl | rfl | rfl | rfl | rfl | rfl <;> exact ⟨by decide +kernel, by decide +kernel⟩
  exact (fin_str (L := 8) q.1 q.2).mono (by decide) (by decide)
theorem gD_two {a b : PyData} (h : gD (.tuple [a, b]) = true) : gD b = true := by
  have h : (gD a && (gD b && true)) = true := h
  rw [Bool.and_eq_true, Bool.and_true] at h
  exact h.2
theorem fin_arg {w : Str} {b : PyData} (h : (w = "name" ∧ nmD b = true) ∨ (w = "at" ∧ natD b = true) ∨ ((w = "like" ∨ w = "all") ∧ patD b = true)) (g : gD b = true) : fin 1 1921 b := by
  rcases h with ⟨_, h⟩ | ⟨_, h⟩ | ⟨_, h⟩
  · exact (fin_nm h).mono (by decide) (by decide)
  · exact (fin_nat h g).mono (by decide) (by decide)
  · exact (fin_pat h).mono (by decide) (by decide)
theorem arg_word {w : Str} {b : PyData} (h : (w = "name" ∧ nmD b = true) ∨ (w = "at" ∧ natD b = true) ∨ ((w = "like" ∨ w = "all") ∧ patD b = true)) : w = "name" ∨ w = "at" ∨ w = "like" ∨ w = "all" := by
  rcases h with ⟨h, _⟩ | ⟨h, _⟩ | ⟨h | h, _⟩
  · exact .inl h
  · exact .inr (.inl h)
  · exact .inr (.inr (.inl h))
  · exact .inr (.inr (.inr h))
theorem fin_bare {d : PyData} (h : bareD d = true) (g : gD d = true) : fin 2 4000 d := by
  rcases bare_inv h with rfl | ⟨w, b, rfl, k⟩
  · refine (fin_tup (n := 0) (W := 82) (m := 1) (fun d hd => ?_) (Nat.le_refl _)).mono (by decide) (by decide)
    rw [List.mem_singleton] at hd
    rw [hd]
    exact fin_word (by simp)
  · refine (fin_tup (n := 1) (W := 1921) (m := 2) (fun d hd => ?_) (Nat.le_refl _)).mono (by decide) (by decide)
    simp only [List.mem_cons, List.not_mem_nil, or_false] at hd
    rcases hd with rfl | rfl
    · refine (fin_word ?_).mono (by decide) (by decide)
      rcases arg_word k with h | h | h | h
      · exact .inl h
      · exact .inr (.inl h)
      · exact .inr (.inr (.inl h))
      · exact .inr (.inr (.inr (.inl h)))
    · exact fin_arg k (gD_two g)
mutual
theorem Da.dp {K : PySem.W.Frag} {H : Hp} : ∀ (d : PyData) {v : V}, d.canLay0 = true → Da H v d → Dp K H v d
  | .none, _, _, h => by cases h; exact .non
  | .bool _, _, _, h => by cases h; exact .bl _
  | .int _, _, _, h => by cases h; exact .int _
  | .str _, _, _, h => by cases h; exact .str _
  | .list ds, _, q, h => by
    cases h with
    | lst h1 h2 => exact .lst (sq_of h1) (DaAll.dp ds q h2)
  | .tuple ds, _, q, h => by
    cases h with
    | tup h1 h2 => exact .tup (st_of h1) (DaAll.dp ds q h2)
  | .dict _, _, q, h => by cases q
theorem DaAll.dp {K : PySem.W.Frag} {H : Hp} : ∀ (ds : List PyData) {vs : List V}, PyData.canLayAll0 ds = true → DaAll H vs ds → DpAll K H vs ds
  | [], _, _, h => by cases h; exact .nil
  | d :: ds, _, q, h => by
    have q' : (d.canLay0 && PyData.canLayAll0 ds) = true := q
    rw [Bool.and_eq_true] at q'
    cases h with
    | cons h1 h2 => exact .cons (Da.dp d q'.1 h1) (DaAll.dp ds q'.2 h2)
end
/-- a pick that stands there: bk, whether it looks at the book, own, the pick without the book, w, its word, u, what stands behind the word -/
structure View (H : Hp) (v : V) (bk : Bool) (own : V) (w : Str) (u : V) : Prop where
  bare : ∃ p xs, own = .ref p ∧ H p = some (.tup (.str w :: xs)) ∧ ((w = "last" ∧ xs = [] ∧ u = .non) ∨ ((w = "name" ∨ w = "at" ∨ w = "like" ∨ w = "all") ∧ xs = [u]))
  book : (bk = true ∧ ∃ p, v = .ref p ∧ H p = some (.tup [.str "book", own])) ∨ (bk = false ∧ v = own)
theorem View.ex {H H' : Hp} {v : V} {bk : Bool} {own : V} {w : Str} {u : V} (e : Ex H H') (h : View H v bk own w u) : View H' v bk own w u := by
  obtain ⟨⟨p, xs, h1, h2, h3⟩, h4⟩ := h
  refine ⟨⟨p, xs, h1, e _ _ h2, h3⟩, ?_⟩
  rcases h4 with ⟨h4, q, h5, h6⟩ | h4
  · exact .inl ⟨h4, q, h5, e _ _ h6⟩
  · exact .inr h4
theorem bare_view {H : Hp} {v : V} {d : PyData} (h : Da H v d) (k : bareD d = true) (g : gD d = true) : ∃ w u ud, View H v false v w u ∧ Da H u ud ∧ fin 1 1921 ud := by
  rcases bare_inv k with rfl | ⟨w, b, rfl, k2⟩
  · obtain ⟨p, xs, rfl, hp, hA⟩ := h.tup_inv
    obtain ⟨x, a, rfl, e, ha⟩ := one hA rfl
    cases e
    have := ha.str_inv
    subst this
    exact ⟨"last", .non, .none, ⟨⟨p, [], rfl, hp, .inl ⟨rfl, rfl, rfl⟩⟩, .inr ⟨rfl, rfl⟩⟩, .non, fin_none.mono (by decide) (by decide)⟩
  · obtain ⟨p, xs, rfl, hp, hA⟩ := h.tup_inv
    obtain ⟨x, y, a, c, rfl, e, ha, hc⟩ := two hA rfl
    cases e
    have := ha.str_inv
    subst this
    exact ⟨w, y, b, ⟨⟨p, [y], rfl, hp, .inr ⟨arg_word k2, rfl⟩⟩, .inr ⟨rfl, rfl⟩⟩, hc, fin_arg k2 (gD_two g)⟩
theorem pick_view {H : Hp} {v : V} {d : PyData} (h : Da H v d) (k : pickD d = true) (g : gD d = true) : ∃ bk own w u od ud, View H v bk own w u ∧ Da H own od ∧ fin 2 4000 od ∧ Da H u ud ∧ fin 1 1921 ud := by
  rcases pick_inv k with k | ⟨b, rfl, k⟩
  · obtain ⟨w, u, ud, h1, h2, h3⟩ := bare_view h k g
    exact ⟨false, v, w, u, d, ud, h1, h, fin_bare k g, h2, h3⟩
  · obtain ⟨p, xs, rfl, hp, hA⟩ := h.tup_inv
    obtain ⟨x, y, a, c, rfl, e, ha, hc⟩ := two hA rfl
    cases e
    have := ha.str_inv
    subst this
    obtain ⟨w, u, ud, h1, h2, h3⟩ := bare_view hc k (gD_two g)
    exact ⟨true, y, w, u, b, ud, ⟨h1.bare, .inl ⟨rfl, p, rfl, hp⟩⟩, hc, fin_bare k (gD_two g), h2, h3⟩
theorem str_dec (a b : Str) : decide (V.str a = V.str b) = decide (a = b) := by
  by_cases h : a = b
  · rw [h]
    simp
  · rw [decide_eq_false h, decide_eq_false (fun e => h (V.str.inj e))]
theorem arg_name (b : PyData) : argD (.str "name") b = nmD b := by
  show ((decide (("name" : Str) = "name") && nmD b) || ((decide (("name" : Str) = "at") && natD b) || ((decide (("name" : Str) = "like") || decide (("name" : Str) = "all")) && patD b))) = _
  rw [show decide (("name" : Str) = "name") = true from decide_eq_true rfl, show decide (("name" : Str) = "at") = false from by decide, show decide (("name" : Str) = "like") = false from by decide, show decide (("name" : Str) = "all") = false from by decide]
  cases nmD b <;> rfl
theorem arg_at (b : PyData) : argD (.str "at") b = natD b := by
  show ((decide (("at" : Str) = "name") && nmD b) || ((decide (("at" : Str) = "at") && natD b) || ((decide (("at" : Str) = "like") || decide (("at" : Str) = "all")) && patD b))) = _
  rw [show decide (("at" : Str) = "name") = false from by decide, show decide (("at" : Str) = "at") = true from decide_eq_true rfl, show decide (("at" : Str) = "like") = false from by decide, show decide (("at" : Str) = "all") = false from by decide]
  cases natD b <;> rfl
theorem arg_rest {z : Str} (h1 : z ≠ "name") (h2 : z ≠ "at") {b : PyData} : argD (.str z) b = ((decide (z = "like") || decide (z = "all")) && patD b) := by
  show ((decide ((z : Str) = "name") && nmD b) || ((decide ((z : Str) = "at") && natD b) || ((decide ((z : Str) = "like") || decide ((z : Str) = "all")) && patD b))) = _
  rw [decide_eq_false h1, decide_eq_false h2]
  rfl
theorem like_in (z : Str) : inV (.str z) [.str "like", .str "all"] = (decide (z = "like") || decide (z = "all")) := by
  rw [show [V.str "like", V.str "all"] = (["like", "all"] : List Str).map V.str from rfl, in_strs]
  by_cases h1 : z = "like" <;> by_cases h2 : z = "all" <;> simp [h1, h2]
theorem Da.int_inv {H : Hp} {v : V} {i : Int} (h : Da H v (.int i)) : v = .int i := by cases h; rfl
theorem word_ne {p : Prop} {z : Str} (h : (z = "last" ∧ p) ∨ ((z = "name" ∨ z = "at" ∨ z = "like" ∨ z = "all") ∧ p) ) : z ≠ "book" := by
  rcases h with ⟨rfl, _⟩ | ⟨rfl | rfl | rfl | rfl, _⟩ <;> decide
theorem View.word {H : Hp} {v : V} {bk : Bool} {own : V} {z : Str} {u : V} (h : View H v bk own z u) : z ≠ "book" ∧ ∃ p xs, own = .ref p ∧ H p = some (.tup (.str z :: xs)) ∧ (z ≠ "last" → xs = [u]) := by
  obtain ⟨⟨p, xs, h1, h2, h3⟩, _⟩ := h
  refine ⟨?_, p, xs, h1, h2, fun hz => ?_⟩
  · rcases h3 with ⟨rfl, _⟩ | ⟨rfl | rfl | rfl | rfl, _⟩ <;> decide
  · rcases h3 with ⟨h3, _⟩ | ⟨_, h3⟩
    · exact absurd h3 hz
    · exact h3
abbrev s_is_integer : Stmt := top 11
theorem sc_is_integer : FnScope ["thing"] ["thing"] (defScope s_is_integer) := ⟨rfl, rfl, rfl, by decide +kernel, rfl, by decide +kernel, by decide +kernel⟩
abbrev s_is_bare_pick : Stmt := top 19
theorem sc_is_bare_pick : FnScope ["thing", "kind", "part"] ["thing"] (defScope s_is_bare_pick) := ⟨rfl, rfl, rfl, by decide +kernel, rfl, by decide +kernel, by decide +kernel⟩
abbrev s_is_pick : Stmt := top 20
theorem sc_is_pick : FnScope ["thing"] ["thing"] (defScope s_is_pick) := ⟨rfl, rfl, rfl, by decide +kernel, rfl, by decide +kernel, by decide +kernel⟩
abbrev s_home_of : Stmt := top 21
theorem sc_home_of : FnScope ["pick"] ["pick"] (defScope s_home_of) := ⟨rfl, rfl, rfl, by decide +kernel, rfl, by decide +kernel, by decide +kernel⟩
abbrev s_bare : Stmt := top 22
theorem sc_bare : FnScope ["pick"] ["pick"] (defScope s_bare) := ⟨rfl, rfl, rfl, by decide +kernel, rfl, by decide +kernel, by decide +kernel⟩
abbrev s_is_single : Stmt := top 23
theorem sc_is_single : FnScope ["pick"] ["pick"] (defScope s_is_single) := ⟨rfl, rfl, rfl, by decide +kernel, rfl, by decide +kernel, by decide +kernel⟩
section
variable {P : Program} {w : World} {K : PySem.W.Frag} {mg : Str → Option Value} {base : Heap} {rel : Addr}
theorem ok_is_integer (T : Txt0 mg) (TI : TxtI K mg rel) (D : Df K mg "is_integer" s_is_integer) : CalG P w K mg base 1 "is_integer" (spIs intD) := by
  refine cal_mk D sc_is_integer (fun _ _ _ _ _ _ us hl => match us, hl with | [_], _ => rfl) (fun vs H Q E h => ?_) (fun f cdv A outer s H vs Q E hr hG h => ?_)
  · obtain ⟨v, d, rfl, _⟩ := h
    rfl
  · obtain ⟨v, d, rfl, hv, hok, q⟩ := h
    refine ⟨_, (pss_one (ps_ret (pe_and (pe_callB call_isi (by rfl) TI.isinstance (by decide +kernel) (pa_cons (pv 0) (pa_cons (pe_bltn (v := .ty "int") (by rfl) T.int (by decide +kernel) rfl) pa_nil))) (pe_one (pe_not (pe_callB call_isi (by rfl) TI.isinstance (by decide +kernel) (pa_cons (pv 0) (pa_cons (pe_bltn (v := .ty "bool") (by rfl) TI.bool (by decide +kernel) rfl) pa_nil)))))))), ?_⟩
    refine ⟨_, rfl, v, .ty "int", _, _, _, rfl, .ty _, hv.ty, kit_ty (kit_int d), _, rfl, ?_⟩
    cases hs : isIntD d with
    | false =>
      refine iteF ?_
      have e : intD d = false := by cases d <;> first | rfl | cases hs
      rw [← e]
      exact q _ (Ex.refl _)
    | true =>
      refine iteT ⟨_, rfl, v, .ty "bool", _, _, _, rfl, .ty _, hv.ty, kit_ty (kit_bool d), _, rfl, ?_⟩
      have e : (!isBoolD d) = intD d := by cases d <;> first | rfl | cases hs
      rw [e]
      exact q _ (Ex.refl _)
theorem ok_is_bare_pick (T : Txt0 mg) (TI : TxtI K mg rel) (D : Df K mg "is_bare_pick" s_is_bare_pick) (c_is_name : CalG P w K mg base 1 "is_name" (spIs nmD)) (c_is_integer : CalG P w K mg base 1 "is_integer" (spIs intD)) (c_is_pattern : CalG P w K mg base 2 "is_pattern" (spIs patD)) : CalG P w K mg base 3 "is_bare_pick" (spIs bareD) := by
  refine cal_mk D sc_is_bare_pick (fun _ _ _ _ _ _ us hl => match us, hl with | [_], _ => rfl) (fun vs H Q E h => ?_) (fun f cdv A outer s H vs Q E hr hG h => ?_)
  · obtain ⟨v, a, rfl, _⟩ := h
    rfl
  · obtain ⟨v, d, rfl, hv, hok, q⟩ := h
    refine ⟨_, (pss_cons (ps_if (PW.pt (pw_or (pt_not (pt_val (pe_callB call_isi (by rfl) TI.isinstance (by decide +kernel) (pa_cons (pv 0) (pa_cons (pe_bltn (v := .ty "tuple") (by rfl) T.tuple (by decide +kernel) rfl) pa_nil))))) (pw_or (pt_not (pt_chain opLeA opLeA pe_int (pe_callB callLen (by rfl) T.len PySem.boot_len (pa_cons (pv 0) pa_nil)) pe_int)) (pw_or1 (pt_not (pt_val (pe_callB call_isi (by rfl) TI.isinstance (by decide +kernel) (pa_cons (pe_ix ixAny (pv 0) pe_int (fun _ _ => rfl)) (pa_cons (pe_bltn (v := .ty "str") (by rfl) TI.str (by decide +kernel) rfl) pa_nil))))))))) (pss_one (ps_ret pe_bl)) pss_nil)
      (pss_cons (ps_if (pt_cmpR (opEq hr) (pe_callB callLen (by rfl) T.len PySem.boot_len (pa_cons (pv 0) pa_nil)) pe_int (nomark _)) (pss_one (ps_ret (pe_cmpR (opEq hr) (pe_ix ixAny (pv 0) pe_int (fun _ _ => rfl)) pe_str (nomark _)))) pss_nil)
      (pss_cons (ps_asg (pv 0) (pg_tup rfl (pgs_cons (pg_name (i := 1) sc_is_bare_pick.nd rfl (Or.inl rfl)) (pgs_cons (pg_name (i := 2) sc_is_bare_pick.nd rfl (Or.inl rfl)) pgs_nil))))
      (pss_cons (ps_if (pt_cmpR (opEq hr) (pv 1) pe_str (nomark _)) (pss_one (ps_ret (pe_cG c_is_name hr hG (by decide) rfl (pa_cons (pv 2) pa_nil)))) pss_nil)
      (pss_cons (ps_if (pt_cmpR (opEq hr) (pv 1) pe_str (nomark _)) (pss_one (ps_ret (pe_and (pe_cG c_is_integer hr hG (by decide) rfl (pa_cons (pv 2) pa_nil)) (pe_one (pe_cmpR opGe (pv 2) pe_int (nomark _)))))) pss_nil)
      (pss_one (ps_ret (pe_and (pe_cmpR opIn (pv 1) (pe_tup (pa_cons pe_str (pa_cons pe_str pa_nil))) rfl) (pe_one (pe_cG c_is_pattern hr hG (by decide) rfl (pa_cons (pv 2) pa_nil))))))))))), ?_⟩
    refine ⟨_, rfl, v, .ty "tuple", _, _, _, rfl, .ty _, hv.ty, kit_ty (kit_tuple d), _, rfl, ?_⟩
    cases hs : isTupD d with
    | false =>
      refine iteT ?_
      rw [← bareD_no hs]
      exact q _ (Ex.refl _)
    | true =>
      obtain ⟨ds, rfl⟩ := tup_of hs
      obtain ⟨p, xs, rfl, hp, hA⟩ := hv.tup_inv
      have hl := hA.len
      refine iteF ⟨_, rfl, .inl ⟨p, _, rfl, .inr (st_of hp), ?_⟩⟩
      have no : ¬ (1 ≤ ds.length ∧ ds.length ≤ 2) → Q (.bl false) H := fun hn => by
        rw [← bareD_len hn]
        exact q _ (Ex.refl _)
      refine .inl ⟨_, _, rfl, rfl, _, rfl, ite2 (fun h1 => .inl ⟨_, _, rfl, rfl, _, rfl, ite2 (fun h2 => no ?_) (fun h2 => ?_)⟩) (fun h1 => ⟨_, rfl, ifT (by rfl) (no ?_)⟩)⟩
      · have z2 : ¬ ((xs.length : Int) ≤ (2 : Int)) := by simpa using h2
        omega
      · have z1 : ((1 : Int) ≤ (xs.length : Int)) := by simpa using h1
        have z2 : ((xs.length : Int) ≤ (2 : Int)) := by simpa using h2
        by_cases hone : ds.length = 1
        · obtain ⟨x, a, rfl, rfl, ha⟩ := one hA hone
          refine ⟨_, rfl, .inr (.inl ⟨p, _, 0, _, rfl, rfl, st_of hp, atI_nat (j := 0) rfl, ?_⟩)⟩
          refine ⟨x, .ty "str", _, _, _, rfl, .ty _, ha.ty, kit_ty (kit_str a), _, rfl, ?_⟩
          cases hsa : isStrD a with
          | false =>
            refine iteT ?_
            have e : bareD (.tuple [a]) = false := eqS_no hsa
            rw [← e]
            exact q _ (Ex.refl _)
          | true =>
            obtain ⟨z, rfl⟩ := str_of hsa
            have := ha.str_inv
            subst this
            refine iteF ⟨_, rfl, .inl ⟨p, _, rfl, .inr (st_of hp), .inl ⟨rfl, _, rfl, ?_⟩⟩⟩
            refine ifT (b := decide (V.int 1 = V.int 1)) (by decide +kernel) ?_
            refine ⟨_, rfl, .inr (.inl ⟨p, _, 0, _, rfl, rfl, st_of hp, atI_nat (j := 0) rfl, ?_⟩)⟩
            refine .inl ⟨rfl, ?_⟩
            rw [str_dec]
            exact q _ (Ex.refl _)
        · obtain ⟨x, y, a, b, rfl, rfl, ha, hb⟩ := two hA (by omega)
          refine ⟨_, rfl, .inr (.inl ⟨p, _, 0, _, rfl, rfl, st_of hp, atI_nat (j := 0) rfl, ?_⟩)⟩
          refine ⟨x, .ty "str", _, _, _, rfl, .ty _, ha.ty, kit_ty (kit_str a), _, rfl, ?_⟩
          cases hsa : isStrD a with
          | false =>
            refine iteT ?_
            have e : bareD (.tuple [a, b]) = false := argD_no hsa
            rw [← e]
            exact q _ (Ex.refl _)
          | true =>
            obtain ⟨z, rfl⟩ := str_of hsa
            have := ha.str_inv
            subst this
            refine iteF ⟨_, rfl, .inl ⟨p, _, rfl, .inr (st_of hp), .inl ⟨rfl, _, rfl, ?_⟩⟩⟩
            refine ifF (b := decide (V.int 2 = V.int 1)) (by decide +kernel) ?_
            have okb := hok.memT (d := b) (by simp)
            have e : bareD (.tuple [.str z, b]) = argD (.str z) b := rfl
            rw [e] at q
            refine ⟨_, rfl, p, _, rfl, st_of hp, rfl, _, _, rfl, _, _, rfl, rfl, ?_⟩
            refine ⟨_, rfl, .inl ⟨rfl, _, rfl, ?_⟩⟩
            rw [str_dec]
            by_cases z1 : z = "name"
            · rw [decide_eq_true z1]
              refine iteT ⟨_, rfl, y, b, rfl, hb, okb, fun H1 e1 => ?_⟩
              rw [z1, arg_name] at q
              exact q _ e1
            · rw [decide_eq_false z1]
              refine iteF ⟨_, rfl, .inl ⟨rfl, _, rfl, ?_⟩⟩
              rw [str_dec]
              by_cases z2 : z = "at"
              · rw [decide_eq_true z2]
                rw [z2, arg_at] at q
                refine iteT ⟨_, rfl, y, b, rfl, hb, okb, fun H1 e1 => ⟨_, rfl, ?_⟩⟩
                cases hi : intD b with
                | false =>
                  refine iteF ?_
                  rw [← show natD b = false from by cases b <;> first | rfl | cases hi]
                  exact q _ e1
                | true =>
                  obtain ⟨i, rfl⟩ : ∃ i, b = .int i := by cases b <;> first | exact ⟨_, rfl⟩ | cases hi
                  have := hb.int_inv
                  subst this
                  exact iteT ⟨_, rfl, i, 0, rfl, rfl, q _ e1⟩
              · rw [decide_eq_false z2]
                refine iteF ⟨_, rfl, by show 2 ≤ sizeLine; decide, fun t ht => ?_⟩
                generalize hq1 : upd H t _ = H1
                obtain ⟨e1, h1⟩ := gen1 hq1 ht
                refine .inl ⟨t, _, rfl, .inr (st_of h1), rfl, rfl, _, rfl, ?_⟩
                rw [show (inV (.str z) [.str "like", .str "all"]) = _ from like_in z]
                rw [arg_rest z1 z2] at q
                cases hw : (decide (z = "like") || decide (z = "all")) with
                | false =>
                  rw [hw] at q
                  exact iteF (q _ e1)
                | true =>
                  rw [hw] at q
                  refine iteT ⟨_, rfl, y, b, rfl, Da.ex e1 _ hb, okb, fun H2 e2 => q _ (e1.trans e2)⟩
      · have z1 : ¬ ((1 : Int) ≤ (xs.length : Int)) := by simpa using h1
        omega
theorem ok_is_pick (T : Txt0 mg) (TI : TxtI K mg rel) (D : Df K mg "is_pick" s_is_pick) (c_is_bare_pick : CalG P w K mg base 3 "is_bare_pick" (spIs bareD)) : CalG P w K mg base 4 "is_pick" (spIs pickD) := by
  refine cal_mk D sc_is_pick (fun _ _ _ _ _ _ us hl => match us, hl with | [_], _ => rfl) (fun vs H Q E h => ?_) (fun f cdv A outer s H vs Q E hr hG h => ?_)
  · obtain ⟨v, a, rfl, _⟩ := h
    rfl
  · obtain ⟨v, d, rfl, hv, hok, q⟩ := h
    refine ⟨_, (Evl.pss_cut (ps_if (PW.pt (pw_and (pt_val (pe_callB call_isi (by rfl) TI.isinstance (by decide +kernel) (pa_cons (pv 0) (pa_cons (pe_bltn (v := .ty "tuple") (by rfl) T.tuple (by decide +kernel) rfl) pa_nil)))) (pw_and (pt_cmpR (opEq hr) (pe_callB callLen (by rfl) T.len PySem.boot_len (pa_cons (pv 0) pa_nil)) pe_int (nomark _)) (pw_and (pt_val (pe_callB call_isi (by rfl) TI.isinstance (by decide +kernel) (pa_cons (pe_ix ixAny (pv 0) pe_int (fun _ _ => rfl)) (pa_cons (pe_bltn (v := .ty "str") (by rfl) TI.str (by decide +kernel) rfl) pa_nil)))) (pw_and1 (pt_cmpR (opEq hr) (pe_ix ixAny (pv 0) pe_int (fun _ _ => rfl)) pe_str (nomark _))))))) (pss_one (ps_ret (pe_cG c_is_bare_pick hr hG (by decide) rfl (pa_cons (pe_ix ixAny (pv 0) pe_int (fun _ _ => rfl)) pa_nil)))) pss_nil)
      (pss_one (ps_ret (pe_cG c_is_bare_pick hr hG (by decide) rfl (pa_cons (pv 0) pa_nil))))), ?_⟩
    refine ⟨fun σ' H' => σ' = [some v] ∧ Ex H H' ∧ bareD d = pickD d, ?_, ?_⟩
    · refine ⟨_, rfl, v, .ty "tuple", _, _, _, rfl, .ty _, hv.ty, kit_ty (kit_tuple d), _, rfl, ?_⟩
      cases hs : isTupD d with
      | false => exact iteF (iteF ⟨rfl, Ex.refl _, by rw [pickD_no hs, bareD_no hs]⟩)
      | true =>
        obtain ⟨ds, rfl⟩ := tup_of hs
        obtain ⟨p, xs, rfl, hp, hA⟩ := hv.tup_inv
        have hl := hA.len
        refine iteT ⟨_, rfl, .inl ⟨p, _, rfl, .inr (st_of hp), .inl ⟨rfl, _, rfl, ?_⟩⟩⟩
        by_cases h2 : ds.length = 2
        · obtain ⟨x, y, a, b, rfl, rfl, ha, hb⟩ := two hA h2
          refine ifT (b := decide (V.int 2 = V.int 2)) (by decide +kernel) ?_
          refine ⟨_, rfl, .inr (.inl ⟨p, _, 0, _, rfl, rfl, st_of hp, atI_nat (j := 0) rfl, ?_⟩)⟩
          refine ⟨x, .ty "str", _, _, _, rfl, .ty _, ha.ty, kit_ty (kit_str a), _, rfl, ?_⟩
          cases hsa : isStrD a with
          | false => exact iteF (iteF ⟨rfl, Ex.refl _, by show argD a b = if eqS a "book" = true then bareD b else argD a b; rw [eqS_no hsa]; rfl⟩)
          | true =>
            obtain ⟨z, rfl⟩ := str_of hsa
            have := ha.str_inv
            subst this
            refine iteT ⟨_, rfl, .inr (.inl ⟨p, _, 0, _, rfl, rfl, st_of hp, atI_nat (j := 0) rfl, ?_⟩)⟩
            refine .inl ⟨rfl, _, rfl, ?_⟩
            rw [str_dec]
            have e : pickD (.tuple [.str z, b]) = if decide (z = "book") = true then bareD b else argD (.str z) b := rfl
            cases hz : decide (z = "book") with
            | false => exact iteF ⟨rfl, Ex.refl _, by rw [e, hz]; rfl⟩
            | true =>
              refine iteT ⟨_, rfl, .inr (.inl ⟨p, _, 1, _, rfl, rfl, st_of hp, atI_nat (j := 1) rfl, ?_⟩)⟩
              refine ⟨y, b, rfl, hb, hok.memT (by simp), fun H1 e1 => ?_⟩
              rw [e, hz] at q
              exact q _ e1
        · have e0 : decide (V.int (xs.length : Int) = V.int ((2 : Nat) : Int)) = false := by rw [int_eq, decide_eq_false (by omega)]
          exact ifF (b := decide (V.int (xs.length : Int) = V.int ((2 : Nat) : Int))) e0 (iteF ⟨rfl, Ex.refl _, (pickD_len h2).symm⟩)
    · rintro σ' H1 ⟨rfl, e1, e⟩
      refine ⟨_, rfl, v, d, rfl, Da.ex e1 _ hv, hok, fun H2 e2 => ?_⟩
      rw [e]
      exact q _ (e1.trans e2)
def spV (f : Bool → V → Str → V → V) : Sp := fun vs H Q _ => ∃ (v : V) (bk : Bool) (own : V) (z : Str) (u : V), vs = [v] ∧ View H v bk own z u ∧ ∀ H', Ex H H' → Q (f bk own z u) H'
def fHome (bk : Bool) (_ : V) (_ : Str) (_ : V) : V := .str (if bk = true then "book" else "goal")
def fBare (_ : Bool) (own : V) (_ : Str) (_ : V) : V := own
def fSingle (_ : Bool) (_ : V) (z : Str) (_ : V) : V := .bl (!decide (z = "all"))
def fName (_ : Bool) (_ : V) (z : Str) (u : V) : V := if decide (z = "name") = true then u else .non
def fPlace (_ : Bool) (_ : V) (z : Str) (u : V) : V := if decide (z = "at") = true then u else .non
def fPat (_ : Bool) (_ : V) (z : Str) (u : V) : V := if (decide (z = "like") || decide (z = "all")) = true then u else .non
theorem ok_home_of (T : Txt0 mg) (D : Df K mg "home_of" s_home_of) : CalG P w K mg base 1 "home_of" (spV fHome) := by
  refine cal_mk D sc_home_of (fun _ _ _ _ _ _ us hl => match us, hl with | [_], _ => rfl) (fun vs H Q E h => ?_) (fun f cdv A outer s H vs Q E hr hG h => ?_)
  · obtain ⟨v, bk, own, z, u, rfl, _⟩ := h
    rfl
  · obtain ⟨v, bk, own, z, u, rfl, hv, q⟩ := h
    refine ⟨_, (pss_one (ps_ret (pe_ifExp (pt_cmpR (opEq hr) (pe_ix ixAny (pv 0) pe_int (fun _ _ => rfl)) pe_str (nomark _)) pe_str pe_str))), ?_⟩
    obtain ⟨zb, p, xs, rfl, hp, hx⟩ := hv.word
    rcases hv.book with ⟨rfl, pb, rfl, hpb⟩ | ⟨rfl, rfl⟩
    · refine ⟨_, rfl, .inr (.inl ⟨pb, _, 0, _, rfl, rfl, st_of hpb, atI_nat (j := 0) rfl, ?_⟩)⟩
      refine .inl ⟨rfl, _, rfl, ?_⟩
      rw [str_dec, decide_eq_true rfl]
      exact iteT (q _ (Ex.refl _))
    · refine ⟨_, rfl, .inr (.inl ⟨p, _, 0, _, rfl, rfl, st_of hp, atI_nat (j := 0) rfl, ?_⟩)⟩
      refine .inl ⟨rfl, _, rfl, ?_⟩
      rw [str_dec, decide_eq_false zb]
      exact iteF (q _ (Ex.refl _))
theorem ok_bare (T : Txt0 mg) (D : Df K mg "bare" s_bare) : CalG P w K mg base 1 "bare" (spV fBare) := by
  refine cal_mk D sc_bare (fun _ _ _ _ _ _ us hl => match us, hl with | [_], _ => rfl) (fun vs H Q E h => ?_) (fun f cdv A outer s H vs Q E hr hG h => ?_)
  · obtain ⟨v, bk, own, z, u, rfl, _⟩ := h
    rfl
  · obtain ⟨v, bk, own, z, u, rfl, hv, q⟩ := h
    refine ⟨_, (pss_one (ps_ret (pe_ifExp (pt_cmpR (opEq hr) (pe_ix ixAny (pv 0) pe_int (fun _ _ => rfl)) pe_str (nomark _)) (pe_ix ixAny (pv 0) pe_int (fun _ _ => rfl)) (pv 0)))), ?_⟩
    obtain ⟨zb, p, xs, rfl, hp, hx⟩ := hv.word
    rcases hv.book with ⟨rfl, pb, rfl, hpb⟩ | ⟨rfl, rfl⟩
    · refine ⟨_, rfl, .inr (.inl ⟨pb, _, 0, _, rfl, rfl, st_of hpb, atI_nat (j := 0) rfl, ?_⟩)⟩
      refine .inl ⟨rfl, _, rfl, ?_⟩
      rw [str_dec, decide_eq_true rfl]
      refine iteT ⟨_, rfl, .inr (.inl ⟨pb, _, 1, _, rfl, rfl, st_of hpb, atI_nat (j := 1) rfl, ?_⟩)⟩
      exact q _ (Ex.refl _)
    · refine ⟨_, rfl, .inr (.inl ⟨p, _, 0, _, rfl, rfl, st_of hp, atI_nat (j := 0) rfl, ?_⟩)⟩
      refine .inl ⟨rfl, _, rfl, ?_⟩
      rw [str_dec, decide_eq_false zb]
      exact iteF ⟨_, rfl, q _ (Ex.refl _)⟩
theorem ok_is_single (T : Txt0 mg) (D : Df K mg "is_single" s_is_single) (c_bare : CalG P w K mg base 1 "bare" (spV fBare)) : CalG P w K mg base 2 "is_single" (spV fSingle) := by
  refine cal_mk D sc_is_single (fun _ _ _ _ _ _ us hl => match us, hl with | [_], _ => rfl) (fun vs H Q E h => ?_) (fun f cdv A outer s H vs Q E hr hG h => ?_)
  · obtain ⟨v, bk, own, z, u, rfl, _⟩ := h
    rfl
  · obtain ⟨v, bk, own, z, u, rfl, hv, q⟩ := h
    refine ⟨_, (pss_one (ps_ret (pe_cmpR (opNe hr) (pe_ix ixAny (pe_cG c_bare hr hG (by decide) rfl (pa_cons (pv 0) pa_nil)) pe_int (fun _ _ => rfl)) pe_str (nomark _)))), ?_⟩
    refine ⟨_, rfl, v, bk, own, z, u, rfl, hv, fun H1 e1 => ?_⟩
    obtain ⟨zb, p, xs, rfl, hp, hx⟩ := hv.word
    refine .inr (.inl ⟨p, _, 0, _, rfl, rfl, st_of (e1 _ _ hp), atI_nat (j := 0) rfl, ?_⟩)
    refine .inl ⟨rfl, ?_⟩
    rw [str_dec]
    exact q _ e1
end
end Own

namespace Own
open PySem PySem.Spec PyProof.Rows L2 Evl
/-! ### steps as data -/
def KL : List Str := ["turn", "part", "drop", "call", "copy", "chain", "close"]
def NL : List Str := ["call", "copy", "chain"]
def OL : List Str := ["chain", "close"]
def bkD : PyData → Bool | .tuple (a :: _) => eqS a "book" | _ => false
def allF : PyData → Bool | .tuple (a :: _) => eqS a "all" | _ => false
def allD : PyData → Bool | .tuple [a, b] => if eqS a "book" = true then allF b else eqS a "all" | _ => false
def pickFor (z : Str) (d : PyData) : Bool := pickD d && ((!bkD d || decide (z = "copy")) && (!allD d || !decide (z ∈ OL)))
def nPk (z : Str) : Nat := if z = "chain" then 2 else 1
def stepT (z : Str) (ds : List PyData) : Bool := decide (z ∈ KL) && ((ds.take (nPk z)).all (pickFor z) && (if decide (z ∈ NL) = true then decide (ds.length = nPk z + 1) && nmD (ds.getD (nPk z) .none) else decide (ds.length = nPk z)))
def stepD : PyData → Bool
  | .tuple (.str z :: ds) => stepT z ds
  | _ => false
theorem stepD_no {d : PyData} (h : isTupD d = false) : stepD d = false := by cases d <;> first | rfl | cases h
theorem stepD_str {a : PyData} {ds : List PyData} (h : isStrD a = false) : stepD (.tuple (a :: ds)) = false := by cases a <;> first | rfl | cases h
theorem nPk_le (z : Str) : 1 ≤ nPk z ∧ nPk z ≤ 2 := by
  unfold nPk
  split <;> omega
theorem bare_view2 {H : Hp} {v : V} {d : PyData} (h : Da H v d) (k : bareD d = true) : ∃ w u, View H v false v w u ∧ bkD d = false ∧ allF d = decide (w = "all") ∧ (d = .tuple [.str "last"] ∨ ∃ b, d = .tuple [.str w, b]) := by
  rcases bare_inv k with rfl | ⟨w, b, rfl, k2⟩
  · obtain ⟨p, xs, rfl, hp, hA⟩ := h.tup_inv
    obtain ⟨x, a, rfl, e, ha⟩ := one hA rfl
    cases e
    have := ha.str_inv
    subst this
    exact ⟨"last", .non, ⟨⟨p, [], rfl, hp, .inl ⟨rfl, rfl, rfl⟩⟩, .inr ⟨rfl, rfl⟩⟩, by decide +kernel, by decide +kernel, .inl rfl⟩
  · obtain ⟨p, xs, rfl, hp, hA⟩ := h.tup_inv
    obtain ⟨x, y, a, c, rfl, e, ha, hc⟩ := two hA rfl
    cases e
    have := ha.str_inv
    subst this
    refine ⟨w, y, ⟨⟨p, [y], rfl, hp, .inr ⟨arg_word k2, rfl⟩⟩, .inr ⟨rfl, rfl⟩⟩, ?_, rfl, .inr ⟨b, rfl⟩⟩
    show decide (w = "book") = false
    rcases arg_word k2 with rfl | rfl | rfl | rfl <;> decide +kernel
theorem pick_view2 {H : Hp} {v : V} {d : PyData} (h : Da H v d) (k : pickD d = true) : ∃ own w u, View H v (bkD d) own w u ∧ allD d = decide (w = "all") := by
  rcases pick_inv k with k | ⟨b, rfl, k⟩
  · obtain ⟨w, u, h1, h2, h3, h4⟩ := bare_view2 h k
    refine ⟨v, w, u, by rw [h2]; exact h1, ?_⟩
    rw [← h3]
    rcases h4 with rfl | ⟨b, rfl⟩
    · rfl
    · show (if eqS (.str w) "book" = true then allF b else eqS (.str w) "all") = eqS (.str w) "all"
      rw [if_neg (by rw [show eqS (.str w) "book" = bkD (.tuple [.str w, b]) from rfl, h2]; decide)]
  · obtain ⟨p, xs, rfl, hp, hA⟩ := h.tup_inv
    obtain ⟨x, y, a, c, rfl, e, ha, hc⟩ := two hA rfl
    cases e
    have := ha.str_inv
    subst this
    obtain ⟨w, u, h1, h2, h3, h4⟩ := bare_view2 hc k
    refine ⟨y, w, u, ⟨h1.bare, .inl ⟨(decide_eq_true rfl : decide (("book" : Str) = "book") = true), p, rfl, hp⟩⟩, ?_⟩
    show (if decide (("book" : Str) = "book") = true then allF b else eqS (.str "book") "all") = decide (w = "all")
    rw [if_pos (decide_eq_true rfl)]
    exact h3
theorem in_strs2 (z : Str) (ns : List Str) : inV (.str z) (ns.map V.str) = decide (z ∈ ns) := in_strs z ns
theorem cut_mid (xs : List V) (j k : Nat) : cutV xs (some (j : Int)) (some ((j + k : Nat) : Int)) = (xs.drop j).take k := by
  unfold cutV
  rw [HT.sIx_nat, HT.sIx_nat]
  by_cases h : j ≤ xs.length
  · rw [Nat.min_eq_left h]
    by_cases h2 : j + k ≤ xs.length
    · rw [Nat.min_eq_left h2, Nat.add_sub_cancel_left]
    · rw [Nat.min_eq_right (by omega), List.take_of_length_le (by rw [List.length_drop]; exact Nat.le_refl _), List.take_of_length_le (by rw [List.length_drop]; omega)]
  · rw [Nat.min_eq_right (by omega), Nat.min_eq_right (by omega), Nat.sub_self, List.take_zero, List.drop_of_length_le (by omega), List.take_nil]
theorem sl_midG {K : PySem.W.Frag} {H : Hp} {Z : VK} {p : Addr} {xs : List V} {j k : Nat} (hp : H p = some (.tup xs)) (hj : 1 ≤ j) (hx : 1 ≤ xs.length) (z : ∀ (t : Addr) (H' : Hp), Ex H H' → H' t = some (.tup ((xs.drop j).take k)) → Z (.ref t) H') : rSlAny K (.ref p) (some (j : Int)) (some ((j + k : Nat) : Int)) H Z := by
  refine .inr (.inl ⟨p, _, rfl, st_of hp, fun hz => ?_, fun hz t ht => ?_⟩)
  · have h1 := hz.1
    rw [HT.sIx_nat] at h1
    omega
  · rw [cut_mid]
    generalize hq2 : upd H t _ = H2
    obtain ⟨e2, h2⟩ := gen1 hq2 ht
    exact z t _ e2 h2
abbrev s_picks_in : Stmt := top 31
theorem sc_picks_in : FnScope ["kind"] ["kind"] (defScope s_picks_in) := ⟨rfl, rfl, rfl, by decide +kernel, rfl, by decide +kernel, by decide +kernel⟩
abbrev s_is_pick_for : Stmt := top 32
theorem sc_is_pick_for : FnScope ["kind", "thing"] ["kind", "thing"] (defScope s_is_pick_for) := ⟨rfl, rfl, rfl, by decide +kernel, rfl, by decide +kernel, by decide +kernel⟩
abbrev s_is_step : Stmt := top 33
theorem sc_is_step : FnScope ["thing", "kind", "behind", "part"] ["thing"] (defScope s_is_step) := ⟨rfl, rfl, rfl, by decide +kernel, rfl, by decide +kernel, by decide +kernel⟩
theorem iteTb {b : Bool} {p q : Prop} (h : b = true) (x : p) : if b = true then p else q := by rw [if_pos h]; exact x
theorem iteFb {b : Bool} {p q : Prop} (h : b = false) (x : q) : if b = true then p else q := by rw [if_neg (by rw [h]; decide)]; exact x
structure TxtK (K : PySem.W.Frag) (mg : Str → Option Value) (kn na os : Addr) : Prop where
  g_KINDS : mg "KINDS" = some (.ref kn)
  g_NAMING : mg "NAMING" = some (.ref na)
  g_ONLY_SINGLE : mg "ONLY_SINGLE" = some (.ref os)
  kn_ : ∀ H, SqT K H kn (KL.map V.str)
  na_ : ∀ H, SqT K H na (NL.map V.str)
  os_ : ∀ H, SqT K H os (OL.map V.str)
section
variable {P : Program} {w : World} {K : PySem.W.Frag} {mg : Str → Option Value} {base : Heap} {rel kn na os : Addr}
def spPkIn : Sp := fun vs H Q _ => ∃ z : Str, vs = [.str z] ∧ ∀ H', Ex H H' → Q (.int ((nPk z : Nat) : Int)) H'
theorem ok_picks_in (D : Df K mg "picks_in" s_picks_in) : CalG P w K mg base 1 "picks_in" spPkIn := by
  refine cal_mk D sc_picks_in (fun _ _ _ _ _ _ us hl => match us, hl with | [_], _ => rfl) (fun vs H Q E h => ?_) (fun f cdv A outer s H vs Q E hr hG h => ?_)
  · obtain ⟨z, rfl, _⟩ := h
    rfl
  · obtain ⟨z, rfl, q⟩ := h
    refine ⟨_, (pss_one (ps_ret (pe_ifExp (pt_cmpR (opEq hr) (pv 0) pe_str (nomark _)) pe_int pe_int))), ?_⟩
    refine ⟨_, rfl, .inl ⟨rfl, _, rfl, ?_⟩⟩
    rw [str_dec]
    have e : ((nPk z : Nat) : Int) = if z = "chain" then 2 else 1 := by unfold nPk; split <;> rfl
    refine ite2 (fun h => ?_) (fun h => ?_)
    · have hz : z = "chain" := by simpa using h
      rw [if_pos hz] at e
      have z := q H (Ex.refl _)
      rw [e] at z
      exact z
    · have hz : ¬ z = "chain" := by simpa using h
      rw [if_neg hz] at e
      have z := q H (Ex.refl _)
      rw [e] at z
      exact z
def spPF : Sp := fun vs H Q _ => ∃ (z : Str) (v : V) (d : PyData), vs = [.str z, v] ∧ Da H v d ∧ okD 40 16000000 d ∧ ∀ H', Ex H H' → Q (.bl (pickFor z d)) H'
theorem ok_is_pick_for (T : Txt0 mg) (TK : TxtK K mg kn na os) (D : Df K mg "is_pick_for" s_is_pick_for) (c_is_pick : CalG P w K mg base 4 "is_pick" (spIs pickD)) (c_home_of : CalG P w K mg base 1 "home_of" (spV fHome)) (c_is_single : CalG P w K mg base 2 "is_single" (spV fSingle)) : CalG P w K mg base 5 "is_pick_for" spPF := by
  refine cal_mk D sc_is_pick_for (fun _ _ _ _ _ _ us hl => match us, hl with | [_, _], _ => rfl) (fun vs H Q E h => ?_) (fun f cdv A outer s H vs Q E hr hG h => ?_)
  · obtain ⟨z, v, d, rfl, _⟩ := h
    rfl
  · obtain ⟨z, v, d, rfl, hv, hok, q⟩ := h
    refine ⟨_, (pss_cons (ps_if (pt_not (pt_val (pe_cG c_is_pick hr hG (by decide) rfl (pa_cons (pv 1) pa_nil)))) (pss_one (ps_ret pe_bl)) pss_nil)
      (Evl.pss_cut (ps_if (PW.pt (pw_and (pt_cmpR (opEq hr) (pe_cG c_home_of hr hG (by decide) rfl (pa_cons (pv 1) pa_nil)) pe_str (nomark _)) (pw_and1 (pt_cmpR (opNe hr) (pv 0) pe_str (nomark _))))) (pss_one (ps_ret pe_bl)) pss_nil)
      (pss_one (ps_ret (pe_or (pe_cG c_is_single hr hG (by decide) rfl (pa_cons (pv 1) pa_nil)) (pe_one (pe_cmpR opNotIn (pv 0) (pe_glob (v := .ref _) rfl TK.g_ONLY_SINGLE rfl) rfl))))))), ?_⟩
    refine ⟨_, rfl, v, d, rfl, hv, hok, fun H1 e1 => ⟨_, rfl, ?_⟩⟩
    cases hk : pickD d with
    | false =>
      have e : pickFor z d = false := by unfold pickFor; rw [hk]; rfl
      rw [e] at q
      exact iteT (q _ e1)
    | true =>
      refine iteF ?_
      obtain ⟨own, ww, u, hV, hall⟩ := pick_view2 (Da.ex e1 _ hv) hk
      have pf : pickFor z d = ((!bkD d || decide (z = "copy")) && (!allD d || !decide (z ∈ OL))) := by unfold pickFor; rw [hk, Bool.true_and]
      refine ⟨fun σ' H' => σ' = [some (.str z), some v] ∧ Ex H1 H' ∧ (!bkD d || decide (z = "copy")) = true, ?_, ?_⟩
      · refine ⟨_, rfl, v, _, own, ww, u, rfl, hV, fun H2 e2 => .inl ⟨rfl, _, rfl, ?_⟩⟩
        have e12 := e1.trans e2
        cases hb : bkD d with
        | false =>
          refine iteF ⟨rfl, e2, ?_⟩
          rfl
        | true =>
          refine iteT ⟨_, rfl, .inl ⟨rfl, _, rfl, ?_⟩⟩
          rw [str_dec]
          cases hz : decide (z = "copy") with
          | true => exact iteF ⟨rfl, e2, rfl⟩
          | false =>
            rw [pf, hb, hz] at q
            exact iteT (q _ e12)
      · rintro σ' H2 ⟨rfl, e2, h1⟩
        have e12 := e1.trans e2
        refine ⟨_, rfl, v, _, own, ww, u, rfl, hV.ex e2, fun H3 e3 => ⟨_, rfl, ?_⟩⟩
        rw [pf, h1, Bool.true_and, hall] at q
        cases hw : decide (ww = "all") with
        | false =>
          rw [hw] at q
          exact iteT (q _ (e12.trans e3))
        | true =>
          rw [hw, Bool.not_true, Bool.false_or] at q
          refine iteF ⟨_, rfl, .inl ⟨os, _, rfl, .inr (TK.os_ _), rfl, flat_strs OL, ?_⟩⟩
          show Q (.bl (!inV (.str z) (OL.map V.str))) H3
          rw [in_strs]
          exact q _ (e12.trans e3)
def spStep : Sp := spIs stepD
theorem ok_is_step (T : Txt0 mg) (TI : TxtI K mg rel) (TK : TxtK K mg kn na os) (D : Df K mg "is_step" s_is_step) (c_picks_in : CalG P w K mg base 1 "picks_in" spPkIn) (c_is_pick_for : CalG P w K mg base 5 "is_pick_for" spPF) (c_is_name : CalG P w K mg base 1 "is_name" (spIs nmD)) : CalG P w K mg base 6 "is_step" (spIs stepD) := by
  refine cal_mk D sc_is_step (fun _ _ _ _ _ _ us hl => match us, hl with | [_], _ => rfl) (fun vs H Q E h => ?_) (fun f cdv A outer s H vs Q E hr hG h => ?_)
  · obtain ⟨v, d, rfl, _⟩ := h
    rfl
  · obtain ⟨v, d, rfl, hv, hok, q⟩ := h
    refine ⟨_, (pss_cons (ps_if (PW.pt (pw_or (pt_not (pt_val (pe_callB call_isi (by rfl) TI.isinstance (by decide +kernel) (pa_cons (pv 0) (pa_cons (pe_bltn (v := .ty "tuple") (by rfl) T.tuple (by decide +kernel) rfl) pa_nil))))) (pw_or (pt_cmpR (opEq hr) (pe_callB callLen (by rfl) T.len PySem.boot_len (pa_cons (pv 0) pa_nil)) pe_int (nomark _)) (pw_or1 (pt_not (pt_val (pe_callB call_isi (by rfl) TI.isinstance (by decide +kernel) (pa_cons (pe_ix ixAny (pv 0) pe_int (fun _ _ => rfl)) (pa_cons (pe_bltn (v := .ty "str") (by rfl) TI.str (by decide +kernel) rfl) pa_nil))))))))) (pss_one (ps_ret pe_bl)) pss_nil)
      (pss_cons (ps_set (i := 1) sc_is_step.nd rfl (Or.inr rfl) (pe_ix ixAny (pv 0) pe_int (fun _ _ => rfl)))
      (pss_cons (ps_if (pt_cmpR opNotIn (pv 1) (pe_glob (v := .ref _) rfl TK.g_KINDS rfl) rfl) (pss_one (ps_ret pe_bl)) pss_nil)
      (pss_cons (ps_set (i := 2) sc_is_step.nd rfl (Or.inl rfl) (pe_op opAdd pe_int (pe_cG c_picks_in hr hG (by decide) rfl (pa_cons (pv 1) pa_nil))))
      (pss_cons (ps_if (pt_not (pt_val (pe_callB (cr_all rfl) (by rfl) T.all (by decide +kernel) (pa_cons (pe_lcO (pe_lc (own := [("part", 3)]) rfl sc_is_step.nd (piAny (pe_slice slAny (pv 0) (po_some pe_int) (po_some (pv 2)))) (blkOk_by (own := [("part", 3)]) (N := ["thing", "kind", "behind", "part"]) (sc := defScope s_is_step) (by first | decide +kernel | kernel_rfl)) (fun _ _ _ _ _ => pg_name (i := 3) sc_is_step.nd rfl (Or.inl rfl)) (fun _ _ _ _ _ => pts_nil) (fun _ _ _ _ _ => pe_cG c_is_pick_for hr hG (by decide) rfl (pa_cons (pv 1) (pa_cons (pv 3) pa_nil))))) pa_nil)))) (pss_one (ps_ret pe_bl)) pss_nil)
      (pss_cons (ps_if (pt_cmpR opIn (pv 1) (pe_glob (v := .ref _) rfl TK.g_NAMING rfl) rfl) (pss_one (ps_ret (pe_and (pe_cmpR (opEq hr) (pe_callB callLen (by rfl) T.len PySem.boot_len (pa_cons (pv 0) pa_nil)) (pe_op opAdd (pv 2) pe_int) (nomark _)) (pe_one (pe_cG c_is_name hr hG (by decide) rfl (pa_cons (pe_ix ixAny (pv 0) (pv 2) (fun _ _ => rfl)) pa_nil)))))) pss_nil)
      (pss_one (ps_ret (pe_cmpR (opEq hr) (pe_callB callLen (by rfl) T.len PySem.boot_len (pa_cons (pv 0) pa_nil)) (pv 2) (nomark _)))))))))), ?_⟩
    refine ⟨_, rfl, v, .ty "tuple", _, _, _, rfl, .ty _, hv.ty, kit_ty (kit_tuple d), _, rfl, ?_⟩
    cases hs : isTupD d with
    | false =>
      refine iteT ?_
      rw [← stepD_no hs]
      exact q _ (Ex.refl _)
    | true =>
      obtain ⟨ds, rfl⟩ := tup_of hs
      obtain ⟨p, xs, rfl, hp, hA⟩ := hv.tup_inv
      have hl := hA.len
      refine iteF ⟨_, rfl, .inl ⟨p, _, rfl, .inr (st_of hp), .inl ⟨rfl, _, rfl, ?_⟩⟩⟩
      cases hA with
      | nil =>
        refine iteT ?_
        exact q _ (Ex.refl _)
      | @cons x xs a ds ha hA =>
        refine iteFb (decide_eq_false fun e => by cases e) ?_
        refine ⟨_, rfl, .inr (.inl ⟨p, _, 0, _, rfl, rfl, st_of hp, atI_nat (j := 0) rfl, ?_⟩)⟩
        refine ⟨x, .ty "str", _, _, _, rfl, .ty _, ha.ty, kit_ty (kit_str a), _, rfl, ?_⟩
        cases hsa : isStrD a with
        | false =>
          refine iteT ?_
          rw [stepD_str hsa] at q
          exact q _ (Ex.refl _)
        | true =>
          obtain ⟨z, rfl⟩ := str_of hsa
          have := ha.str_inv
          subst this
          have hl := hA.len
          have qz : ∀ H', Ex H H' → Q (.bl (stepT z ds)) H' := q
          obtain ⟨np1, np2⟩ := nPk_le z
          refine iteF ⟨_, rfl, .inr (.inl ⟨p, _, 0, _, rfl, rfl, st_of hp, atI_nat (j := 0) rfl, ?_⟩)⟩
          refine ⟨_, rfl, .inl ⟨kn, _, rfl, .inr (TK.kn_ _), rfl, flat_strs KL, _, rfl, ?_⟩⟩
          rw [show (if true = true then !inV (V.str z) (KL.map V.str) else inV (V.str z) (KL.map V.str)) = !inV (V.str z) (KL.map V.str) from rfl, in_strs]
          cases hk : decide (z ∈ KL) with
          | false =>
            refine iteT ?_
            have e : stepT z ds = false := by unfold stepT; rw [hk, Bool.false_and]
            rw [← e]
            exact qz _ (Ex.refl _)
          | true =>
            refine iteF ⟨_, rfl, z, rfl, fun H1 e1 => .inl ⟨_, _, rfl, rfl, ?_⟩⟩
            dsimp only
            rw [show (1 : Int) + ((nPk z : Nat) : Int) = ((1 + nPk z : Nat) : Int) from by omega]
            have hp1 := e1 _ _ hp
            refine .inr (.inl ⟨_, rfl, 1, rfl, _, rfl, _, rfl, sl_midG (j := 1) (k := nPk z) hp1 (by decide) (by show 1 ≤ xs.length + 1; omega) fun t H2 e2 h2 => ?_⟩)
            have h2 : H2 t = some (.tup (xs.take (nPk z))) := h2
            have hA2 : DaAll H2 (xs.take (nPk z)) (ds.take (nPk z)) := (DaAll.ex (e1.trans e2) _ hA).take _
            have okd : ∀ d ∈ ds, okD 40 16000000 d := fun d hd => by
              obtain ⟨g1, g2, g3⟩ := hok
              have hd' := List.mem_cons_of_mem (PyData.str z) hd
              exact ⟨gDs_iff.mp g1 d hd', Nat.le_trans (depthAll_le.mp (show PyData.depthAll (PyData.str z :: ds) ≤ 39 from Nat.le_of_succ_le_succ g2) d hd') (by decide), by have := wd_mem hd'; have g3' : wds (PyData.str z :: ds) + 3 ≤ 16000000 := g3; omega⟩
            refine ⟨t, rfl, ⟨_, st_of h2⟩, ?_⟩
            refine lcG (walk_tup (xs := xs.take (nPk z))) (by rw [List.length_take]; omega) (st_of h2) (fun _ _ e h => ex_t e h) yAt_ex (fun i ys _ => ys = (((ds.take (nPk z)).take i).map (pickFor z)).map V.bl) (fun _ _ _ _ _ h => h) rfl ?_ ?_
            · rintro i x H3 H4 ys hi e3 ⟨rfl, hx⟩ rfl N N0 kN kN0
              obtain ⟨d, hd1, hd2⟩ := (DaAll.ex e3 _ hA2).at hx
              refine ⟨rfl, _, rfl, _, rfl, z, x, d, rfl, hd2, okd d (List.mem_of_mem_take (List.mem_of_getElem? hd1)), fun H5 e5 => kN _ _ e5 ?_⟩
              rw [tk hd1, List.map_append, List.map_append]
              rfl
            · rintro l H3 ys hln e3 h3 _ rfl
              have e13 := (e1.trans e2).trans e3
              have ll : (xs.take (nPk z)).length = (ds.take (nPk z)).length := by rw [List.length_take, List.length_take, hl]
              rw [ll, List.take_length] at h3
              refine ⟨l, (ds.take (nPk z)).map (pickFor z), rfl, sq_of h3, ?_⟩
              rw [show ((ds.take (nPk z)).map (pickFor z)).all id = (ds.take (nPk z)).all (pickFor z) from by rw [List.all_map]; rfl]
              refine ⟨_, rfl, ?_⟩
              cases ha2 : (ds.take (nPk z)).all (pickFor z) with
              | false =>
                refine iteT ?_
                have e : stepT z ds = false := by unfold stepT; rw [hk, ha2]; rfl
                rw [← e]
                exact qz _ e13
              | true =>
                have hp3 := e13 _ _ hp
                refine iteF ⟨_, rfl, .inl ⟨na, _, rfl, .inr (TK.na_ _), rfl, flat_strs NL, _, rfl, ?_⟩⟩
                rw [show (if false = true then !inV (V.str z) (NL.map V.str) else inV (V.str z) (NL.map V.str)) = inV (V.str z) (NL.map V.str) from rfl, in_strs]
                have lenE : ∀ m : Nat, decide (V.int (((V.str z :: xs).length : Nat) : Int) = V.int ((m : Nat) : Int)) = decide (ds.length + 1 = m) := fun m => by
                  rw [show (V.str z :: xs).length = ds.length + 1 from by rw [List.length_cons, hl], int_eq]
                cases hn : decide (z ∈ NL) with
                | true =>
                  have e : stepT z ds = (decide (ds.length = nPk z + 1) && nmD (ds.getD (nPk z) .none)) := by unfold stepT; rw [hk, ha2, hn]; rfl
                  rw [e] at qz
                  refine iteT ⟨_, rfl, .inl ⟨p, _, rfl, .inr (st_of hp3), _, rfl, .inl ⟨_, _, rfl, rfl, .inl ⟨rfl, ?_⟩⟩⟩⟩
                  have ev : decide (V.int (((V.str z :: xs).length : Nat) : Int) = V.int (((1 + nPk z : Nat) : Int) + 1)) = decide (ds.length = nPk z + 1) := by
                    rw [show (((1 + nPk z : Nat) : Int) + 1) = ((1 + nPk z + 1 : Nat) : Int) from by omega, lenE]
                    exact decide_eq_decide.mpr (by omega)
                  refine ⟨_, rfl, ?_⟩
                  by_cases hd : ds.length = nPk z + 1
                  · rw [decide_eq_true hd, Bool.true_and] at qz
                    have hat : ds[nPk z]? = some (ds.getD (nPk z) .none) := by
                      rw [List.getElem?_eq_getElem (by omega), List.getD_eq_getElem?_getD, List.getElem?_eq_getElem (by omega)]
                      rfl
                    obtain ⟨y, hy1, hy2⟩ := (DaAll.ex e13 _ hA).at2 hat
                    refine iteTb (ev.trans (decide_eq_true hd)) ⟨_, rfl, _, rfl, .inr (.inl ⟨p, _, _, y, rfl, rfl, st_of hp3, atI_nat (j := 1 + nPk z) (by rw [Nat.add_comm]; exact hy1), ?_⟩)⟩
                    exact ⟨y, _, rfl, hy2, okd _ (List.mem_of_getElem? hat), fun H5 e5 => qz _ (e13.trans e5)⟩
                  · rw [decide_eq_false hd, Bool.false_and] at qz
                    exact iteFb (ev.trans (decide_eq_false hd)) (qz _ e13)
                | false =>
                  have e : stepT z ds = decide (ds.length = nPk z) := by unfold stepT; rw [hk, ha2, hn]; rfl
                  rw [e] at qz
                  refine iteF ⟨_, rfl, .inl ⟨p, _, rfl, .inr (st_of hp3), _, rfl, .inl ⟨rfl, ?_⟩⟩⟩
                  have ev : decide (V.int (((V.str z :: xs).length : Nat) : Int) = V.int ((1 + nPk z : Nat) : Int)) = decide (ds.length = nPk z) := by
                    rw [lenE]
                    exact decide_eq_decide.mpr (by omega)
                  have z1 := qz _ e13
                  rw [← ev] at z1
                  exact z1
end
end Own

namespace Own
open PySem PySem.Spec PyProof.Rows L2 Evl
theorem call_isiB {X : Cx} {s : Shared} {H : Hp} {sc : Scope} {ce : Env} {fp : List Addr} : CallR (X.blk s H sc ce fp) (.builtin "isinstance") (rIsi X.K) := call_isi
theorem low_mem (c : Nat) : decide (c ∈ List.range' 97 26) = lowc c := by
  unfold lowc
  by_cases h : 97 ≤ c ∧ c ≤ 122
  · rw [decide_eq_true h.1, decide_eq_true h.2, decide_eq_true (List.mem_range'_1.mpr ⟨h.1, by omega⟩)]
    rfl
  · rw [decide_eq_false (fun z => h ⟨(List.mem_range'_1.mp z).1, by have := (List.mem_range'_1.mp z).2; omega⟩)]
    by_cases h1 : 97 ≤ c
    · rw [decide_eq_false (show ¬ c ≤ 122 from fun z => h ⟨h1, z⟩), Bool.and_false]
    · rw [decide_eq_false h1, Bool.false_and]
theorem let_S : (("abcdefghijklmnopqrstuvwxyz" : Str)) = SX.S (List.range' 97 26) := by decide +kernel
theorem let_in (c : Nat) : (!(Builtin.Str.occurrences ("abcdefghijklmnopqrstuvwxyz" : Str) ⟨#[c]⟩ 0 ("abcdefghijklmnopqrstuvwxyz" : Str).length 1).isEmpty) = lowc c := by
  rw [let_S, ← low_mem]
  exact StrLaws.found_one _ c
theorem emp_snoc {α : Type} (ys : List α) (y : α) : (ys ++ [y]).isEmpty = false := by cases ys <;> rfl
/-- what the law's own look says of an atom (L = 1), of a pattern (L = 0) -/
def lookD (L : Int) (d : PyData) : Bool := if L = 1 then atomD d else patD d
theorem lookD_no {L : Int} {d : PyData} (h : isTupD d = false) : lookD L d = false := by
  unfold lookD
  rw [atomD_no h, patD_no h]
  split <;> rfl
theorem lookD_len {L : Int} {ds : List PyData} (h : ds.length ≠ 3) : lookD L (.tuple ds) = false := by
  unfold lookD
  rw [atomD_len h, patD_len h]
  split <;> rfl
theorem rel_str {d : PyData} (h : isStrD d = false) : (blankD d || relD d) = false := by rw [blankD_no h, relD_no h]; rfl
theorem part_str {d : PyData} (h : isStrD d = false) : partD d = false := by unfold partD; rw [blankD_no h, nmD_no h]; rfl
theorem lookD_str {L : Int} {a b c : PyData} (h : [a, b, c].all isStrD = false) : lookD L (.tuple [a, b, c]) = false := by
  have h : (isStrD a && (isStrD b && (isStrD c && true))) = false := h
  rw [Bool.and_true] at h
  have e1 : atomD (.tuple [a, b, c]) = (relD a && (nmD b && nmD c)) := rfl
  have e2 : patD (.tuple [a, b, c]) = ((blankD a || relD a) && (partD b && partD c)) := rfl
  unfold lookD
  rw [e1, e2]
  cases ha : isStrD a with
  | false =>
    rw [rel_str ha, relD_no ha]
    split <;> rfl
  | true =>
    cases hb : isStrD b with
    | false =>
      rw [nmD_no hb, part_str hb, Bool.false_and, Bool.false_and, Bool.and_false, Bool.and_false]
      split <;> rfl
    | true =>
      have hc : isStrD c = false := by
        rw [ha, hb] at h
        exact h
      rw [nmD_no hc, part_str hc, Bool.and_false, Bool.and_false, Bool.and_false, Bool.and_false]
      split <;> rfl
/-- the part k is as it should be -/
def okAt (L : Int) (g : Bool) (z : Str) : Bool := g || (!decide (L = 1) && decide (z = ""))
theorem lookD_three {L : Int} (hL : L = 0 ∨ L = 1) (a b c : Str) : (okAt L (isR3 a) a && (okAt L (isNm b) b && okAt L (isNm c) c)) = lookD L (.tuple [.str a, .str b, .str c]) := by
  unfold lookD okAt
  rcases hL with rfl | rfl
  · rw [if_neg (by decide)]
    show ((isR3 a || decide (a = "")) && ((isNm b || decide (b = "")) && (isNm c || decide (c = "")))) = ((decide (a = "") || isR3 a) && ((decide (b = "") || isNm b) && (decide (c = "") || isNm c)))
    rw [Bool.or_comm (isR3 a), Bool.or_comm (isNm b), Bool.or_comm (isNm c)]
  · rw [if_pos rfl]
    show ((isR3 a || false) && ((isNm b || false) && (isNm c || false))) = (isR3 a && (isNm b && isNm c))
    rw [Bool.or_false, Bool.or_false, Bool.or_false]
theorem str_eq0 (z : Str) : (!decide (V.str z = V.str "")) = !decide (z = "") := by
  by_cases h : z = ""
  · rw [h]
    simp
  · rw [decide_eq_false h, decide_eq_false (fun e => h (V.str.inj e))]
theorem int_one (L : Int) : decide (V.int L = V.int 1) = decide (L = 1) := by
  by_cases h : L = 1
  · rw [h]
    simp
  · rw [decide_eq_false h, decide_eq_false (fun e => h (V.int.inj e))]
abbrev s_l_is_name : Stmt := top 51
theorem sc_l_is_name : FnScope ["_law_thing", "_law_sign"] ["_law_thing"] (defScope s_l_is_name) := ⟨rfl, rfl, rfl, by decide +kernel, rfl, by decide +kernel, by decide +kernel⟩
section
variable {P : Program} {w : World} {K : PySem.W.Frag} {mg : Str → Option Value} {base : Heap} {rel : Addr}
theorem ok_l_is_name (T : Txt0 mg) (TI : TxtI K mg rel) (D : Df K mg "_law_is_name" s_l_is_name) : CalG P w K mg base 1 "_law_is_name" (spIs nmD) := by
  refine cal_mk D sc_l_is_name (fun _ _ _ _ _ _ us hl => match us, hl with | [_], _ => rfl) (fun vs H Q E h => ?_) (fun f cdv A outer s H vs Q E hr hG h => ?_)
  · obtain ⟨v, d, rfl, _⟩ := h
    rfl
  · obtain ⟨v, d, rfl, hv, hok, q⟩ := h
    refine ⟨_, (pss_cons (ps_if (PW.pt (pw_or (pt_not (pt_val (pe_callB call_isi (by rfl) TI.isinstance (by decide +kernel) (pa_cons (pv 0) (pa_cons (pe_bltn (v := .ty "str") (by rfl) TI.str (by decide +kernel) rfl) pa_nil))))) (pw_or1 (pt_not (pt_chain opLt opLt pe_int (pe_callB callLen (by rfl) T.len PySem.boot_len (pa_cons (pv 0) pa_nil)) pe_int))))) (pss_one (ps_ret pe_bl)) pss_nil)
      (pss_one (ps_ret (pe_cmpR (op_eq0 hr) (pe_lcO (pe_lc (own := [("_law_sign", 1)]) rfl sc_l_is_name.nd (piAny (pv 0)) (blkOk_by (own := [("_law_sign", 1)]) (N := ["_law_thing", "_law_sign"]) (sc := defScope s_l_is_name) (by first | decide +kernel | kernel_rfl)) (fun _ _ _ _ _ => pg_name (i := 1) sc_l_is_name.nd rfl (Or.inl rfl)) (fun _ _ _ _ _ => pts_one (pt_not (pt_chain opLeA opLeA pe_str (pv 1) pe_str))) (fun _ _ _ _ _ => pv 1))) (pe_lst pa_nil) (nomark _))))), ?_⟩
    refine ⟨_, rfl, v, .ty "str", _, _, _, rfl, .ty _, hv.ty, kit_ty (kit_str d), _, rfl, ?_⟩
    cases hs : isStrD d with
    | false =>
      refine iteT ?_
      rw [← nmD_no hs]
      exact q _ (Ex.refl _)
    | true =>
      obtain ⟨z, rfl⟩ := str_of hs
      have ev := hv.str_inv
      subst ev
      have hw : 10 * z.length + 5 ≤ 16000000 := hok.2.2
      have ez : nmD (.str z) = (decide (1 ≤ z.length) && decide (z.length ≤ 8) && (TL.tl z).all lowc) := rfl
      refine iteF ⟨_, rfl, .inr ⟨z, rfl, by show z.length ≤ 16777216; omega, ?_⟩⟩
      refine ⟨_, _, rfl, rfl, _, rfl, ite2 (fun h1 => ⟨_, _, rfl, rfl, _, rfl, ite2 (fun h2 => ?_) (fun h2 => ?_)⟩) (fun h1 => ⟨_, rfl, ifT (by rfl) ?_⟩)⟩
      · have e : nmD (.str z) = false := by
          have z2 : ¬ ((z.length : Int) < (9 : Int)) := by simpa using h2
          rw [ez, decide_eq_false (show ¬ z.length ≤ 8 by omega), Bool.and_false, Bool.false_and]
        rw [← e]
        exact q _ (Ex.refl _)
      · have z1 : ((0 : Int) < (z.length : Int)) := by simpa using h1
        have z2 : ((z.length : Int) < (9 : Int)) := by simpa using h2
        refine .inr (.inr ⟨_, rfl, z, rfl, ?_⟩)
        refine lcG walk_str (by have z2 : z.cps.size = z.length := rfl; omega) trivial (fun _ _ _ _ => trivial) (fun i H x H' h => by rw [h.1]; exact Ex.refl _) (fun i ys _ => ys.isEmpty = ((TL.tl z).take i).all lowc) (fun _ _ _ _ _ h => h) rfl ?_ ?_
        · rintro i x H1 H2 ys hi e ⟨rfl, c, hc, rfl⟩ hy N N0 kN kN0
          have hc2 : (TL.tl z)[i]? = some c := by
            show z.cps.toList[i]? = some c
            rw [Array.getElem?_toList]
            exact hc
          have step : ((TL.tl z).take (i + 1)).all lowc = (((TL.tl z).take i).all lowc && lowc c) := by
            rw [tk hc2, List.all_append]
            show (_ && (_ && true)) = _
            rw [Bool.and_true]
          refine ⟨rfl, ?_⟩
          refine ⟨_, rfl, .inr ⟨_, _, rfl, rfl, _, congrArg V.bl (le_a c), ite2 (fun k1 => .inr ⟨_, _, rfl, rfl, _, congrArg V.bl (le_z c), ?_⟩) (fun k1 => ?_)⟩⟩
          · have hlc : lowc c = decide (c ≤ 122) := by unfold lowc; rw [k1, Bool.true_and]
            cases hz : decide (c ≤ 122) with
            | true =>
              refine iteF (kN0 _ (Ex.refl _) ?_)
              rw [step, hlc, hz, Bool.and_true]
              exact hy
            | false =>
              refine iteT ⟨_, rfl, kN _ _ (Ex.refl _) ?_⟩
              rw [step, hlc, hz, Bool.and_false, emp_snoc]
          · have hlc : lowc c = false := by unfold lowc; rw [show decide (97 ≤ c) = false from by simpa using k1, Bool.false_and]
            refine ⟨false, rfl, iteT ⟨_, rfl, kN _ _ (Ex.refl _) ?_⟩⟩
            rw [step, hlc, Bool.and_false, emp_snoc]
        · rintro l H1 ys hl e1 h1' _ hy
          refine ⟨by show 0 ≤ sizeLine; decide, fun n1 hn1 => ?_⟩
          generalize hq2 : upd H1 n1 _ = H2
          obtain ⟨e2, h2'⟩ := gen1 hq2 hn1
          refine ⟨l, n1, ys, rfl, rfl, sq_of (e2 _ _ h1'), sq_of h2', ?_⟩
          have e : ys.isEmpty = nmD (.str z) := by
            rw [hy, ez, show z.cps.size = (TL.tl z).length from by simp, List.take_length, decide_eq_true (show 1 ≤ z.length by omega), decide_eq_true (show z.length ≤ 8 by omega)]
            rfl
          rw [e]
          exact q _ (e1.trans e2)
      · have e : nmD (.str z) = false := by
          have z1 : ¬ ((0 : Int) < (z.length : Int)) := by simpa using h1
          rw [ez, decide_eq_false (show ¬ 1 ≤ z.length by omega), Bool.false_and, Bool.false_and]
        rw [← e]
        exact q _ (Ex.refl _)
end
end Own

namespace Own
open PySem PySem.Spec PyProof.Rows L2 Evl
abbrev s_l_is_atomic : Stmt := top 52
theorem sc_l_is_atomic : FnScope ["_law_thing", "_law_lets_any", "_law_part"] ["_law_thing", "_law_lets_any"] (defScope s_l_is_atomic) := ⟨rfl, rfl, rfl, by decide +kernel, rfl, by decide +kernel, by decide +kernel⟩
abbrev s_l_is_count : Stmt := top 53
theorem sc_l_is_count : FnScope ["_law_thing"] ["_law_thing"] (defScope s_l_is_count) := ⟨rfl, rfl, rfl, by decide +kernel, rfl, by decide +kernel, by decide +kernel⟩
abbrev s_l_is_bare : Stmt := top 54
theorem sc_l_is_bare : FnScope ["_law_thing"] ["_law_thing"] (defScope s_l_is_bare) := ⟨rfl, rfl, rfl, by decide +kernel, rfl, by decide +kernel, by decide +kernel⟩
theorem str_eq1 (z y : Str) : decide (V.str z = V.str y) = decide (z = y) := str_dec z y
theorem patD_str {a b c : PyData} (h : [a, b, c].all isStrD = false) : patD (.tuple [a, b, c]) = false := by
  have h : (isStrD a && (isStrD b && (isStrD c && true))) = false := h
  show ((blankD a || relD a) && (partD b && partD c)) = false
  have no : ∀ {d : PyData}, isStrD d = false → partD d = false := fun {d} q => by unfold partD; rw [blankD_no q, nmD_no q]; rfl
  cases h1 : isStrD a with
  | false => rw [blankD_no h1, relD_no h1]; rfl
  | true =>
    cases h2 : isStrD b with
    | false => rw [no h2, Bool.false_and, Bool.and_false]
    | true =>
      cases h3 : isStrD c with
      | false => rw [no h3, Bool.and_false, Bool.and_false]
      | true => rw [h1, h2, h3] at h; cases h
theorem patD_len3 {ds : List PyData} (h : ds.length ≠ 3) : patD (.tuple ds) = false := by
  match ds, h with
  | [], _ => rfl
  | [_], _ => rfl
  | [_, _], _ => rfl
  | [_, _, _], h => exact absurd rfl h
  | _ :: _ :: _ :: _ :: _, _ => rfl
section
variable {P : Program} {w : World} {K : PySem.W.Frag} {mg : Str → Option Value} {base : Heap} {rel : Addr}
def spAto : Sp := fun vs H Q _ => ∃ (v : V) (d : PyData), vs = [v, .bl true] ∧ Da H v d ∧ okD 40 16000000 d ∧ ∀ H', Ex H H' → Q (.bl (patD d)) H'
theorem ok_l_is_atomic (T : Txt0 mg) (TI : TxtI K mg rel) (D : Df K mg "_law_is_atomic" s_l_is_atomic) (c_l_is_name : CalG P w K mg base 1 "_law_is_name" (spIs nmD)) : CalG P w K mg base 2 "_law_is_atomic" spAto := by
  refine cal_mk D sc_l_is_atomic (fun _ _ _ _ _ _ us hl => match us, hl with | [_, _], _ => rfl) (fun vs H Q E h => ?_) (fun f cdv A outer s H vs Q E hr hG h => ?_)
  · obtain ⟨v, d, rfl, _⟩ := h
    rfl
  · obtain ⟨v, d, rfl, hv, hok, q⟩ := h
    refine ⟨_, (pss_cons (ps_if (PW.pt (pw_or (pt_not (pt_val (pe_callB call_isi (by rfl) TI.isinstance (by decide +kernel) (pa_cons (pv 0) (pa_cons (pe_bltn (v := .ty "tuple") (by rfl) T.tuple (by decide +kernel) rfl) pa_nil))))) (pw_or (pt_cmpR (opNe hr) (pe_callB callLen (by rfl) T.len PySem.boot_len (pa_cons (pv 0) pa_nil)) pe_int (nomark _)) (pw_or1 (pt_cmpR (op_ne0 hr) (pe_lcO (pe_lc (own := [("_law_part", 2)]) rfl sc_l_is_atomic.nd (piAny (pv 0)) (blkOk_by (own := [("_law_part", 2)]) (N := ["_law_thing", "_law_lets_any", "_law_part"]) (sc := defScope s_l_is_atomic) (by first | decide +kernel | kernel_rfl)) (fun _ _ _ _ _ => pg_name (i := 2) sc_l_is_atomic.nd rfl (Or.inl rfl)) (fun _ _ _ _ _ => pts_one (pt_not (pt_val (pe_callB call_isiB (by rfl) TI.isinstance (by decide +kernel) (pa_cons (pv 2) (pa_cons (pe_bltn (v := .ty "str") (by rfl) TI.str (by decide +kernel) rfl) pa_nil)))))) (fun _ _ _ _ _ => pv 2))) (pe_lst pa_nil) (nomark _)))))) (pss_one (ps_ret pe_bl)) pss_nil)
      (pss_cons (ps_if (pt_cmpR opNotIn (pe_ix ixAny (pv 0) pe_int (fun _ _ => rfl)) (pe_op opAdd (pe_lst (pa_cons pe_str (pa_cons pe_str (pa_cons pe_str pa_nil)))) (pe_op opMul (pe_lst (pa_cons pe_str pa_nil)) (pe_callTy call_int1 (by rfl) T.int (by decide +kernel) (pa_cons (pv 1) pa_nil)))) rfl) (pss_one (ps_ret pe_bl)) pss_nil)
      (pss_one (ps_ret (pe_cmpR (op_eq0 hr) (pe_lcO (pe_lc (own := [("_law_part", 2)]) rfl sc_l_is_atomic.nd (piAny (pe_slice slAny (pv 0) (po_some pe_int) po_none)) (blkOk_by (own := [("_law_part", 2)]) (N := ["_law_thing", "_law_lets_any", "_law_part"]) (sc := defScope s_l_is_atomic) (by first | decide +kernel | kernel_rfl)) (fun _ _ _ _ _ => pg_name (i := 2) sc_l_is_atomic.nd rfl (Or.inl rfl)) (fun _ _ _ _ _ => pts_one (PW.pt (pw_and (pt_not (pt_val (pe_cG c_l_is_name hr hG (by decide) rfl (pa_cons (pv 2) pa_nil)))) (pw_and1 (pt_not (PW.pt (pw_and (pt_val (pv 1)) (pw_and1 (pt_cmpR (opEqB hr) (pv 2) pe_str (nomark _)))))))))) (fun _ _ _ _ _ => pv 2))) (pe_lst pa_nil) (nomark _)))))), ?_⟩
    refine ⟨_, rfl, v, .ty "tuple", _, _, _, rfl, .ty _, hv.ty, kit_ty (kit_tuple d), _, rfl, ?_⟩
    cases hs : isTupD d with
    | false =>
      refine iteT ?_
      rw [← patD_no hs]
      exact q _ (Ex.refl _)
    | true =>
      obtain ⟨ds, rfl⟩ := tup_of hs
      obtain ⟨p, xs, rfl, hp, hA⟩ := hv.tup_inv
      have hl := hA.len
      refine iteF ⟨_, rfl, .inl ⟨p, _, rfl, .inr (st_of hp), .inl ⟨rfl, _, rfl, ?_⟩⟩⟩
      by_cases h3 : ds.length = 3
      · refine ifF (b := !decide (V.int (xs.length : Int) = V.int ((3 : Nat) : Int))) (by rw [int_eq, decide_eq_true (by omega)]; rfl) ?_
        refine .inr (.inl ⟨_, rfl, p, rfl, ⟨_, st_of hp⟩, ?_⟩)
        refine lcG (walk_tup (xs := xs)) (by omega) (st_of hp) (fun _ _ e h => ex_t e h) yAt_ex (fun i ys _ => ys.isEmpty = (ds.take i).all isStrD) (fun _ _ _ _ _ h => h) rfl ?_ ?_
        · rintro i x H1 H2 ys hi e ⟨rfl, hx⟩ hy N N0 kN kN0
          obtain ⟨g, hg, hat⟩ := (DaAll.ex e ds hA).at hx
          have step : (ds.take (i + 1)).all isStrD = ((ds.take i).all isStrD && isStrD g) := by
            rw [tk hg, List.all_append]
            show (_ && (_ && true)) = _
            rw [Bool.and_true]
          refine ⟨rfl, ?_⟩
          refine ⟨_, rfl, x, .ty "str", _, _, _, rfl, .ty _, hat.ty, kit_ty (kit_str g), _, rfl, ?_⟩
          cases hsg : isStrD g with
          | true =>
            refine iteF (kN0 _ (Ex.refl _) ?_)
            rw [step, hsg, Bool.and_true]
            exact hy
          | false =>
            refine iteT ⟨_, rfl, kN _ _ (Ex.refl _) ?_⟩
            rw [step, hsg, Bool.and_false, emp_snoc]
        · rintro l H1 ys hl1 e1 h1 _ hy
          rw [hl, List.take_length] at hy
          refine ⟨by show 0 ≤ sizeLine; decide, fun n1 hn1 => ?_⟩
          generalize hq2 : upd H1 n1 _ = H2
          obtain ⟨e2, h2⟩ := gen1 hq2 hn1
          refine ⟨l, n1, ys, rfl, rfl, sq_of (e2 _ _ h1), sq_of h2, _, rfl, ?_⟩
          have e02 := e1.trans e2
          rw [hy]
          obtain ⟨x, y, z, a, b, c, rfl, rfl, ha, hb, hc⟩ := three hA h3
          cases hall : [a, b, c].all isStrD with
          | false =>
            refine iteT ?_
            rw [← patD_str hall]
            exact q _ e02
          | true =>
            refine iteF ?_
            have hall : (isStrD a && (isStrD b && (isStrD c && true))) = true := hall
            simp only [Bool.and_eq_true, Bool.and_true] at hall
            obtain ⟨sa, rfl⟩ := str_of hall.1
            obtain ⟨sb, rfl⟩ := str_of hall.2.1
            obtain ⟨sc, rfl⟩ := str_of hall.2.2
            have ea := ha.str_inv
            have eb := hb.str_inv
            have ec := hc.str_inv
            subst ea eb ec
            have okb := hok.memT (d := .str sb) (by simp)
            have okc := hok.memT (d := .str sc) (by simp)
            have hp2 := e02 _ _ hp
            refine ⟨_, rfl, .inr (.inl ⟨p, _, 0, _, rfl, rfl, st_of hp2, atI_nat (j := 0) rfl, ?_⟩)⟩
            refine ⟨by show 3 ≤ sizeLine; decide, fun l3 n3 => ?_⟩
            generalize hq3 : upd H2 l3 _ = H3
            obtain ⟨e3, h3'⟩ := gen1 hq3 n3
            refine ⟨by show 1 ≤ sizeLine; decide, fun l4 n4 => ?_⟩
            generalize hq4 : upd H3 l4 _ = H4
            obtain ⟨e4, h4⟩ := gen1 hq4 n4
            refine ⟨_, rfl, .inr ⟨true, rfl, .inr ⟨l4, 1, _, rfl, rfl, h4, by decide, by decide, by decide, fun l5 n5 => ?_⟩⟩⟩
            generalize hq5 : upd H4 l5 _ = H5
            obtain ⟨e5, h5⟩ := gen1 hq5 n5
            refine .inr (.inr (.inl ⟨l3, l5, _, _, rfl, rfl, (e4.trans e5) _ _ h3', h5, by decide, fun l6 n6 => ?_⟩))
            generalize hq6 : upd H5 l6 _ = H6
            obtain ⟨e6, h6⟩ := gen1 hq6 n6
            refine .inl ⟨l6, _, rfl, .inl (sq_of h6), rfl, rfl, _, rfl, ?_⟩
            have e26 := ((e3.trans e4).trans e5).trans e6
            have hp6 := e26 _ _ hp2
            have ein : inV (.str sa) [V.str "eq", V.str "lt", V.str "gt", V.str ""] = (blankD (.str sa) || relD (.str sa)) := by
              rw [show [V.str "eq", V.str "lt", V.str "gt", V.str ""] = (["eq", "lt", "gt", ""] : List Str).map V.str from rfl, in_strs]
              show _ = (decide (sa = "") || (sa == "eq" || sa == "lt" || sa == "gt"))
              by_cases h1 : sa = "eq" <;> by_cases h2 : sa = "lt" <;> by_cases h3 : sa = "gt" <;> by_cases h4 : sa = "" <;> simp [h1, h2, h3, h4]
            have ep : patD (.tuple [.str sa, .str sb, .str sc]) = ((blankD (.str sa) || relD (.str sa)) && (partD (.str sb) && partD (.str sc))) := rfl
            rw [ep] at q
            cases hr3 : (blankD (.str sa) || relD (.str sa)) with
            | false =>
              refine iteTb (by show (!inV (.str sa) [V.str "eq", V.str "lt", V.str "gt", V.str ""]) = true; rw [ein, hr3]; rfl) ?_
              rw [hr3, Bool.false_and] at q
              exact q _ (e02.trans e26)
            | true =>
              refine iteFb (by show (!inV (.str sa) [V.str "eq", V.str "lt", V.str "gt", V.str ""]) = false; rw [ein, hr3]; rfl) ?_
              rw [hr3, Bool.true_and] at q
              refine .inr (.inl ⟨_, rfl, 1, rfl, sl_fromG (j := 1) hp6 fun t7 H7 e7 h7 => ⟨t7, rfl, ⟨_, st_of h7⟩, ?_⟩⟩)
              refine lcG (walk_tup (xs := [V.str sb, V.str sc])) (by show 2 ≤ 40000; decide) (st_of h7) (fun _ _ e h => ex_t e h) yAt_ex (fun i ys _ => ys.isEmpty = ([partD (.str sb), partD (.str sc)].take i).all id) (fun _ _ _ _ _ h => h) rfl ?_ ?_
              · rintro i x H8 H9 ys hi e8 ⟨rfl, hx⟩ hy N N0 kN kN0
                obtain ⟨y, rfl, hk, oky⟩ : ∃ y : Str, x = .str y ∧ [partD (.str sb), partD (.str sc)][i]? = some (partD (.str y)) ∧ okD 40 16000000 (.str y) := by
                  match i, hx with
                  | 0, h => cases h; exact ⟨sb, rfl, rfl, okb⟩
                  | 1, h => cases h; exact ⟨sc, rfl, rfl, okc⟩
                  | i + 2, h => cases h
                have step : ([partD (.str sb), partD (.str sc)].take (i + 1)).all id = (([partD (.str sb), partD (.str sc)].take i).all id && partD (.str y)) := by
                  rw [tk hk, List.all_append]
                  show (_ && (_ && true)) = _
                  rw [Bool.and_true]
                  rfl
                refine ⟨rfl, _, rfl, .str y, .str y, rfl, .str y, oky, fun H10 e10 => ⟨_, rfl, ?_⟩⟩
                have ey : partD (.str y) = (decide (y = "") || nmD (.str y)) := rfl
                cases hn : nmD (.str y) with
                | true =>
                  refine iteF (iteF (kN0 _ e10 ?_))
                  rw [step, ey, hn, Bool.or_true, Bool.and_true]
                  exact hy
                | false =>
                  refine iteT ⟨_, rfl, true, rfl, iteT ⟨_, rfl, .inl ⟨rfl, _, rfl, ?_⟩⟩⟩
                  rw [str_dec]
                  cases hz : decide (y = "") with
                  | true =>
                    refine iteF (kN0 _ e10 ?_)
                    rw [step, ey, hz, Bool.true_or, Bool.and_true]
                    exact hy
                  | false =>
                    refine iteT ⟨_, rfl, kN _ _ e10 ?_⟩
                    rw [step, ey, hz, hn, Bool.or_false, Bool.and_false, emp_snoc]
              · rintro l8 H8 ys8 hl8 e8 h8 _ hy8
                refine ⟨by show 0 ≤ sizeLine; decide, fun n9 hn9 => ?_⟩
                generalize hq9 : upd H8 n9 _ = H9
                obtain ⟨e9, h9⟩ := gen1 hq9 hn9
                refine ⟨l8, n9, ys8, rfl, rfl, sq_of (e9 _ _ h8), sq_of h9, ?_⟩
                have e2 : ([partD (.str sb), partD (.str sc)].take [V.str sb, V.str sc].length).all id = (partD (.str sb) && partD (.str sc)) := by
                  show (_ && (_ && true)) = _
                  rw [Bool.and_true]
                  rfl
                rw [hy8, e2]
                exact q _ (((e02.trans e26).trans e7).trans (e8.trans e9))
      · refine ifT (b := !decide (V.int (xs.length : Int) = V.int ((3 : Nat) : Int))) (by rw [int_eq, decide_eq_false (by omega)]; rfl) ?_
        rw [← patD_len3 h3]
        exact q _ (Ex.refl _)
theorem ok_l_is_count (T : Txt0 mg) (TI : TxtI K mg rel) (D : Df K mg "_law_is_count" s_l_is_count) : CalG P w K mg base 1 "_law_is_count" (spIs natD) := by
  refine cal_mk D sc_l_is_count (fun _ _ _ _ _ _ us hl => match us, hl with | [_], _ => rfl) (fun vs H Q E h => ?_) (fun f cdv A outer s H vs Q E hr hG h => ?_)
  · obtain ⟨v, d, rfl, _⟩ := h
    rfl
  · obtain ⟨v, b, rfl, hb, hok, q⟩ := h
    refine ⟨_, (pss_one (ps_ret (pe_and (pe_callB call_isi (by rfl) TI.isinstance (by decide +kernel) (pa_cons (pv 0) (pa_cons (pe_bltn (v := .ty "int") (by rfl) T.int (by decide +kernel) rfl) pa_nil))) (pe_and (pe_not (pe_callB call_isi (by rfl) TI.isinstance (by decide +kernel) (pa_cons (pv 0) (pa_cons (pe_bltn (v := .ty "bool") (by rfl) TI.bool (by decide +kernel) rfl) pa_nil)))) (pe_one (pe_cmpR opGe (pv 0) pe_int (nomark _))))))), ?_⟩
    refine ⟨_, rfl, v, .ty "int", _, _, _, rfl, .ty _, hb.ty, kit_ty (kit_int b), _, rfl, ?_⟩
    cases hi : isIntD b with
    | false =>
      refine iteF ?_
      rw [← show natD b = false from by cases b <;> first | rfl | cases hi]
      exact q _ (Ex.refl _)
    | true =>
      refine iteT ⟨_, rfl, v, .ty "bool", _, _, _, rfl, .ty _, hb.ty, kit_ty (kit_bool b), _, rfl, _, rfl, ?_⟩
      cases hbb : isBoolD b with
      | true =>
        refine iteF ?_
        rw [← show natD b = false from by cases b <;> first | rfl | cases hbb]
        exact q _ (Ex.refl _)
      | false =>
        obtain ⟨i, rfl⟩ : ∃ i, b = .int i := by cases b <;> first | exact ⟨_, rfl⟩ | (cases hi; done) | (cases hbb; done)
        have := hb.int_inv
        subst this
        exact iteT ⟨_, rfl, i, 0, rfl, rfl, q _ (Ex.refl _)⟩
end
end Own

namespace Own
open PySem PySem.Spec PyProof.Rows L2 Evl
theorem lenD_ge {x y z : PyData} {ds : List PyData} : bareD (.tuple (x :: y :: z :: ds)) = false := by
  exact bareD_len (fun h => by have := h.2; simp at this)
section
variable {P : Program} {w : World} {K : PySem.W.Frag} {mg : Str → Option Value} {base : Heap} {rel : Addr}
theorem ok_l_is_bare (T : Txt0 mg) (TI : TxtI K mg rel) (D : Df K mg "_law_is_bare" s_l_is_bare) (c_l_is_name : CalG P w K mg base 1 "_law_is_name" (spIs nmD)) (c_l_is_count : CalG P w K mg base 1 "_law_is_count" (spIs natD)) (c_l_is_atomic : CalG P w K mg base 2 "_law_is_atomic" spAto) : CalG P w K mg base 3 "_law_is_bare" (spIs bareD) := by
  refine cal_mk D sc_l_is_bare (fun _ _ _ _ _ _ us hl => match us, hl with | [_], _ => rfl) (fun vs H Q E h => ?_) (fun f cdv A outer s H vs Q E hr hG h => ?_)
  · obtain ⟨v, a, rfl, _⟩ := h
    rfl
  · obtain ⟨v, d, rfl, hv, hok, q⟩ := h
    refine ⟨_, (pss_cons (ps_if (PW.pt (pw_or (pt_not (pt_val (pe_callB call_isi (by rfl) TI.isinstance (by decide +kernel) (pa_cons (pv 0) (pa_cons (pe_bltn (v := .ty "tuple") (by rfl) T.tuple (by decide +kernel) rfl) pa_nil))))) (pw_or (pt_cmpR (op_eqT0 hr) (pv 0) (pe_tup pa_nil) (nomark _)) (pw_or1 (pt_not (pt_val (pe_callB call_isi (by rfl) TI.isinstance (by decide +kernel) (pa_cons (pe_ix ixAny (pv 0) pe_int (fun _ _ => rfl)) (pa_cons (pe_bltn (v := .ty "str") (by rfl) TI.str (by decide +kernel) rfl) pa_nil))))))))) (pss_one (ps_ret pe_bl)) pss_nil)
      (pss_cons (ps_if (pt_cmpR (opEq hr) (pe_ix ixAny (pv 0) pe_int (fun _ _ => rfl)) pe_str (nomark _)) (pss_one (ps_ret (pe_cmpR (opEq hr) (pe_callB callLen (by rfl) T.len PySem.boot_len (pa_cons (pv 0) pa_nil)) pe_int (nomark _)))) pss_nil)
      (pss_cons (ps_if (pt_cmpR (opNe hr) (pe_callB callLen (by rfl) T.len PySem.boot_len (pa_cons (pv 0) pa_nil)) pe_int (nomark _)) (pss_one (ps_ret pe_bl)) pss_nil)
      (pss_cons (ps_if (pt_cmpR (opEq hr) (pe_ix ixAny (pv 0) pe_int (fun _ _ => rfl)) pe_str (nomark _)) (pss_one (ps_ret (pe_cG c_l_is_name hr hG (by decide) rfl (pa_cons (pe_ix ixAny (pv 0) pe_int (fun _ _ => rfl)) pa_nil)))) pss_nil)
      (pss_cons (ps_if (pt_cmpR (opEq hr) (pe_ix ixAny (pv 0) pe_int (fun _ _ => rfl)) pe_str (nomark _)) (pss_one (ps_ret (pe_cG c_l_is_count hr hG (by decide) rfl (pa_cons (pe_ix ixAny (pv 0) pe_int (fun _ _ => rfl)) pa_nil)))) pss_nil)
      (pss_one (ps_ret (pe_and (pe_cmpR opIn (pe_ix ixAny (pv 0) pe_int (fun _ _ => rfl)) (pe_tup (pa_cons pe_str (pa_cons pe_str pa_nil))) rfl) (pe_one (pe_cG c_l_is_atomic hr hG (by decide) rfl (pa_cons (pe_ix ixAny (pv 0) pe_int (fun _ _ => rfl)) (pa_cons pe_bl pa_nil)))))))))))), ?_⟩
    refine ⟨_, rfl, v, .ty "tuple", _, _, _, rfl, .ty _, hv.ty, kit_ty (kit_tuple d), _, rfl, ?_⟩
    cases hs : isTupD d with
    | false =>
      refine iteT ?_
      rw [← bareD_no hs]
      exact q _ (Ex.refl _)
    | true =>
      obtain ⟨ds, rfl⟩ := tup_of hs
      obtain ⟨p, xs, rfl, hp, hA⟩ := hv.tup_inv
      have hl := hA.len
      refine iteF ⟨_, rfl, by show 0 ≤ sizeLine; decide, fun t0 ht0 => ?_⟩
      generalize hq1 : upd H t0 _ = H1
      obtain ⟨e1, h1⟩ := gen1 hq1 ht0
      refine ⟨p, t0, xs, rfl, rfl, st_of (e1 _ _ hp), st_of h1, _, rfl, ?_⟩
      have hp1 := e1 _ _ hp
      cases hA with
      | nil =>
        exact iteT (q _ e1)
      | @cons x xs a ds ha hA =>
        refine iteF ⟨_, rfl, .inr (.inl ⟨p, _, 0, _, rfl, rfl, st_of hp1, atI_nat (j := 0) rfl, ?_⟩)⟩
        refine ⟨x, .ty "str", _, _, _, rfl, .ty _, (Da.ex e1 _ ha).ty, kit_ty (kit_str a), _, rfl, ?_⟩
        cases hsa : isStrD a with
        | false =>
          refine iteT ?_
          have e : bareD (.tuple (a :: ds)) = false := by
            match ds with
            | [] => exact eqS_no hsa
            | [b] => exact argD_no hsa
            | _ :: _ :: _ => exact lenD_ge
          rw [← e]
          exact q _ e1
        | true =>
          obtain ⟨z, rfl⟩ := str_of hsa
          have := ha.str_inv
          subst this
          have hl := hA.len
          refine iteF ⟨_, rfl, .inr (.inl ⟨p, _, 0, _, rfl, rfl, st_of hp1, atI_nat (j := 0) rfl, .inl ⟨rfl, _, rfl, ?_⟩⟩)⟩
          rw [str_dec]
          have lenE : ∀ m : Nat, decide (V.int (((V.str z :: xs).length : Nat) : Int) = V.int ((m : Nat) : Int)) = decide (ds.length + 1 = m) := fun m => by
            rw [show (V.str z :: xs).length = ds.length + 1 from by rw [List.length_cons, hl], int_eq]
          by_cases z0 : z = "last"
          · rw [decide_eq_true z0]
            refine iteT ⟨_, rfl, .inl ⟨p, _, rfl, .inr (st_of hp1), .inl ⟨rfl, ?_⟩⟩⟩
            have e : bareD (.tuple (.str z :: ds)) = decide (ds.length + 1 = 1) := by
              match ds with
              | [] => rw [z0]; rfl
              | [b] => 
                show argD (.str z) b = _
                rw [z0, arg_rest (by decide) (by decide)]
                rfl
              | _ :: _ :: _ => rw [lenD_ge]; exact (decide_eq_false (by simp)).symm
            have z1 := q _ e1
            rw [e, ← lenE 1] at z1
            exact z1
          · rw [decide_eq_false z0]
            refine iteF ⟨_, rfl, .inl ⟨p, _, rfl, .inr (st_of hp1), .inl ⟨rfl, _, rfl, ?_⟩⟩⟩
            by_cases hone : ds.length = 1
            · refine ifF (b := !decide (V.int (((V.str z :: xs).length : Nat) : Int) = V.int ((2 : Nat) : Int))) (by rw [lenE 2, decide_eq_true (by omega)]; rfl) ?_
              obtain ⟨y, b, rfl, rfl, hb⟩ := one hA hone
              have e : bareD (.tuple [.str z, b]) = argD (.str z) b := rfl
              rw [e] at q
              have okb := hok.memT (d := b) (by simp)
              refine ⟨_, rfl, .inr (.inl ⟨p, _, 0, _, rfl, rfl, st_of hp1, atI_nat (j := 0) rfl, .inl ⟨rfl, _, rfl, ?_⟩⟩)⟩
              rw [str_dec]
              by_cases z1 : z = "name"
              · rw [decide_eq_true z1]
                refine iteT ⟨_, rfl, .inr (.inl ⟨p, _, 1, _, rfl, rfl, st_of hp1, atI_nat (j := 1) rfl, ?_⟩)⟩
                refine ⟨y, b, rfl, Da.ex e1 _ hb, okb, fun H2 e2 => ?_⟩
                rw [z1, arg_name] at q
                exact q _ (e1.trans e2)
              · rw [decide_eq_false z1]
                refine iteF ⟨_, rfl, .inr (.inl ⟨p, _, 0, _, rfl, rfl, st_of hp1, atI_nat (j := 0) rfl, .inl ⟨rfl, _, rfl, ?_⟩⟩)⟩
                rw [str_dec]
                by_cases z2 : z = "at"
                · rw [decide_eq_true z2]
                  refine iteT ⟨_, rfl, .inr (.inl ⟨p, _, 1, _, rfl, rfl, st_of hp1, atI_nat (j := 1) rfl, ?_⟩)⟩
                  refine ⟨y, b, rfl, Da.ex e1 _ hb, okb, fun H2 e2 => ?_⟩
                  rw [z2, arg_at] at q
                  exact q _ (e1.trans e2)
                · rw [decide_eq_false z2]
                  refine iteF ⟨_, rfl, .inr (.inl ⟨p, _, 0, _, rfl, rfl, st_of hp1, atI_nat (j := 0) rfl, ?_⟩)⟩
                  refine ⟨by show 2 ≤ sizeLine; decide, fun t2 ht2 => ?_⟩
                  generalize hq2 : upd H1 t2 _ = H2
                  obtain ⟨e2, h2⟩ := gen1 hq2 ht2
                  refine .inl ⟨t2, _, rfl, .inr (st_of h2), rfl, rfl, _, rfl, ?_⟩
                  rw [show (inV (.str z) [.str "like", .str "all"]) = _ from like_in z]
                  rw [arg_rest z1 z2] at q
                  cases hw : (decide (z = "like") || decide (z = "all")) with
                  | false =>
                    rw [hw] at q
                    exact iteF (q _ (e1.trans e2))
                  | true =>
                    rw [hw] at q
                    refine iteT ⟨_, rfl, .inr (.inl ⟨p, _, 1, _, rfl, rfl, st_of (e2 _ _ hp1), atI_nat (j := 1) rfl, ?_⟩)⟩
                    refine ⟨y, b, rfl, Da.ex (e1.trans e2) _ hb, okb, fun H3 e3 => ?_⟩
                    exact q _ ((e1.trans e2).trans e3)
            · refine ifT (b := !decide (V.int (((V.str z :: xs).length : Nat) : Int) = V.int ((2 : Nat) : Int))) (by rw [lenE 2, decide_eq_false (by omega)]; rfl) ?_
              have e : bareD (.tuple (.str z :: ds)) = false := by
                match ds, hone with
                | [], _ => exact decide_eq_false z0
                | [b], h => exact absurd rfl h
                | _ :: _ :: _, _ => exact lenD_ge
              rw [← e]
              exact q _ e1
end
end Own

namespace Own
open PySem PySem.Spec PyProof.Rows L2 Evl
abbrev s_l_is_pick : Stmt := top 55
theorem sc_l_is_pick : FnScope ["_law_thing"] ["_law_thing"] (defScope s_l_is_pick) := ⟨rfl, rfl, rfl, by decide +kernel, rfl, by decide +kernel, by decide +kernel⟩
section
variable {P : Program} {w : World} {K : PySem.W.Frag} {mg : Str → Option Value} {base : Heap} {rel : Addr}
theorem ok_l_is_pick (T : Txt0 mg) (TI : TxtI K mg rel) (D : Df K mg "_law_is_pick" s_l_is_pick) (c_l_is_bare : CalG P w K mg base 3 "_law_is_bare" (spIs bareD)) : CalG P w K mg base 4 "_law_is_pick" (spIs pickD) := by
  refine cal_mk D sc_l_is_pick (fun _ _ _ _ _ _ us hl => match us, hl with | [_], _ => rfl) (fun vs H Q E h => ?_) (fun f cdv A outer s H vs Q E hr hG h => ?_)
  · obtain ⟨v, a, rfl, _⟩ := h
    rfl
  · obtain ⟨v, d, rfl, hv, hok, q⟩ := h
    refine ⟨_, (Evl.pss_cut (ps_if (PW.pt (pw_and (pt_val (pe_callB call_isi (by rfl) TI.isinstance (by decide +kernel) (pa_cons (pv 0) (pa_cons (pe_bltn (v := .ty "tuple") (by rfl) T.tuple (by decide +kernel) rfl) pa_nil)))) (pw_and (pt_cmpR (opEq hr) (pe_callB callLen (by rfl) T.len PySem.boot_len (pa_cons (pv 0) pa_nil)) pe_int (nomark _)) (pw_and (pt_val (pe_callB call_isi (by rfl) TI.isinstance (by decide +kernel) (pa_cons (pe_ix ixAny (pv 0) pe_int (fun _ _ => rfl)) (pa_cons (pe_bltn (v := .ty "str") (by rfl) TI.str (by decide +kernel) rfl) pa_nil)))) (pw_and1 (pt_cmpR (opEq hr) (pe_ix ixAny (pv 0) pe_int (fun _ _ => rfl)) pe_str (nomark _))))))) (pss_one (ps_ret (pe_cG c_l_is_bare hr hG (by decide) rfl (pa_cons (pe_ix ixAny (pv 0) pe_int (fun _ _ => rfl)) pa_nil)))) pss_nil)
      (pss_one (ps_ret (pe_cG c_l_is_bare hr hG (by decide) rfl (pa_cons (pv 0) pa_nil))))), ?_⟩
    refine ⟨fun σ' H' => σ' = [some v] ∧ Ex H H' ∧ bareD d = pickD d, ?_, ?_⟩
    · refine ⟨_, rfl, v, .ty "tuple", _, _, _, rfl, .ty _, hv.ty, kit_ty (kit_tuple d), _, rfl, ?_⟩
      cases hs : isTupD d with
      | false => exact iteF (iteF ⟨rfl, Ex.refl _, by rw [pickD_no hs, bareD_no hs]⟩)
      | true =>
        obtain ⟨ds, rfl⟩ := tup_of hs
        obtain ⟨p, xs, rfl, hp, hA⟩ := hv.tup_inv
        have hl := hA.len
        refine iteT ⟨_, rfl, .inl ⟨p, _, rfl, .inr (st_of hp), .inl ⟨rfl, _, rfl, ?_⟩⟩⟩
        by_cases h2 : ds.length = 2
        · obtain ⟨x, y, a, b, rfl, rfl, ha, hb⟩ := two hA h2
          refine ifT (b := decide (V.int 2 = V.int 2)) (by decide +kernel) ?_
          refine ⟨_, rfl, .inr (.inl ⟨p, _, 0, _, rfl, rfl, st_of hp, atI_nat (j := 0) rfl, ?_⟩)⟩
          refine ⟨x, .ty "str", _, _, _, rfl, .ty _, ha.ty, kit_ty (kit_str a), _, rfl, ?_⟩
          cases hsa : isStrD a with
          | false => exact iteF (iteF ⟨rfl, Ex.refl _, by show argD a b = if eqS a "book" = true then bareD b else argD a b; rw [eqS_no hsa]; rfl⟩)
          | true =>
            obtain ⟨z, rfl⟩ := str_of hsa
            have := ha.str_inv
            subst this
            refine iteT ⟨_, rfl, .inr (.inl ⟨p, _, 0, _, rfl, rfl, st_of hp, atI_nat (j := 0) rfl, ?_⟩)⟩
            refine .inl ⟨rfl, _, rfl, ?_⟩
            rw [str_dec]
            have e : pickD (.tuple [.str z, b]) = if decide (z = "book") = true then bareD b else argD (.str z) b := rfl
            cases hz : decide (z = "book") with
            | false => exact iteF ⟨rfl, Ex.refl _, by rw [e, hz]; rfl⟩
            | true =>
              refine iteT ⟨_, rfl, .inr (.inl ⟨p, _, 1, _, rfl, rfl, st_of hp, atI_nat (j := 1) rfl, ?_⟩)⟩
              refine ⟨y, b, rfl, hb, hok.memT (by simp), fun H1 e1 => ?_⟩
              rw [e, hz] at q
              exact q _ e1
        · have e0 : decide (V.int (xs.length : Int) = V.int ((2 : Nat) : Int)) = false := by rw [int_eq, decide_eq_false (by omega)]
          exact ifF (b := decide (V.int (xs.length : Int) = V.int ((2 : Nat) : Int))) e0 (iteF ⟨rfl, Ex.refl _, (pickD_len h2).symm⟩)
    · rintro σ' H1 ⟨rfl, e1, e⟩
      refine ⟨_, rfl, v, d, rfl, Da.ex e1 _ hv, hok, fun H2 e2 => ?_⟩
      rw [e]
      exact q _ (e1.trans e2)
end
abbrev s_l_is_step : Stmt := top 56
theorem sc_l_is_step : FnScope ["_law_thing", "_law_sizes", "_law_some_here", "_law_pick_here"] ["_law_thing"] (defScope s_l_is_step) := ⟨rfl, rfl, rfl, by decide +kernel, rfl, by decide +kernel, by decide +kernel⟩
theorem pick_head {H : Hp} {v : V} {d : PyData} (h : Da H v d) (k : pickD d = true) : ∃ (p : Addr) (z : Str) (xs : List V), v = .ref p ∧ H p = some (.tup (.str z :: xs)) ∧ bkD d = decide (z = "book") ∧ allF d = decide (z = "all") := by
  have g : ∀ {z : Str} {ds : List PyData}, d = .tuple (.str z :: ds) → ∃ (p : Addr) (z : Str) (xs : List V), v = .ref p ∧ H p = some (.tup (.str z :: xs)) ∧ bkD d = decide (z = "book") ∧ allF d = decide (z = "all") := by
    rintro z ds rfl
    obtain ⟨p, xs, rfl, hp, hA⟩ := h.tup_inv
    cases hA with
    | @cons x xs _ _ ha _ =>
      have := ha.str_inv
      subst this
      exact ⟨p, z, xs, rfl, hp, rfl, rfl⟩
  rcases pick_inv k with k | ⟨b, e, k⟩
  · rcases bare_inv k with e | ⟨w, b, e, _⟩
    · exact g e
    · exact g e
  · exact g e
theorem allD_F {d : PyData} (k : pickD d = true) (h : bkD d = false) : allD d = allF d := by
  rcases pick_inv k with k | ⟨b, rfl, k⟩
  · rcases bare_inv k with rfl | ⟨w, b, rfl, _⟩
    · decide +kernel
    · show (if eqS (.str w) "book" = true then allF b else eqS (.str w) "all") = eqS (.str w) "all"
      rw [if_neg (by rw [show eqS (.str w) "book" = false from h]; decide)]
  · exact absurd h (by show ¬ decide (("book" : Str) = "book") = false; decide +kernel)
def szL (z : Str) : Nat := if z ∈ KL then nPk z + (if z ∈ NL then 2 else 1) else 0
def szK : List (Key × V) := [(Sum.inr "turn", .int 2), (Sum.inr "part", .int 2), (Sum.inr "drop", .int 2), (Sum.inr "call", .int 3), (Sum.inr "copy", .int 3), (Sum.inr "chain", .int 4), (Sum.inr "close", .int 2)]
theorem sz_get (z : Str) : (valV (mergeK [] szK) (Sum.inr z)).getD (.int 0) = .int ((szL z : Nat) : Int) := by
  rw [show mergeK [] szK = szK from by rfl]
  by_cases h : z ∈ KL
  · simp only [KL, List.mem_cons, List.not_mem_nil, or_false] at h
    rcases h with rfl | rfl | rfl | rfl | rfl | rfl | rfl <;> rfl
  · have e : valV szK (Sum.inr z) = none := by
      unfold valV
      rw [List.find?_eq_none.mpr (fun kv hk => ?_)]
      · rfl
      · intro hz
        have hz := of_decide_eq_true hz
        apply h
        simp only [szK, List.mem_cons, List.not_mem_nil, or_false] at hk
        rcases hk with rfl | rfl | rfl | rfl | rfl | rfl | rfl <;> (cases hz; decide +kernel)
    rw [e]
    unfold szL
    rw [if_neg h]
    rfl
theorem stepT_len {z : Str} {ds : List PyData} (h : ds.length + 1 ≠ szL z) : stepT z ds = false := by
  unfold stepT
  unfold szL at h
  by_cases hk : z ∈ KL
  · rw [if_pos hk] at h
    by_cases hn : z ∈ NL
    · rw [if_pos hn] at h
      rw [if_pos (decide_eq_true hn), decide_eq_false (show ¬ ds.length = nPk z + 1 by omega), Bool.false_and, Bool.and_false, Bool.and_false]
    · rw [if_neg hn] at h
      rw [if_neg (by rw [decide_eq_false hn]; decide), decide_eq_false (show ¬ ds.length = nPk z by omega), Bool.and_false, Bool.and_false]
  · rw [decide_eq_false hk, Bool.false_and]
theorem stepT_pick {z : Str} {ds : List PyData} (h : (ds.take (nPk z)).all pickD = false) : stepT z ds = false := by
  have e : (ds.take (nPk z)).all (pickFor z) = false := by
    rw [List.all_eq_false] at h ⊢
    obtain ⟨x, hx, h⟩ := h
    refine ⟨x, hx, fun g => h ?_⟩
    unfold pickFor at g
    simp only [Bool.and_eq_true] at g
    exact g.1
  unfold stepT
  rw [e, Bool.false_and, Bool.and_false]
theorem stepT_nm {z : Str} {ds : List PyData} (hz : z ∈ NL) (h : nmD (ds.getD (nPk z) .none) = false) : stepT z ds = false := by
  unfold stepT
  rw [if_pos (decide_eq_true hz), h, Bool.and_false, Bool.and_false, Bool.and_false]
theorem stepT_bk {z : Str} {ds : List PyData} (hz : z ≠ "copy") (h : (ds.take (nPk z)).all (fun d => !bkD d) = false) : stepT z ds = false := by
  have e : (ds.take (nPk z)).all (pickFor z) = false := by
    rw [List.all_eq_false] at h ⊢
    obtain ⟨x, hx, h⟩ := h
    refine ⟨x, hx, fun g => h ?_⟩
    unfold pickFor at g
    rw [decide_eq_false hz, Bool.or_false] at g
    simp only [Bool.and_eq_true] at g
    exact g.2.1
  unfold stepT
  rw [e, Bool.false_and, Bool.and_false]
theorem stepT_end {z : Str} {ds : List PyData} (h1 : ds.length + 1 = szL z) (h2 : (ds.take (nPk z)).all pickD = true) (h3 : z ∈ NL → nmD (ds.getD (nPk z) .none) = true) (h4 : z ≠ "copy" → (ds.take (nPk z)).all (fun d => !bkD d) = true) :
    stepT z ds = (!decide (z ∈ OL) || (ds.take (nPk z)).all (fun d => !allF d)) := by
  have hk : z ∈ KL := by
    by_cases h : z ∈ KL
    · exact h
    · unfold szL at h1
      rw [if_neg h] at h1
      omega
  have e3 : (if decide (z ∈ NL) = true then decide (ds.length = nPk z + 1) && nmD (ds.getD (nPk z) .none) else decide (ds.length = nPk z)) = true := by
    unfold szL at h1
    rw [if_pos hk] at h1
    by_cases hn : z ∈ NL
    · rw [if_pos hn] at h1
      rw [if_pos (decide_eq_true hn), h3 hn, Bool.and_true]
      exact decide_eq_true (by omega)
    · rw [if_neg hn] at h1
      rw [if_neg (by rw [decide_eq_false hn]; decide)]
      exact decide_eq_true (by omega)
  unfold stepT
  rw [e3, Bool.and_true, decide_eq_true hk, Bool.true_and]
  rw [List.all_eq_true] at h2
  by_cases ho : z ∈ OL
  · have hc : z ≠ "copy" := fun e => by rw [e] at ho; exact absurd ho (by decide +kernel)
    have h4 := h4 hc
    rw [List.all_eq_true] at h4
    rw [decide_eq_true ho, Bool.not_true, Bool.false_or]
    have g : ∀ d ∈ ds.take (nPk z), pickFor z d = !allF d := fun d hd => by
      have hb := h4 d hd
      unfold pickFor
      rw [h2 d hd, hb, decide_eq_true ho, allD_F (h2 d hd) (by cases h : bkD d <;> simp_all), Bool.true_or, Bool.true_and, Bool.true_and, Bool.not_true, Bool.or_false]
    rw [Bool.eq_iff_iff, List.all_eq_true, List.all_eq_true]
    exact ⟨fun h d hd => by rw [← g d hd]; exact h d hd, fun h d hd => by rw [g d hd]; exact h d hd⟩
  · rw [decide_eq_false ho, Bool.not_false, Bool.true_or, List.all_eq_true]
    intro d hd
    unfold pickFor
    rw [h2 d hd, decide_eq_false ho, Bool.not_false, Bool.or_true, Bool.and_true, Bool.true_and]
    by_cases hc : z = "copy"
    · rw [decide_eq_true hc, Bool.or_true]
    · have h4 := h4 hc
      rw [List.all_eq_true] at h4
      rw [h4 d hd, Bool.true_or]
section
variable {P : Program} {w : World} {K : PySem.W.Frag} {mg : Str → Option Value} {base : Heap} {rel : Addr} {rel : Addr}
theorem ok_l_is_step (T : Txt0 mg) (TI : TxtI K mg rel) (D : Df K mg "_law_is_step" s_l_is_step) (c_l_is_pick : CalG P w K mg base 4 "_law_is_pick" (spIs pickD)) (c_l_is_name : CalG P w K mg base 1 "_law_is_name" (spIs nmD)) : CalG P w K mg base 5 "_law_is_step" (spIs stepD) := by
  refine cal_mk D sc_l_is_step (fun _ _ _ _ _ _ us hl => match us, hl with | [_], _ => rfl) (fun vs H Q E h => ?_) (fun f cdv A outer s H vs Q E hr hG h => ?_)
  · obtain ⟨v, d, rfl, _⟩ := h
    rfl
  · obtain ⟨v, d, rfl, hv, hok, q⟩ := h
    refine ⟨_, (pss_cons (ps_if (PW.pt (pw_or (pt_not (pt_val (pe_callB call_isi (by rfl) TI.isinstance (by decide +kernel) (pa_cons (pv 0) (pa_cons (pe_bltn (v := .ty "tuple") (by rfl) T.tuple (by decide +kernel) rfl) pa_nil))))) (pw_or (pt_cmpR opLt (pe_callB callLen (by rfl) T.len PySem.boot_len (pa_cons (pv 0) pa_nil)) pe_int (nomark _)) (pw_or1 (pt_not (pt_val (pe_callB call_isi (by rfl) TI.isinstance (by decide +kernel) (pa_cons (pe_ix ixAny (pv 0) pe_int (fun _ _ => rfl)) (pa_cons (pe_bltn (v := .ty "str") (by rfl) TI.str (by decide +kernel) rfl) pa_nil))))))))) (pss_one (ps_ret pe_bl)) pss_nil)
      (pss_cons (ps_set (i := 1) sc_l_is_step.nd rfl (Or.inl rfl) (pe_disp (pps_cons pe_str pe_int (pps_cons pe_str pe_int (pps_cons pe_str pe_int (pps_cons pe_str pe_int (pps_cons pe_str pe_int (pps_cons pe_str pe_int (pps_cons pe_str pe_int pps_nil))))))) (by rfl) (by rfl) (fun z => by cases z) (by decide)))
      (pss_cons (ps_if (pt_cmpR (opNe hr) (pe_callB callLen (by rfl) T.len PySem.boot_len (pa_cons (pv 0) pa_nil)) (pe_dget2 (hu_of hr) (pv 1) (pe_ix ixAny (pv 0) pe_int (fun _ _ => rfl)) pe_int ⟨rfl, rfl, rfl, rfl⟩) (nomark _)) (pss_one (ps_ret pe_bl)) pss_nil)
      (Evl.pss_cut (ps_set (i := 2) sc_l_is_step.nd rfl (Or.inl rfl) (pe_ifExp (pt_cmpR (opEq hr) (pe_ix ixAny (pv 0) pe_int (fun _ _ => rfl)) pe_str (nomark _)) (pe_slice slAny (pv 0) (po_some pe_int) (po_some pe_int)) (pe_slice slAny (pv 0) (po_some pe_int) (po_some pe_int))))
      (pss_cons (ps_if (pt_cmpR (op_ne0 hr) (pe_lcO (pe_lc (own := [("_law_pick_here", 3)]) rfl sc_l_is_step.nd (piAny (pv 2)) (blkOk_by (own := [("_law_pick_here", 3)]) (N := ["_law_thing", "_law_sizes", "_law_some_here", "_law_pick_here"]) (sc := defScope s_l_is_step) (by first | decide +kernel | kernel_rfl)) (fun _ _ _ _ _ => pg_name (i := 3) sc_l_is_step.nd rfl (Or.inl rfl)) (fun _ _ _ _ _ => pts_one (pt_not (pt_val (pe_cG c_l_is_pick hr hG (by decide) rfl (pa_cons (pv 3) pa_nil))))) (fun _ _ _ _ _ => pv 3))) (pe_lst pa_nil) (nomark _)) (pss_one (ps_ret pe_bl)) pss_nil)
      (Evl.pss_cut (ps_if (PW.pt (pw_and (pt_cmpR opIn (pe_ix ixAny (pv 0) pe_int (fun _ _ => rfl)) (pe_tup (pa_cons pe_str (pa_cons pe_str (pa_cons pe_str pa_nil)))) rfl) (pw_and1 (pt_not (pt_val (pe_cG c_l_is_name hr hG (by decide) rfl (pa_cons (pe_ix ixAny (pv 0) (pe_un un_neg pe_int) (fun _ _ => rfl)) pa_nil))))))) (pss_one (ps_ret pe_bl)) pss_nil)
      (Evl.pss_cut (ps_if (PW.pt (pw_and (pt_cmpR (opNe hr) (pe_ix ixAny (pv 0) pe_int (fun _ _ => rfl)) pe_str (nomark _)) (pw_and1 (pt_cmpR (op_ne0 hr) (pe_lcO (pe_lc (own := [("_law_pick_here", 3)]) rfl sc_l_is_step.nd (piAny (pv 2)) (blkOk_by (own := [("_law_pick_here", 3)]) (N := ["_law_thing", "_law_sizes", "_law_some_here", "_law_pick_here"]) (sc := defScope s_l_is_step) (by first | decide +kernel | kernel_rfl)) (fun _ _ _ _ _ => pg_name (i := 3) sc_l_is_step.nd rfl (Or.inl rfl)) (fun _ _ _ _ _ => pts_one (pt_cmpR (opEqB hr) (pe_ix ixAnyB (pv 3) pe_int (fun _ _ => rfl)) pe_str (nomark _))) (fun _ _ _ _ _ => pv 3))) (pe_lst pa_nil) (nomark _))))) (pss_one (ps_ret pe_bl)) pss_nil)
      (pss_one (ps_ret (pe_or (pe_cmpR opNotIn (pe_ix ixAny (pv 0) pe_int (fun _ _ => rfl)) (pe_tup (pa_cons pe_str (pa_cons pe_str pa_nil))) rfl) (pe_one (pe_cmpR (op_eq0 hr) (pe_lcO (pe_lc (own := [("_law_pick_here", 3)]) rfl sc_l_is_step.nd (piAny (pv 2)) (blkOk_by (own := [("_law_pick_here", 3)]) (N := ["_law_thing", "_law_sizes", "_law_some_here", "_law_pick_here"]) (sc := defScope s_l_is_step) (by first | decide +kernel | kernel_rfl)) (fun _ _ _ _ _ => pg_name (i := 3) sc_l_is_step.nd rfl (Or.inl rfl)) (fun _ _ _ _ _ => pts_one (pt_cmpR (opEqB hr) (pe_ix ixAnyB (pv 3) pe_int (fun _ _ => rfl)) pe_str (nomark _))) (fun _ _ _ _ _ => pv 3))) (pe_lst pa_nil) (nomark _))))))))))))), ?_⟩
    refine ⟨_, rfl, v, .ty "tuple", _, _, _, rfl, .ty _, hv.ty, kit_ty (kit_tuple d), _, rfl, ?_⟩
    cases hs : isTupD d with
    | false =>
      refine iteT ?_
      rw [← stepD_no hs]
      exact q _ (Ex.refl _)
    | true =>
      obtain ⟨ds, rfl⟩ := tup_of hs
      obtain ⟨p, xs, rfl, hp, hA⟩ := hv.tup_inv
      have hl := hA.len
      refine iteF ⟨_, rfl, .inl ⟨p, _, rfl, .inr (st_of hp), _, _, rfl, rfl, _, rfl, ?_⟩⟩
      by_cases h2 : 2 ≤ ds.length
      · refine iteFb (decide_eq_false (by omega)) ?_
        cases hA with
        | nil => exact absurd h2 (by decide)
        | @cons x xs a ds ha hA =>
        refine ⟨_, rfl, .inr (.inl ⟨p, _, 0, _, rfl, rfl, st_of hp, atI_nat (j := 0) rfl, ?_⟩)⟩
        refine ⟨x, .ty "str", _, _, _, rfl, .ty _, ha.ty, kit_ty (kit_str a), _, rfl, ?_⟩
        cases hsa : isStrD a with
        | false =>
          refine iteT ?_
          rw [stepD_str hsa] at q
          exact q _ (Ex.refl _)
        | true =>
          obtain ⟨z, rfl⟩ := str_of hsa
          have := ha.str_inv
          subst this
          have hl := hA.len
          have q : ∀ H', Ex H H' → Q (.bl (stepT z ds)) H' := q
          have np1 := (nPk_le z).1
          have np2 := (nPk_le z).2
          have okd : ∀ d ∈ ds, okD 40 16000000 d := fun d hd => hok.memT (List.mem_cons_of_mem _ hd)
          refine iteF ?_
          intro t0 ht0
          refine ⟨upd_same, szK, rfl, by decide, ?_⟩
          have e1 := Ex.mut (o := .dK (mergeK [] szK)) (Ex.new (o := .dK []) ht0) ht0
          generalize hq1 : upd (upd H t0 _) t0 _ = H1 at e1 ⊢
          have h1 : H1 t0 = some (.dK (mergeK [] szK)) := by rw [← hq1]; exact upd_same
          have hp1 := e1 _ _ hp
          refine ⟨_, rfl, .inl ⟨p, _, rfl, .inr (st_of hp1), ?_⟩⟩
          refine ⟨_, rfl, t0, rfl, .inl ⟨_, .inl h1⟩, _, rfl, .inr (.inl ⟨p, _, 0, _, rfl, rfl, st_of hp1, atI_nat (j := 0) rfl, _, DGet.k (k := Sum.inr z) h1, ?_⟩)⟩
          dsimp only
          rw [sz_get]
          refine .inl ⟨rfl, _, rfl, ?_⟩
          have lenE : decide (V.int (((V.str z :: xs).length : Nat) : Int) = V.int ((szL z : Nat) : Int)) = decide (ds.length + 1 = szL z) := by
            rw [show (V.str z :: xs).length = ds.length + 1 from by rw [List.length_cons, hl], int_eq]
          by_cases hz : ds.length + 1 = szL z
          · refine ifF (b := !decide (V.int (((V.str z :: xs).length : Nat) : Int) = V.int ((szL z : Nat) : Int))) (by rw [lenE, decide_eq_true hz]; rfl) ?_
            refine ⟨fun σ' H' => ∃ t, σ' = [some (.ref p), some (.ref t0), some (.ref t), none] ∧ Ex H1 H' ∧ H' t = some (.tup (xs.take (nPk z))), ?_, ?_⟩
            · refine ⟨_, rfl, .inr (.inl ⟨p, _, 0, _, rfl, rfl, st_of hp1, atI_nat (j := 0) rfl, .inl ⟨rfl, _, rfl, ?_⟩⟩)⟩
              rw [str_dec]
              by_cases hc : z = "chain"
              · have np : nPk z = 2 := if_pos hc
                rw [decide_eq_true hc]
                refine iteT ⟨_, rfl, 1, rfl, 3, rfl, sl_midG (j := 1) (k := 2) hp1 (by decide) (by show 1 ≤ xs.length + 1; omega) fun t H2 e2 h2 => ⟨t, rfl, e2, ?_⟩⟩
                rw [np]
                exact h2
              · have np : nPk z = 1 := if_neg hc
                rw [decide_eq_false hc]
                refine iteF ⟨_, rfl, 1, rfl, 2, rfl, sl_midG (j := 1) (k := 1) hp1 (by decide) (by show 1 ≤ xs.length + 1; omega) fun t H2 e2 h2 => ⟨t, rfl, e2, ?_⟩⟩
                rw [np]
                exact h2
            · rintro σ' H2 ⟨t, rfl, e2, h2⟩
              have e12 := e1.trans e2
              have hA2 : DaAll H2 (xs.take (nPk z)) (ds.take (nPk z)) := (DaAll.ex e12 _ hA).take _
              have ll : (xs.take (nPk z)).length = (ds.take (nPk z)).length := by rw [List.length_take, List.length_take, hl]
              refine .inr (.inl ⟨_, rfl, t, rfl, ⟨_, st_of h2⟩, ?_⟩)
              refine lcG (walk_tup (xs := xs.take (nPk z))) (by rw [List.length_take]; omega) (st_of h2) (fun _ _ e h => ex_t e h) yAt_ex (fun i ys _ => ys.isEmpty = ((ds.take (nPk z)).take i).all pickD) (fun _ _ _ _ _ h => h) rfl ?_ ?_
              · rintro i x H3 H4 ys hi e3 ⟨rfl, hx⟩ hy N N0 kN kN0
                obtain ⟨d, hd1, hd2⟩ := (DaAll.ex e3 _ hA2).at hx
                have step : ((ds.take (nPk z)).take (i + 1)).all pickD = (((ds.take (nPk z)).take i).all pickD && pickD d) := by
                  rw [tk hd1, List.all_append]
                  show (_ && (_ && true)) = _
                  rw [Bool.and_true]
                refine ⟨rfl, _, rfl, x, d, rfl, hd2, okd d (List.mem_of_mem_take (List.mem_of_getElem? hd1)), fun H5 e5 => ⟨_, rfl, ?_⟩⟩
                cases hk : pickD d with
                | true =>
                  refine iteF (kN0 _ e5 ?_)
                  rw [step, hk, Bool.and_true]
                  exact hy
                | false =>
                  refine iteT ⟨_, rfl, kN _ _ e5 ?_⟩
                  rw [step, hk, Bool.and_false, emp_snoc]
              · rintro l3 H3 ys hl3 e3 h3 _ hy
                rw [ll, List.take_length] at hy
                refine ⟨by show 0 ≤ sizeLine; decide, fun n4 hn4 => ?_⟩
                generalize hq4 : upd H3 n4 _ = H4
                obtain ⟨e4, h4⟩ := gen1 hq4 hn4
                refine ⟨l3, n4, ys, rfl, rfl, sq_of (e4 _ _ h3), sq_of h4, _, rfl, ?_⟩
                have e14 := e12.trans (e3.trans e4)
                have e24 := e3.trans e4
                rw [hy]
                cases hpk : (ds.take (nPk z)).all pickD with
                | false =>
                  refine iteT ?_
                  rw [← stepT_pick hpk]
                  exact q _ e14
                | true =>
                  refine iteF ?_
                  refine ⟨fun σ' H' => σ' = [some (.ref p), some (.ref t0), some (.ref t), none] ∧ Ex H4 H' ∧ (z ∈ NL → nmD (ds.getD (nPk z) .none) = true), ?_, ?_⟩
                  · have hp4 := e14 _ _ hp
                    refine ⟨_, rfl, .inr (.inl ⟨p, _, 0, _, rfl, rfl, st_of hp4, atI_nat (j := 0) rfl, ?_⟩)⟩
                    refine ⟨by show 3 ≤ sizeLine; decide, fun t5 ht5 => ?_⟩
                    generalize hq5 : upd H4 t5 _ = H5
                    obtain ⟨e5, h5⟩ := gen1 hq5 ht5
                    refine .inl ⟨t5, _, rfl, .inr (st_of h5), rfl, rfl, _, rfl, ?_⟩
                    rw [show inV (.str z) [V.str "call", V.str "copy", V.str "chain"] = decide (z ∈ NL) from in_strs z NL]
                    by_cases hn : z ∈ NL
                    · rw [decide_eq_true hn]
                      have hat : ds[nPk z]? = some (ds.getD (nPk z) .none) := by
                        have hh : nPk z < ds.length := by
                          unfold szL at hz
                          rw [if_pos hn] at hz
                          split at hz <;> omega
                        rw [List.getElem?_eq_getElem hh, List.getD_eq_getElem?_getD, List.getElem?_eq_getElem hh]
                        rfl
                      obtain ⟨y, hy1, hy2⟩ := (DaAll.ex (e14.trans e5) _ hA).at2 hat
                      have hlast : atI (V.str z :: xs) (-1) = some y := by
                        have hlen : xs.length = nPk z + 1 := by
                          have hk : z ∈ KL := by
                            by_cases h : z ∈ KL
                            · exact h
                            · unfold szL at hz
                              rw [if_neg h] at hz
                              omega
                          unfold szL at hz
                          rw [if_pos hk, if_pos hn] at hz
                          omega
                        have e1 : xs = xs.take (nPk z) ++ [y] := by
                          rw [← tk hy1, List.take_of_length_le (by omega)]
                        rw [e1, show V.str z :: (xs.take (nPk z) ++ [y]) = (V.str z :: xs.take (nPk z)) ++ [y] from rfl]
                        exact atI_last _ _
                      refine iteT ⟨_, rfl, 1, rfl, .inr (.inl ⟨p, _, -1, _, rfl, rfl, st_of (e5 _ _ hp4), hlast, ?_⟩)⟩
                      refine ⟨y, _, rfl, hy2, okd _ (List.mem_of_getElem? hat), fun H6 e6 => ⟨_, rfl, ?_⟩⟩
                      cases hm : nmD (ds.getD (nPk z) .none) with
                      | true => exact iteF ⟨rfl, e5.trans e6, fun _ => rfl⟩
                      | false =>
                        refine iteT ?_
                        rw [← stepT_nm hn hm]
                        exact q _ ((e14.trans e5).trans e6)
                    · rw [decide_eq_false hn]
                      exact iteF ⟨rfl, e5, fun h => absurd h hn⟩
                  · rintro σ' H5 ⟨rfl, e5, hnm⟩
                    have e15 := e14.trans e5
                    refine ⟨fun σ' H' => σ' = [some (.ref p), some (.ref t0), some (.ref t), none] ∧ Ex H5 H' ∧ (z ≠ "copy" → (ds.take (nPk z)).all (fun d => !bkD d) = true), ?_, ?_⟩
                    · have hp5 := e15 _ _ hp
                      refine ⟨_, rfl, .inr (.inl ⟨p, _, 0, _, rfl, rfl, st_of hp5, atI_nat (j := 0) rfl, .inl ⟨rfl, _, rfl, ?_⟩⟩)⟩
                      rw [str_dec]
                      by_cases hc : z = "copy"
                      · rw [decide_eq_true hc]
                        exact iteF ⟨rfl, Ex.refl _, fun h => absurd hc h⟩
                      · rw [decide_eq_false hc]
                        refine iteT ?_
                        have h25 := (e24.trans e5) _ _ h2
                        refine .inr (.inl ⟨_, rfl, t, rfl, ⟨_, st_of h25⟩, ?_⟩)
                        refine lcG (walk_tup (xs := xs.take (nPk z))) (by rw [List.length_take]; omega) (st_of h25) (fun _ _ e h => ex_t e h) yAt_ex (fun i ys _ => ys.isEmpty = ((ds.take (nPk z)).take i).all (fun d => !bkD d)) (fun _ _ _ _ _ h => h) rfl ?_ ?_
                        · rintro i x H6 H7 ys hi e6 ⟨rfl, hx⟩ hy N N0 kN kN0
                          obtain ⟨d, hd1, hd2⟩ := (DaAll.ex ((e24.trans e5).trans e6) _ hA2).at hx
                          have step : ((ds.take (nPk z)).take (i + 1)).all (fun d => !bkD d) = (((ds.take (nPk z)).take i).all (fun d => !bkD d) && !bkD d) := by
                            rw [tk hd1, List.all_append]
                            show (_ && (_ && true)) = _
                            rw [Bool.and_true]
                          obtain ⟨p9, z9, xs9, rfl, hp9, hb9, ha9⟩ := pick_head hd2 (List.all_eq_true.mp hpk d (List.mem_of_getElem? hd1))
                          refine ⟨rfl, _, rfl, .inr (.inl ⟨p9, _, 0, _, rfl, rfl, st_of hp9, atI_nat (j := 0) rfl, .inl ⟨rfl, _, rfl, ?_⟩⟩)⟩
                          rw [str_dec, ← hb9]
                          cases hk : bkD d with
                          | false =>
                            refine iteF (kN0 _ (Ex.refl _) ?_)
                            rw [step, hk, Bool.not_false, Bool.and_true]
                            exact hy
                          | true =>
                            refine iteT ⟨_, rfl, kN _ _ (Ex.refl _) ?_⟩
                            rw [step, hk, Bool.not_true, Bool.and_false, emp_snoc]
                        · rintro l6 H6 ys6 hl6 e6 h6 _ hy6
                          rw [ll, List.take_length] at hy6
                          refine ⟨by show 0 ≤ sizeLine; decide, fun n7 hn7 => ?_⟩
                          generalize hq7 : upd H6 n7 _ = H7
                          obtain ⟨e7, h7⟩ := gen1 hq7 hn7
                          refine ⟨l6, n7, ys6, rfl, rfl, sq_of (e7 _ _ h6), sq_of h7, _, rfl, ?_⟩
                          rw [hy6]
                          cases hb : (ds.take (nPk z)).all (fun d => !bkD d) with
                          | false =>
                            refine iteT ?_
                            rw [← stepT_bk hc hb]
                            exact q _ ((e15.trans e6).trans e7)
                          | true => exact iteF ⟨rfl, e6.trans e7, fun _ => rfl⟩
                    · rintro σ' H6 ⟨rfl, e6, hbk⟩
                      have e16 := e15.trans e6
                      have hp6 := e16 _ _ hp
                      rw [stepT_end hz hpk hnm hbk] at q
                      refine ⟨_, rfl, .inr (.inl ⟨p, _, 0, _, rfl, rfl, st_of hp6, atI_nat (j := 0) rfl, ?_⟩)⟩
                      refine ⟨by show 2 ≤ sizeLine; decide, fun t7 ht7 => ?_⟩
                      generalize hq7 : upd H6 t7 _ = H7
                      obtain ⟨e7, h7⟩ := gen1 hq7 ht7
                      refine .inl ⟨t7, _, rfl, .inr (st_of h7), rfl, rfl, _, rfl, ?_⟩
                      rw [show inV (.str z) [V.str "chain", V.str "close"] = decide (z ∈ OL) from in_strs z OL]
                      cases ho : decide (z ∈ OL) with
                      | false =>
                        rw [ho] at q
                        exact iteT (q _ (e16.trans e7))
                      | true =>
                        rw [ho] at q
                        refine iteF ?_
                        have h27 := (((e24.trans e5).trans e6).trans e7) _ _ h2
                        refine .inr (.inl ⟨_, rfl, t, rfl, ⟨_, st_of h27⟩, ?_⟩)
                        refine lcG (walk_tup (xs := xs.take (nPk z))) (by rw [List.length_take]; omega) (st_of h27) (fun _ _ e h => ex_t e h) yAt_ex (fun i ys _ => ys.isEmpty = ((ds.take (nPk z)).take i).all (fun d => !allF d)) (fun _ _ _ _ _ h => h) rfl ?_ ?_
                        · rintro i x H8 H9 ys hi e8 ⟨rfl, hx⟩ hy N N0 kN kN0
                          obtain ⟨d, hd1, hd2⟩ := (DaAll.ex ((((e24.trans e5).trans e6).trans e7).trans e8) _ hA2).at hx
                          have step : ((ds.take (nPk z)).take (i + 1)).all (fun d => !allF d) = (((ds.take (nPk z)).take i).all (fun d => !allF d) && !allF d) := by
                            rw [tk hd1, List.all_append]
                            show (_ && (_ && true)) = _
                            rw [Bool.and_true]
                          obtain ⟨p9, z9, xs9, rfl, hp9, hb9, ha9⟩ := pick_head hd2 (List.all_eq_true.mp hpk d (List.mem_of_getElem? hd1))
                          refine ⟨rfl, _, rfl, .inr (.inl ⟨p9, _, 0, _, rfl, rfl, st_of hp9, atI_nat (j := 0) rfl, .inl ⟨rfl, _, rfl, ?_⟩⟩)⟩
                          rw [str_dec, ← ha9]
                          cases hk : allF d with
                          | false =>
                            refine iteF (kN0 _ (Ex.refl _) ?_)
                            rw [step, hk, Bool.not_false, Bool.and_true]
                            exact hy
                          | true =>
                            refine iteT ⟨_, rfl, kN _ _ (Ex.refl _) ?_⟩
                            rw [step, hk, Bool.not_true, Bool.and_false, emp_snoc]
                        · rintro l8 H8 ys8 hl8 e8 h8 _ hy8
                          rw [ll, List.take_length] at hy8
                          refine ⟨by show 0 ≤ sizeLine; decide, fun n9 hn9 => ?_⟩
                          generalize hq9 : upd H8 n9 _ = H9
                          obtain ⟨e9, h9⟩ := gen1 hq9 hn9
                          refine ⟨l8, n9, ys8, rfl, rfl, sq_of (e9 _ _ h8), sq_of h9, ?_⟩
                          rw [hy8]
                          exact q _ (((e16.trans e7).trans e8).trans e9)
          · refine ifT (b := !decide (V.int (((V.str z :: xs).length : Nat) : Int) = V.int ((szL z : Nat) : Int))) (by rw [lenE, decide_eq_false hz]; rfl) ?_
            rw [← stepT_len hz]
            exact q _ e1
      · refine iteTb (decide_eq_true (by omega)) ?_
        have e : stepD (.tuple ds) = false := by
          match ds with
          | [] => rfl
          | [a] => 
            show stepD (.tuple [a]) = false
            cases hsa : isStrD a with
            | false => exact stepD_str hsa
            | true =>
              obtain ⟨z, rfl⟩ := str_of hsa
              refine stepT_len (z := z) (ds := []) (fun h => ?_)
              have := (nPk_le z).1
              unfold szL at h
              split at h <;> simp at h <;> (try split at h) <;> omega
          | _ :: _ :: _ => exact absurd (by simp) h2
        rw [← e]
        exact q _ (Ex.refl _)
end
end Own

namespace Own
open PySem PySem.Spec PyProof.Rows L2 Evl
abbrev s_l_pick : Stmt := top 47
theorem sc_l_pick : FnScope ["_law_bag_here", "_law_world_here", "_law_many", "_law_is_lone", "_law_manner"] ["_law_bag_here", "_law_world_here", "_law_many", "_law_is_lone"] (defScope s_l_pick) := ⟨rfl, rfl, rfl, by decide +kernel, rfl, by decide +kernel, by decide +kernel⟩
abbrev s_l_step : Stmt := top 48
theorem sc_l_step : FnScope ["_law_bag_here", "_law_world_here", "_law_many", "_law_far", "_law_word", "_law_pick_here", "_law_name"] ["_law_bag_here", "_law_world_here", "_law_many", "_law_far"] (defScope s_l_step) := ⟨rfl, rfl, rfl, by decide +kernel, rfl, by decide +kernel, by decide +kernel⟩
abbrev s_l_step_any : Stmt := top 59
theorem sc_l_step_any : FnScope ["_law_bag_here", "_law_world_here", "_law_start"] ["_law_bag_here", "_law_world_here", "_law_start"] (defScope s_l_step_any) := ⟨rfl, rfl, rfl, by decide +kernel, rfl, by decide +kernel, by decide +kernel⟩
theorem ite_on {b : Bool} {p q : Prop} (h : b = true) (x : p) : if b = true then p else q := by
  rw [h]
  exact iteT x
theorem ite_off {b : Bool} {p q : Prop} (h : b = false) (x : q) : if b = true then p else q := by
  rw [h]
  exact iteF x
theorem int_dec (a b : Int) : decide (V.int a = V.int b) = decide (a = b) := by
  by_cases h : a = b
  · rw [h]
    simp
  · rw [decide_eq_false h, decide_eq_false (fun e => h (V.int.inj e))]
theorem three_w {r : Int} (h0 : 2 ≤ r) (h1 : r < 5) : ∃ z : Str, (z = "like" ∨ z = "all") ∧ atI [V.str "like", V.str "like", V.str "all"] (r - 2) = some (.str z) := by
  have q : r = 2 ∨ r = 3 ∨ r = 4 := by omega
  rcases q with rfl | rfl | rfl
  · exact ⟨_, .inl rfl, rfl⟩
  · exact ⟨_, .inl rfl, rfl⟩
  · exact ⟨_, .inr rfl, rfl⟩
theorem str3_da {H : Hp} {v : V} {a : A3} (h : AtomAt H v a) : Da H v (atD a) := by
  obtain ⟨p, rfl, h2⟩ := h
  exact .tup h2 (.cons (.str _) (.cons (.str _) (.cons (.str _) .nil)))
theorem okD_int {r : Int} (h0 : 0 ≤ r) (h1 : r ≤ 1000) : okD 0 1921 (.int r) := by
  refine ⟨decide_eq_true ?_, Nat.le_refl _, Nat.le_refl _⟩
  exact Nat.lt_of_le_of_lt (Nat.log2_le_self _) (by omega)
theorem okD_word {z : Str} (h : z = "name" ∨ z = "at" ∨ z = "last" ∨ z = "like" ∨ z = "all" ∨ z = "book") : okD 0 85 (.str z) := by
  have q : lay z = true ∧ z.length ≤ 8 := by
    rcases h with rfl | rfl | rfl | rfl | rfl | rfl <;> exact ⟨by decide +kernel, by decide +kernel⟩
  exact okD_str (L := 8) q.1 q.2
theorem okD_two {a b : PyData} {n W : Nat} (ha : okD 0 85 a) (hb : okD n W b) (hW : 85 ≤ W) : okD (n + 1) (2 * (W + 2) + 3) (.tuple [a, b]) := by
  refine okD_tup (fun d hd => ?_) (Nat.le_refl _)
  simp only [List.mem_cons, List.not_mem_nil, or_false] at hd
  rcases hd with rfl | rfl
  · exact ha.mono (Nat.zero_le _) hW
  · exact hb
theorem pat_of {ns : List Str} (hnm : ∀ z ∈ ns, isNm z = true) {a : A3} (h0 : isR a.1 = true) (h1 : a.2.1 = "" ∨ a.2.1 ∈ ns) (h2 : a.2.2 = "" ∨ a.2.2 ∈ ns) : patD (atD a) = true := by
  have g : ∀ z : Str, (z = "" ∨ z ∈ ns) → partD (.str z) = true := fun z hz => by
    show (decide (z = "") || isNm z) = true
    rcases hz with rfl | hz
    · rfl
    · rw [hnm z hz, Bool.or_true]
  show ((decide (a.1 = "") || isR3 a.1) && (partD (.str a.2.1) && partD (.str a.2.2))) = true
  rw [g _ h1, g _ h2, Bool.and_true, Bool.and_true]
  unfold isR at h0
  unfold isR3
  simp only [Bool.or_eq_true, beq_iff_eq, decide_eq_true_eq] at h0 ⊢
  rcases h0 with ((h | h) | h) | h <;> simp [h]
theorem bare_pat {z : Str} {d : PyData} (hz : z = "like" ∨ z = "all") (h : patD d = true) : bareD (.tuple [.str z, d]) = true := by
  show argD (.str z) d = true
  rcases hz with rfl | rfl <;> (rw [arg_rest (by decide) (by decide), h]; rfl)
def pkOk (lone : Bool) (d : PyData) : Prop := bareD d = true ∧ (lone = true → allF d = false) ∧ okD 2 5000 d
section
variable {P : Program} {w : World} {K : PySem.W.Frag} {mg : Str → Option Value} {base : Heap} {rel : Addr}
def spPk30 : Sp := fun vs H Q _ => ∃ (b : Addr) (v : V) (ns ts : List Str) (m : Int) (lone : Bool), vs = [.ref b, v, .int m, .bl lone] ∧ BagAt H b ∧ WorldAt H v ns ts ∧ WOk ns ts ∧ 0 ≤ m ∧ m ≤ 100 ∧
  ∀ (H' : Hp) (p : Addr) (d : PyData), Ex H H' → Da H' (.ref p) d → pkOk lone d → Q (.ref p) H'
theorem ok_pk30 (T : Txt0 mg) (D : Df K mg "_law_pick" s_l_pick) (c_l_take : CalG P w K mg base 1 "_law_take" spTake) (c_l_some : CalG P w K mg base 2 "_law_some" (spSome K)) (c_l_pattern : CalG P w K mg base 4 "_law_pattern" spPattern) : CalG P w K mg base 5 "_law_pick" spPk30 := by
  refine cal_mk D sc_l_pick (fun _ _ _ _ _ _ us hl => match us, hl with | [_, _, _, _], _ => rfl) (fun vs H Q E h => ?_) (fun f cdv A outer s H vs Q E hr hG h => ?_)
  · obtain ⟨b, v, ns, ts, m, lone, rfl, _⟩ := h
    rfl
  · obtain ⟨b, _, ns, ts, m, lone, rfl, hb, ⟨d, pn, pt, kvs, rfl, hd, hkn, hkt, hpn, hpt⟩, hw, m0, m1, q⟩ := h
    refine ⟨_, (pss_cons (ps_set (i := 4) sc_l_pick.nd rfl (Or.inl rfl) (pe_cG c_l_take hr hG (by decide) rfl (pa_cons (pv 0) (pa_cons (pe_op op_sub pe_int (pe_callTy call_int1 (by rfl) T.int (by decide +kernel) (pa_cons (pv 3) pa_nil))) pa_nil))))
      (pss_cons (ps_if (pt_cmpR (opEq hr) (pv 4) pe_int (nomark _)) (pss_one (ps_ret (pe_tup (pa_cons pe_str (pa_cons (pe_cG c_l_some hr hG (by decide) rfl (pa_cons (pv 0) (pa_cons (pe_dget (hu_of hr) (pv 1) pe_str (fun _ _ => rfl)) pa_nil))) pa_nil))))) pss_nil)
      (pss_cons (ps_if (pt_cmpR (opEq hr) (pv 4) pe_int (nomark _)) (pss_one (ps_ret (pe_ifExp (pt_cmpR (opEq hr) (pe_cG c_l_take hr hG (by decide) rfl (pa_cons (pv 0) (pa_cons pe_int pa_nil))) pe_int (nomark _)) (pe_tup (pa_cons pe_str (pa_cons (pe_cG c_l_take hr hG (by decide) rfl (pa_cons (pv 0) (pa_cons (pe_op opAdd (pv 2) pe_int) pa_nil))) pa_nil))) (pe_tup (pa_cons pe_str pa_nil))))) pss_nil)
      (pss_one (ps_ret (pe_tup (pa_cons (pe_ix ixAny (pe_lst (pa_cons pe_str (pa_cons pe_str (pa_cons pe_str pa_nil)))) (pe_op op_sub (pv 4) pe_int) (fun _ _ => rfl)) (pa_cons (pe_cG c_l_pattern hr hG (by decide) rfl (pa_cons (pv 0) (pa_cons (pe_dget (hu_of hr) (pv 1) pe_str (fun _ _ => rfl)) pa_nil))) pa_nil)))))))), ?_⟩
    have hn3 := hw.n
    have ht2 := hw.t2
    have ht4 := hw.t4
    refine ⟨_, rfl, _, rfl, .inr ⟨lone, rfl, ?_⟩⟩
    refine ⟨_, _, rfl, rfl, ?_⟩
    refine ⟨b, _, rfl, hb, by cases lone <;> decide, by cases lone <;> decide, fun H1 r r0 r1 e1 => ?_⟩
    have r5 : r < 5 := by cases lone <;> simp at r1 <;> omega
    have r4 : lone = true → r < 4 := fun h => by rw [h] at r1; simp at r1; omega
    refine ⟨_, rfl, .inl ⟨rfl, _, rfl, ?_⟩⟩
    rw [int_dec]
    by_cases z0 : r = 0
    · rw [decide_eq_true z0]
      refine iteT ?_
      refine ⟨_, rfl, _, rfl, d, .ref pn, rfl, .inl ⟨kvs, Sum.inr "names", .inl (e1 _ _ hd), rfl, hkn.symm⟩, ?_⟩
      refine ⟨b, pn, _, rfl, hb.ex e1, .inl (sq_of (e1 _ _ hpn)), (fun e => by have z := congrArg List.length e; rw [List.length_map] at z; rw [hn3] at z; cases z), by rw [List.length_map]; omega, fun H2 i x e2 hx => ?_⟩
      obtain ⟨nm, hnm, rfl⟩ := str_at hx
      have hnn := hw.nn _ (List.mem_of_getElem? hnm)
      refine ⟨by show 2 ≤ sizeLine; decide, fun t ht => ?_⟩
      refine q _ _ (.tuple [.str "name", .str nm]) ((e1.trans e2).trans (Ex.new ht)) (.tup upd_same (.cons (.str _) (.cons (.str _) .nil))) ⟨(arg_name (b := .str nm)).trans hnn, fun _ => (by show decide (("name" : Str) = "all") = false; decide +kernel), ((okD_two (okD_word (.inl rfl)) (okD_str (L := 8) (nm_ok hnn) (nm_len hnn)) (by decide)).mono (by decide) (by decide))⟩
    · rw [decide_eq_false z0]
      refine iteF ?_
      refine ⟨_, rfl, .inl ⟨rfl, _, rfl, ?_⟩⟩
      rw [int_dec]
      by_cases z1 : r = 1
      · rw [decide_eq_true z1]
        refine iteT ?_
        refine ⟨_, rfl, b, 2, rfl, hb.ex e1, by decide, by decide, fun H2 r2 _ _ e2 => .inl ⟨rfl, _, rfl, ?_⟩⟩
        refine ite2 (fun _ => ?_) (fun _ => ?_)
        · refine ⟨_, rfl, _, rfl, .inl ⟨m, 1, rfl, rfl, ?_⟩⟩
          refine ⟨b, _, rfl, hb.ex (e1.trans e2), by omega, by omega, fun H3 r3 q0 q1 e3 => ?_⟩
          refine ⟨by show 2 ≤ sizeLine; decide, fun t ht => ?_⟩
          refine q _ _ (.tuple [.str "at", .int r3]) (((e1.trans e2).trans e3).trans (Ex.new ht)) (.tup upd_same (.cons (.str _) (.cons (.int _) .nil))) ⟨(arg_at (b := .int r3)).trans (decide_eq_true q0), fun _ => (by show decide (("at" : Str) = "all") = false; decide +kernel), ((okD_two (okD_word (.inr (.inl rfl))) (okD_int q0 (by omega)) (by decide)).mono (by decide) (by decide))⟩
        · refine ⟨by show 1 ≤ sizeLine; decide, fun t ht => ?_⟩
          refine q _ _ (.tuple [.str "last"]) ((e1.trans e2).trans (Ex.new ht)) (.tup upd_same (.cons (.str _) .nil)) ⟨by decide +kernel, fun _ => by decide +kernel, ((okD_tup (n := 0) (W := 85) (m := 1) (fun d hd => ?_) (Nat.le_refl _)).mono (by decide) (by decide))⟩
          rw [List.mem_singleton] at hd
          rw [hd]
          exact okD_word (by simp)
      · rw [decide_eq_false z1]
        refine iteF ?_
        obtain ⟨z, hz, hat⟩ := three_w (r := r) (by omega) (by omega)
        have hz2 : lone = true → z = "like" := fun h => by
          have := r4 h
          have q : r = 2 ∨ r = 3 := by omega
          rcases q with rfl | rfl <;> (cases hat; rfl)
        refine ⟨by show 3 ≤ sizeLine; decide, fun l hl => ?_⟩
        generalize hq2 : upd H1 l _ = H2
        obtain ⟨e2, h2⟩ := gen1 hq2 hl
        refine ⟨_, rfl, _, _, rfl, rfl, .inl ⟨l, _, _, _, rfl, rfl, sq_of h2, hat, ?_⟩⟩
        have e12 := e1.trans e2
        refine ⟨_, rfl, _, rfl, d, .ref pt, rfl, .inl ⟨kvs, Sum.inr "things", .inl (e12 _ _ hd), rfl, hkt.symm⟩, ?_⟩
        refine ⟨b, pt, ts, rfl, hb.ex e12, e12 _ _ hpt, (fun e => by rw [e] at ht2; exact absurd ht2 (by decide)), by omega, fun H3 va a e3 ha hR h1 h2 => ?_⟩
        refine ⟨by show 2 ≤ sizeLine; decide, fun t ht => ?_⟩
        have ga : gA a := gA_of hw.nt hR h1 h2
        refine q _ _ (.tuple [.str z, atD a]) ((e12.trans e3).trans (Ex.new ht)) (.tup upd_same (.cons (.str _) (.cons (str3_da (ha.ex (Ex.new ht))) .nil))) ⟨bare_pat hz (pat_of hw.nt hR h1 h2), fun hl => (by rw [hz2 hl]; show decide (("like" : Str) = "all") = false; decide +kernel), ((okD_two (okD_word (by rcases hz with h | h <;> simp [h])) ga.okD (by decide)).mono (by decide) (by decide))⟩
end
end Own

namespace Own
open PySem PySem.Spec PyProof.Rows L2
/-! ### a tuple once, or not at all -/
theorem tuple_mul1 (l : Addr) (items : Array Value) (n : Nat) (dd : Option Addr) (sl : Array (Option Value)) (u : Tok) :
    Meets (Builtin.«tuple.__mul__» ⟨[.ref l, .int 1 u], []⟩) (fun _ R s => s.heap.get? l = some { cls := .type "tuple", dict := dd, data := .seq items n, slots := sl } ∧ R (.ok (.ret (Value.ref l))) s) :=
  .of_wp fun prog w A R s h => by
    obtain ⟨hp, g, d, tk, os⟩ := s
    obtain ⟨hl, h⟩ := h
    have f1 := AutoSeq1.idx_int
    have c0 : (decide ((1 : Int) < -(2 ^ 63)) || decide ((1 : Int) ≥ 2 ^ 63)) = false := by decide
    have c1 : (items.isEmpty || (1 : Int) == 1) = true := by rw [show ((1 : Int) == 1) = true from rfl, Bool.or_true]
    wp_walk using wpAny_loadPart' hl
    repeat (first
      | (refine wpAny_ite_false (decide_eq_false (by rw [c0]; exact Bool.false_ne_true)) ?_; wp_walk using wpAny_loadPart' hl)
      | (refine wpAny_ite_true (decide_eq_true c1) ?_; wp_walk using wpAny_loadPart' hl))
    exact ⟨_, rfl, h⟩
theorem tuple_mul0 (l : Addr) (items : Array Value) (n : Nat) (dd : Option Addr) (sl : Array (Option Value)) (u : Tok) (hne : items.isEmpty = false) :
    Meets (Builtin.«tuple.__mul__» ⟨[.ref l, .int 0 u], []⟩) (fun _ R s => s.heap.get? l = some { cls := .type "tuple", dict := dd, data := .seq items n, slots := sl } ∧
      R (.ok (.ret (Value.ref s.heap.objs.size))) { s with heap := s.heap.push { cls := Value.type "tuple", data := Data.seq #[] }, toks := s.toks }) :=
  .of_wp fun prog w A R s h => by
    obtain ⟨hp, g, d, tk, os⟩ := s
    obtain ⟨hl, h⟩ := h
    have f1 := AutoSeq1.idx_int
    have c0 : (decide ((0 : Int) < -(2 ^ 63)) || decide ((0 : Int) ≥ 2 ^ 63)) = false := by decide
    have c1 : (items.isEmpty || (0 : Int) == 1) = false := by rw [hne]; rfl
    have c2 : (decide ((0 : Int) ≤ 0) || items.isEmpty) = true := rfl
    wp_walk using wpAny_loadPart' hl
    repeat (first
      | (refine wpAny_ite_false (decide_eq_false (by rw [c0]; exact Bool.false_ne_true)) ?_; wp_walk using wpAny_loadPart' hl)
      | (refine wpAny_ite_false (decide_eq_false (by rw [c1]; exact Bool.false_ne_true)) ?_; wp_walk using wpAny_loadPart' hl)
      | (refine wpAny_ite_true (decide_eq_true c2) ?_; wp_walk using wpAny_loadPart' hl))
    exact ⟨_, rfl, h⟩
def rRep01 (K : PySem.W.Frag) : R2 := fun x y H Q => ∃ (l : Addr) (b : Bool) (xs : List V), x = .ref l ∧ y = .int (if b = true then 1 else 0) ∧ SqT K H l xs ∧ xs ≠ [] ∧ (b = true → Q (.ref l) H) ∧ (b = false → ∀ p, H p = none → Q (.ref p) (upd H p (.tup [])))
section
variable {X : Cx}
theorem op_rep01 : OpR X (binaryOp .Mult) (rRep01 X.K) := by
  intro pins s σ H x y v u Q I rx ry h
  obtain ⟨l, b, xs, rfl, rfl, hT, hne, q1, q0⟩ := h
  cases rx
  obtain ⟨t, rfl⟩ := ry
  obtain ⟨its, r, ⟨⟨cls, dd, data, sl⟩, ho, hc, n, hd⟩, hs⟩ := I.tuple hT
  simp only at hc hd
  subst hc hd
  have hle : its.length = xs.length := r.length.symm
  have hn : its ≠ [] := fun e => hne (by
    rw [e] at hle
    exact List.eq_nil_of_length_eq_zero hle.symm)
  have hi : its.toArray.isEmpty = false := by
    cases its with
    | nil => exact absurd rfl hn
    | cons a b => rfl
  cases b with
  | true =>
    refine wpAny_binaryOp_repeat_ref (T := "tuple") (U := "int") (by decide) ⟨_, ho, rfl⟩ (fun s' => typeIs_int s' 1 t) noFill_tuple_mul F.fills_int_mul F.slot_int_rmul repeat_tuple F.slot_int_index.lookup
      (call_meets F.slot_int_rmul (typeIs_int s 1 t) F.entry_int_rmul (F.args_int_rmul_2 _ _) (int_rmul_tuple 1 t l its.toArray n dd sl)
        ⟨ho, rfl, ⟨_, ho, rfl⟩, call_meets F.slot_tuple_mul ⟨_, ho, rfl⟩ F.entry_tuple_mul (F.args_tuple_mul_2 _ _) (tuple_mul1 l its.toArray n dd sl t) ⟨ho, ?_⟩⟩)
    exact ⟨.ref l, H, I, rfl, q1 rfl⟩
  | false =>
    refine wpAny_binaryOp_repeat_ref (T := "tuple") (U := "int") (by decide) ⟨_, ho, rfl⟩ (fun s' => typeIs_int s' 0 t) noFill_tuple_mul F.fills_int_mul F.slot_int_rmul repeat_tuple F.slot_int_index.lookup
      (call_meets F.slot_int_rmul (typeIs_int s 0 t) F.entry_int_rmul (F.args_int_rmul_2 _ _) (int_rmul_tuple 0 t l its.toArray n dd sl)
        ⟨ho, rfl, ⟨_, ho, rfl⟩, call_meets F.slot_tuple_mul ⟨_, ho, rfl⟩ F.entry_tuple_mul (F.args_tuple_mul_2 _ _) (tuple_mul0 l its.toArray n dd sl t hi) ⟨ho, ?_⟩⟩)
    refine ⟨.ref s.heap.objs.size, _, I.laid (t' := s.toks) (o := .tup []) (fun b ob q => Heap.get?_push_of_some _ q) (Nat.le_refl _) ?_, rfl, q0 rfl _ (I.hok.fresh (Nat.le_refl _))⟩
    exact ⟨Nat.zero_le _, _, .nil, IsTup.new _ _⟩
def rMul01 (K : PySem.W.Frag) : R2 := fun x y H Z => rMulT K x y H Z ∨ rRep01 K x y H Z
theorem opMul01 : OpR X (binaryOp .Mult) (rMul01 X.K) := OpR.or opMulT op_rep01
end
end Own

namespace Own
open PySem PySem.Spec PyProof.Rows L2 Evl
theorem bare_pk {d : PyData} (k : bareD d = true) : pickD d = true ∧ bkD d = false := by
  rcases bare_inv k with rfl | ⟨w, b, rfl, h⟩
  · exact ⟨by decide +kernel, by decide +kernel⟩
  · have hw : w ≠ "book" := by
      rcases arg_word h with rfl | rfl | rfl | rfl <;> decide
    refine ⟨?_, decide_eq_false hw⟩
    show (if eqS (.str w) "book" = true then bareD b else argD (.str w) b) = true
    rw [if_neg (by rw [show eqS (.str w) "book" = false from decide_eq_false hw]; decide)]
    exact k
theorem st_1 {z : Str} {d : PyData} (hz : z = "turn" ∨ z = "part" ∨ z = "drop") (k : bareD d = true) : stepT z [d] = true := by
  obtain ⟨k1, k2⟩ := bare_pk k
  have g : szL z = 2 ∧ nPk z = 1 ∧ z ∉ NL ∧ z ∉ OL := by rcases hz with rfl | rfl | rfl <;> decide +kernel
  rw [stepT_end (by rw [g.1]; rfl) (by rw [g.2.1]; show (pickD d && true) = true; rw [k1]; rfl) (fun h => absurd h g.2.2.1) (fun _ => by rw [g.2.1]; show (!bkD d && true) = true; rw [k2]; rfl), decide_eq_false g.2.2.2]
  rfl
theorem st_2 {z n : Str} {d : PyData} (hz : z = "call" ∨ z = "copy") (k1 : pickD d = true) (k2 : z = "call" → bkD d = false) (hn : isNm n = true) : stepT z [d, .str n] = true := by
  have g : szL z = 3 ∧ nPk z = 1 ∧ z ∉ OL := by rcases hz with rfl | rfl <;> decide +kernel
  rw [stepT_end (by rw [g.1]; rfl) (by rw [g.2.1]; show (pickD d && true) = true; rw [k1]; rfl) (fun _ => by rw [g.2.1]; exact hn) (fun h => by rw [g.2.1]; show (!bkD d && true) = true; rw [k2 (hz.resolve_right h)]; rfl), decide_eq_false g.2.2]
  rfl
theorem st_3 {n : Str} {d e : PyData} (k1 : bareD d = true) (k2 : bareD e = true) (a1 : allF d = false) (a2 : allF e = false) (hn : isNm n = true) : stepT "chain" [d, e, .str n] = true := by
  obtain ⟨k3, k4⟩ := bare_pk k1
  obtain ⟨k5, k6⟩ := bare_pk k2
  have g : szL "chain" = 4 ∧ nPk "chain" = 2 := by decide +kernel
  rw [stepT_end (by rw [g.1]; rfl) (by rw [g.2]; show (pickD d && (pickD e && true)) = true; rw [k3, k5]; rfl) (fun _ => by rw [g.2]; exact hn) (fun _ => by rw [g.2]; show (!bkD d && (!bkD e && true)) = true; rw [k4, k6]; rfl), g.2]
  show (_ || (!allF d && (!allF e && true))) = true
  rw [a1, a2]
  exact Bool.or_true _
theorem st_4 {d : PyData} (k1 : bareD d = true) (a1 : allF d = false) : stepT "close" [d] = true := by
  obtain ⟨k3, k4⟩ := bare_pk k1
  have g : szL "close" = 2 ∧ nPk "close" = 1 := by decide +kernel
  rw [stepT_end (by rw [g.1]; rfl) (by rw [g.2]; show (pickD d && true) = true; rw [k3]; rfl) (fun h => absurd h (by decide +kernel)) (fun _ => by rw [g.2]; show (!bkD d && true) = true; rw [k4]; rfl), g.2]
  show (_ || (!allF d && true)) = true
  rw [a1]
  exact Bool.or_true _
theorem stepT_np {z : Str} {ds : List PyData} (h : stepT z ds = true) : nPk z ≤ ds.length := by
  unfold stepT at h
  simp only [Bool.and_eq_true] at h
  have h := h.2.2
  split at h
  · simp only [Bool.and_eq_true, decide_eq_true_eq] at h
    omega
  · simp only [decide_eq_true_eq] at h
    omega
theorem okD_wd {z : Str} (h : z ∈ KL) : okD 0 85 (.str z) := by
  have q : lay z = true ∧ z.length ≤ 8 := by
    simp only [KL, List.mem_cons, List.not_mem_nil, or_false] at h
    rcases h with rfl | rfl | rfl | rfl | rfl | rfl | rfl <;> decide +kernel
  exact okD_str (L := 8) q.1 q.2
theorem okD_stp {z : Str} {ds : List PyData} (hz : z ∈ KL) (h : ∀ d ∈ ds, okD 3 11000 d) (hl : ds.length ≤ 3) : okD 4 45000 (.tuple (.str z :: ds)) := by
  refine (okD_tup (n := 3) (W := 11000) (m := 4) (fun d hd => ?_) (by rw [List.length_cons]; omega)).mono (by decide) (by decide)
  rcases List.mem_cons.mp hd with rfl | hd
  · exact (okD_wd hz).mono (by decide) (by decide)
  · exact h d hd
theorem word8 {r : Int} (h0 : 0 ≤ r) (h1 : r < 8) : ∃ z : Str, atI [V.str "turn", V.str "part", V.str "drop", V.str "call", V.str "copy", V.str "chain", V.str "copy", V.str "call"] r = some (.str z) ∧ ((z = "turn" ∨ z = "part" ∨ z = "drop") ∨ (z = "call" ∨ z = "copy") ∨ z = "chain") := by
  have q : r = 0 ∨ r = 1 ∨ r = 2 ∨ r = 3 ∨ r = 4 ∨ r = 5 ∨ r = 6 ∨ r = 7 := by omega
  rcases q with rfl | rfl | rfl | rfl | rfl | rfl | rfl | rfl <;> exact ⟨_, rfl, by simp⟩
theorem okD_nm {n : Str} (h : isNm n = true) : okD 3 11000 (.str n) := (okD_str (L := 8) (nm_ok h) (nm_len h)).mono (by decide) (by decide)
section
variable {P : Program} {w : World} {K : PySem.W.Frag} {mg : Str → Option Value} {base : Heap} {rel : Addr}
def spSt30 : Sp := fun vs H Q _ => ∃ (b : Addr) (v : V) (ns ts : List Str) (m f : Int), vs = [.ref b, v, .int m, .int f] ∧ BagAt H b ∧ WorldAt H v ns ts ∧ WOk ns ts ∧ 0 ≤ m ∧ m ≤ 100 ∧ 0 ≤ f ∧ f ≤ 100 ∧
  ∀ (H' : Hp) (p : Addr) (z : Str) (ds : List PyData), Ex H H' → Da H' (.ref p) (.tuple (.str z :: ds)) → stepT z ds = true → okD 4 45000 (.tuple (.str z :: ds)) → z ≠ "close" → Q (.ref p) H'
theorem ok_st30 (T : Txt0 mg) (D : Df K mg "_law_step" s_l_step) (c_l_take : CalG P w K mg base 1 "_law_take" spTake) (c_l_some : CalG P w K mg base 2 "_law_some" (spSome K)) (c_l_pick : CalG P w K mg base 5 "_law_pick" spPk30) : CalG P w K mg base 6 "_law_step" spSt30 := by
  refine cal_mk D sc_l_step (fun _ _ _ _ _ _ us hl => match us, hl with | [_, _, _, _], _ => rfl) (fun vs H Q E h => ?_) (fun f cdv A outer s H vs Q E hr hG h => ?_)
  · obtain ⟨b, v, ns, ts, m, f, rfl, _⟩ := h
    rfl
  · obtain ⟨b, _, ns, ts, m, fa, rfl, hb, ⟨d, pn, pt, kvs, rfl, hd, hkn, hkt, hpn, hpt⟩, hw, m0, m1, f0, f1, q⟩ := h
    refine ⟨_, (pss_cons (ps_set (i := 4) sc_l_step.nd rfl (Or.inl rfl) (pe_ix ixAny (pe_lst (pa_cons pe_str (pa_cons pe_str (pa_cons pe_str (pa_cons pe_str (pa_cons pe_str (pa_cons pe_str (pa_cons pe_str (pa_cons pe_str pa_nil))))))))) (pe_cG c_l_take hr hG (by decide) rfl (pa_cons (pv 0) (pa_cons pe_int pa_nil))) (fun _ _ => rfl)))
      (pss_cons (ps_par (i := 5) (j := 6) rfl sc_l_step.nd rfl rfl (by decide) rfl rfl (pa_cons (pe_cG c_l_pick hr hG (by decide) rfl (pa_cons (pv 0) (pa_cons (pv 1) (pa_cons (pv 2) (pa_cons (pe_cmpR (opEq hr) (pv 4) pe_str (nomark _)) pa_nil))))) (pa_cons (pe_cG c_l_some hr hG (by decide) rfl (pa_cons (pv 0) (pa_cons (pe_dget (hu_of hr) (pv 1) pe_str (fun _ _ => rfl)) pa_nil))) pa_nil)) (by first | rfl | with_unfolding_all rfl | kernel_rfl))
      (pss_cons (ps_if (pt_cmpR (opEq hr) (pv 4) pe_str (nomark _)) (pss_one (ps_ret (pe_tup (pa_cons (pv 4) (pa_cons (pv 5) (pa_cons (pe_cG c_l_pick hr hG (by decide) rfl (pa_cons (pv 0) (pa_cons (pv 1) (pa_cons (pv 2) (pa_cons pe_bl pa_nil))))) (pa_cons (pv 6) pa_nil))))))) pss_nil)
      (Evl.pss_cut (ps_if (PW.pt (pw_and (pt_cmpR (opEq hr) (pv 4) pe_str (nomark _)) (pw_and (pt_cmpR opGt (pv 3) pe_int (nomark _)) (pw_and1 (pt_cmpR (opEq hr) (pe_cG c_l_take hr hG (by decide) rfl (pa_cons (pv 0) (pa_cons pe_int pa_nil))) pe_int (nomark _)))))) (pss_one (ps_set (i := 5) sc_l_step.nd rfl (Or.inl rfl) (pe_tup (pa_cons pe_str (pa_cons (pe_cG c_l_pick hr hG (by decide) rfl (pa_cons (pv 0) (pa_cons (pv 1) (pa_cons (pv 3) (pa_cons pe_bl pa_nil))))) pa_nil))))) pss_nil)
      (pss_one (ps_ret (pe_op opAdd (pe_tup (pa_cons (pv 4) (pa_cons (pv 5) pa_nil))) (pe_op opMul01 (pe_tup (pa_cons (pv 6) pa_nil)) (pe_callTy call_int1 (by rfl) T.int (by decide +kernel) (pa_cons (pe_cmpR opIn (pv 4) (pe_tup (pa_cons pe_str (pa_cons pe_str pa_nil))) rfl) pa_nil)))))))))), ?_⟩
    refine ⟨by show 8 ≤ sizeLine; decide, fun l hl => ?_⟩
    generalize hq1 : upd H l _ = H1
    obtain ⟨e1, h1⟩ := gen1 hq1 hl
    refine ⟨_, rfl, b, 8, rfl, hb.ex e1, by decide, by decide, fun H2 r r0 r1 e2 => ?_⟩
    obtain ⟨z, hat, hz⟩ := word8 r0 r1
    refine .inl ⟨l, _, _, _, rfl, rfl, sq_of (e2 _ _ h1), hat, ?_⟩
    have e12 := e1.trans e2
    have hwd : ∀ H', Ex H H' → WorldAt H' (.ref d) ns ts := fun H' e => ⟨d, pn, pt, kvs, rfl, e _ _ hd, hkn, hkt, e _ _ hpn, e _ _ hpt⟩
    refine ⟨_, rfl, _, rfl, _, rfl, _, rfl, .inl ⟨rfl, ?_⟩⟩
    rw [str_dec]
    refine ⟨b, _, ns, ts, m, _, rfl, hb.ex e12, hwd _ e12, hw, m0, m1, fun H3 p3 d3 e3 hd3 hk3 => ?_⟩
    have e13 := e12.trans e3
    have hn3 := hw.n
    refine ⟨_, rfl, _, rfl, d, .ref pn, rfl, .inl ⟨kvs, Sum.inr "names", .inl (e13 _ _ hd), rfl, hkn.symm⟩, ?_⟩
    refine ⟨b, pn, _, rfl, hb.ex e13, .inl (sq_of (e13 _ _ hpn)), (fun e => by have z := congrArg List.length e; rw [List.length_map] at z; rw [hn3] at z; cases z), by rw [List.length_map]; omega, fun H4 i4 x4 e4 hx4 => ?_⟩
    obtain ⟨nm, hnm, rfl⟩ := str_at hx4
    have hnn := hw.nn _ (List.mem_of_getElem? hnm)
    have e14 := e13.trans e4
    have hd4 := Da.ex e4 _ hd3
    obtain ⟨kb, ka, kok⟩ := hk3
    have okb : okD 3 11000 d3 := kok.mono (by decide) (by decide)
    refine ⟨_, _, rfl, _, rfl, .inl ⟨rfl, _, rfl, ?_⟩⟩
    rw [str_dec]
    by_cases hc : z = "chain"
    · rw [decide_eq_true hc] at ka ⊢
      refine iteT ⟨_, rfl, ?_⟩
      refine ⟨_, rfl, ?_⟩
      refine ⟨_, rfl, ?_⟩
      refine ⟨_, rfl, ?_⟩
      refine ⟨_, rfl, ?_⟩
      refine ⟨b, _, ns, ts, m, true, rfl, hb.ex e14, hwd _ e14, hw, m0, m1, fun H5 p5 d5 e5 hd5 hk5 => ?_⟩
      obtain ⟨kb5, ka5, kok5⟩ := hk5
      refine ⟨_, rfl, by show 4 ≤ sizeLine; decide, fun t6 n6 => ?_⟩
      generalize hq6 : upd H5 t6 _ = H6
      obtain ⟨e6, h6⟩ := gen1 hq6 n6
      subst hc
      refine q _ t6 "chain" [d3, d5, .str nm] ((e14.trans e5).trans e6) (.tup h6 (.cons (.str _) (.cons (Da.ex (e5.trans e6) _ hd4) (.cons (Da.ex e6 _ hd5) (.cons (.str _) .nil))))) (st_3 kb kb5 (ka rfl) (ka5 rfl) hnn) (okD_stp (by decide) (fun d hd => ?_) (Nat.le_refl _)) (by decide)
      simp only [List.mem_cons, List.not_mem_nil, or_false] at hd
      rcases hd with rfl | rfl | rfl
      · exact okb
      · exact kok5.mono (by decide) (by decide)
      · exact okD_nm hnn
    · rw [decide_eq_false hc]
      refine iteF ?_
      refine ⟨fun σ' H' => ∃ (p5 : Addr) (d5 : PyData), σ' = [some (.ref b), some (.ref d), some (.int m), some (.int fa), some (.str z), some (.ref p5), some (.str nm)] ∧ Ex H4 H' ∧ Da H' (.ref p5) d5 ∧ pickD d5 = true ∧ (z ≠ "copy" → bareD d5 = true) ∧ okD 3 11000 d5, ?_, ?_⟩
      · have base : ∃ (p5 : Addr) (d5 : PyData), [some (V.ref b), some (.ref d), some (.int m), some (.int fa), some (.str z), some (.ref p3), some (.str nm)] = [some (V.ref b), some (.ref d), some (.int m), some (.int fa), some (.str z), some (.ref p5), some (.str nm)] ∧ Ex H4 H4 ∧ Da H4 (.ref p5) d5 ∧ pickD d5 = true ∧ (z ≠ "copy" → bareD d5 = true) ∧ okD 3 11000 d5 := ⟨p3, d3, rfl, Ex.refl _, hd4, (bare_pk kb).1, fun _ => kb, okb⟩
        refine ⟨_, rfl, .inl ⟨rfl, _, rfl, ?_⟩⟩
        rw [str_dec]
        by_cases hcp : z = "copy"
        · rw [decide_eq_true hcp]
          refine iteT ⟨_, rfl, fa, 0, rfl, rfl, _, rfl, ?_⟩
          refine ite2 (fun hf => ?_) (fun _ => base)
          refine ⟨_, rfl, b, 2, rfl, hb.ex e14, by decide, by decide, fun H5 r5 _ _ e5 => .inl ⟨rfl, _, rfl, ?_⟩⟩
          refine ite2 (fun _ => ?_) (fun _ => ?_)
          · refine ⟨_, rfl, _, rfl, _, rfl, b, _, ns, ts, fa, false, rfl, hb.ex (e14.trans e5), hwd _ (e14.trans e5), hw, f0, f1, fun H6 p6 d6 e6 hd6 hk6 => ?_⟩
            obtain ⟨kb6, ka6, kok6⟩ := hk6
            refine ⟨by show 2 ≤ sizeLine; decide, fun t7 n7 => ?_⟩
            generalize hq7 : upd H6 t7 _ = H7
            obtain ⟨e7, h7⟩ := gen1 hq7 n7
            exact ⟨t7, .tuple [.str "book", d6], rfl, (e5.trans e6).trans e7, .tup h7 (.cons (.str _) (.cons (Da.ex e7 _ hd6) .nil)), kb6, fun h => absurd hcp h, (okD_two (okD_word (by simp)) kok6 (by decide)).mono (by decide) (by decide)⟩
          · exact ⟨p3, d3, rfl, e5, Da.ex e5 _ hd4, (bare_pk kb).1, fun _ => kb, okb⟩
        · rw [decide_eq_false hcp]
          exact iteF base
      · rintro σ' H5 ⟨p5, d5, rfl, e5, hd5, k5, kb5, kok5⟩
        have e15 := e14.trans e5
        refine ⟨_, rfl, _, rfl, by show 2 ≤ sizeLine; decide, fun t6 n6 => ?_⟩
        generalize hq6 : upd H5 t6 _ = H6
        obtain ⟨e6, h6⟩ := gen1 hq6 n6
        refine ⟨_, rfl, by show 1 ≤ sizeLine; decide, fun t7 n7 => ?_⟩
        generalize hq7 : upd H6 t7 _ = H7
        obtain ⟨e7, h7⟩ := gen1 hq7 n7
        refine ⟨_, rfl, by show 2 ≤ sizeLine; decide, fun t8 n8 => ?_⟩
        generalize hq8 : upd H7 t8 _ = H8
        obtain ⟨e8, h8⟩ := gen1 hq8 n8
        refine .inl ⟨t8, _, rfl, .inr (st_of h8), rfl, rfl, ?_⟩
        rw [show inV (.str z) [V.str "call", V.str "copy"] = decide (z ∈ (["call", "copy"] : List Str)) from in_strs z ["call", "copy"]]
        refine .inr ⟨_, rfl, .inr ⟨t7, decide (z ∈ (["call", "copy"] : List Str)), _, rfl, rfl, st_of (e8 _ _ h7), by simp, fun hw2 => ?_, fun hw2 p9 n9 => ?_⟩⟩
        · have hz2 : z = "call" ∨ z = "copy" := by simpa using hw2
          have e68 := e7.trans e8
          refine cat_G (e68 _ _ h6) (e8 _ _ h7) (by show 3 ≤ 1000; decide) fun t10 H10 e10 h10 => ?_
          have e510 := (e6.trans e68).trans e10
          refine q _ t10 z [d5, .str nm] (e15.trans e510) (.tup h10 (.cons (.str _) (.cons (Da.ex e510 _ hd5) (.cons (.str _) .nil)))) (st_2 hz2 k5 (fun h => (bare_pk (kb5 (by rw [h]; decide))).2) hnn) (okD_stp (by rcases hz2 with rfl | rfl <;> decide) (fun d hd => ?_) (by show 2 ≤ 3; decide)) (by rcases hz2 with rfl | rfl <;> decide)
          simp only [List.mem_cons, List.not_mem_nil, or_false] at hd
          rcases hd with rfl | rfl
          · exact kok5
          · exact okD_nm hnn
        · have hz2 : ¬ (z = "call" ∨ z = "copy") := by simpa using hw2
          have hz3 : z = "turn" ∨ z = "part" ∨ z = "drop" := by
            rcases hz with h | h | h
            · exact h
            · exact absurd h hz2
            · exact absurd h hc
          generalize hq9 : upd H8 p9 _ = H9
          obtain ⟨e9, h9⟩ := gen1 hq9 n9
          have e69 := (e7.trans e8).trans e9
          refine cat_G (e69 _ _ h6) h9 (by show 2 ≤ 1000; decide) fun t10 H10 e10 h10 => ?_
          have e510 := (e6.trans e69).trans e10
          refine q _ t10 z [d5] (e15.trans e510) (.tup h10 (.cons (.str _) (.cons (Da.ex e510 _ hd5) .nil))) (st_1 hz3 (kb5 (by rcases hz3 with rfl | rfl | rfl <;> decide))) (okD_stp (by rcases hz3 with rfl | rfl | rfl <;> decide) (fun d hd => ?_) (by show 1 ≤ 3; decide)) (by rcases hz3 with rfl | rfl | rfl <;> decide)
          rw [List.mem_singleton] at hd
          rw [hd]
          exact kok5
def spSa30 : Sp := fun vs H Q _ => ∃ (b : Addr) (v : V) (ns ts : List Str) (p bd bk : Addr) (va : V) (us ub : List V), vs = [.ref b, v, .ref p] ∧ BagAt H b ∧ WorldAt H v ns ts ∧ WOk ns ts ∧ H p = some (.tup [.ref bd, .ref bk]) ∧ H bd = some (.lst us) ∧ H bk = some (.lst ub) ∧ us.length ≤ 4 ∧ ub.length ≤ 2 ∧
  ∀ (H' : Hp) (p : Addr) (z : Str) (ds : List PyData), Ex H H' → Da H' (.ref p) (.tuple (.str z :: ds)) → stepT z ds = true → okD 4 45000 (.tuple (.str z :: ds)) → Q (.ref p) H'
theorem ok_sa30 (T : Txt0 mg) (D : Df K mg "_law_step_any" s_l_step_any) (c_l_take : CalG P w K mg base 1 "_law_take" spTake) (c_l_pick : CalG P w K mg base 5 "_law_pick" spPk30) (c_l_step : CalG P w K mg base 6 "_law_step" spSt30) : CalG P w K mg base 7 "_law_step_any" spSa30 := by
  refine cal_mk D sc_l_step_any (fun _ _ _ _ _ _ us hl => match us, hl with | [_, _, _], _ => rfl) (fun vs H Q E h => ?_) (fun f cdv A outer s H vs Q E hr hG h => ?_)
  · obtain ⟨b, v, ns, ts, p, bd, bk, va, us, ub, rfl, _⟩ := h
    rfl
  · obtain ⟨b, v, ns, ts, p, bd, bk, va, us, ub, rfl, hb, hv, hw, hp, hbd, hbk, lu, lb, q⟩ := h
    refine ⟨_, (pss_cons (ps_if (pt_cmpR (opEq hr) (pe_cG c_l_take hr hG (by decide) rfl (pa_cons (pv 0) (pa_cons pe_int pa_nil))) pe_int (nomark _)) (pss_one (ps_ret (pe_tup (pa_cons pe_str (pa_cons (pe_cG c_l_pick hr hG (by decide) rfl (pa_cons (pv 0) (pa_cons (pv 1) (pa_cons (pe_callB callLen (by rfl) T.len PySem.boot_len (pa_cons (pe_ix ixAny (pv 2) pe_int (fun _ _ => rfl)) pa_nil)) (pa_cons pe_bl pa_nil))))) pa_nil))))) pss_nil)
      (pss_one (ps_ret (pe_cG c_l_step hr hG (by decide) rfl (pa_cons (pv 0) (pa_cons (pv 1) (pa_cons (pe_callB callLen (by rfl) T.len PySem.boot_len (pa_cons (pe_ix ixAny (pv 2) pe_int (fun _ _ => rfl)) pa_nil)) (pa_cons (pe_callB callLen (by rfl) T.len PySem.boot_len (pa_cons (pe_ix ixAny (pv 2) pe_int (fun _ _ => rfl)) pa_nil)) pa_nil)))))))), ?_⟩
    refine ⟨_, rfl, b, 6, rfl, hb, by decide, by decide, fun H1 r _ _ e1 => .inl ⟨rfl, _, rfl, ?_⟩⟩
    refine ite2 (fun _ => ?_) (fun _ => ?_)
    · refine ⟨_, rfl, _, rfl, _, rfl, .inr (.inl ⟨p, _, 0, _, rfl, rfl, st_of (e1 _ _ hp), atI_nat (j := 0) rfl, ?_⟩)⟩
      refine .inl ⟨bd, us, rfl, .inl (sq_of (e1 _ _ hbd)), ?_⟩
      refine ⟨b, v, ns, ts, _, true, rfl, hb.ex e1, hv.ex e1, hw, by omega, by omega, fun H2 p2 d2 e2 hd2 hk2 => ?_⟩
      obtain ⟨kb2, ka2, kok2⟩ := hk2
      refine ⟨by show 2 ≤ sizeLine; decide, fun t7 n7 => ?_⟩
      generalize hq7 : upd H2 t7 _ = H7
      obtain ⟨e7, h7⟩ := gen1 hq7 n7
      refine q _ t7 "close" [d2] ((e1.trans e2).trans e7) (.tup h7 (.cons (.str _) (.cons (Da.ex e7 _ hd2) .nil))) (st_4 kb2 (ka2 rfl)) (okD_stp (by decide) (fun d hd => ?_) (by show 1 ≤ 3; decide))
      rw [List.mem_singleton] at hd
      rw [hd]
      exact kok2.mono (by decide) (by decide)
    · refine ⟨_, rfl, _, rfl, _, rfl, .inr (.inl ⟨p, _, 0, _, rfl, rfl, st_of (e1 _ _ hp), atI_nat (j := 0) rfl, ?_⟩)⟩
      refine .inl ⟨bd, us, rfl, .inl (sq_of (e1 _ _ hbd)), ?_⟩
      refine ⟨_, rfl, .inr (.inl ⟨p, _, 1, _, rfl, rfl, st_of (e1 _ _ hp), atI_nat (j := 1) rfl, ?_⟩)⟩
      refine .inl ⟨bk, ub, rfl, .inl (sq_of (e1 _ _ hbk)), ?_⟩
      exact ⟨b, v, ns, ts, _, _, rfl, hb.ex e1, hv.ex e1, hw, by omega, by omega, by omega, by omega, fun H2 p2 z ds e2 hd2 hs hok _ => q _ p2 z ds (e1.trans e2) hd2 hs hok⟩
end
end Own

namespace Own
open PySem PySem.Spec PyProof.Rows L2 Evl
abbrev s_name_of : Stmt := top 24
theorem sc_name_of : FnScope ["pick", "inner"] ["pick"] (defScope s_name_of) := ⟨rfl, rfl, rfl, by decide +kernel, rfl, by decide +kernel, by decide +kernel⟩
abbrev s_place_of : Stmt := top 25
theorem sc_place_of : FnScope ["pick", "inner"] ["pick"] (defScope s_place_of) := ⟨rfl, rfl, rfl, by decide +kernel, rfl, by decide +kernel, by decide +kernel⟩
abbrev s_pattern_of : Stmt := top 26
theorem sc_pattern_of : FnScope ["pick", "inner"] ["pick"] (defScope s_pattern_of) := ⟨rfl, rfl, rfl, by decide +kernel, rfl, by decide +kernel, by decide +kernel⟩
abbrev s_picks_of : Stmt := top 34
theorem sc_picks_of : FnScope ["step"] ["step"] (defScope s_picks_of) := ⟨rfl, rfl, rfl, by decide +kernel, rfl, by decide +kernel, by decide +kernel⟩
abbrev s_l_picks : Stmt := top 50
theorem sc_l_picks : FnScope ["_law_step_here"] ["_law_step_here"] (defScope s_l_picks) := ⟨rfl, rfl, rfl, by decide +kernel, rfl, by decide +kernel, by decide +kernel⟩
abbrev s_l_bare : Stmt := top 49
theorem sc_l_bare : FnScope ["_law_pick_here"] ["_law_pick_here"] (defScope s_l_bare) := ⟨rfl, rfl, rfl, by decide +kernel, rfl, by decide +kernel, by decide +kernel⟩
section
variable {P : Program} {w : World} {K : PySem.W.Frag} {mg : Str → Option Value} {base : Heap} {rel : Addr}
theorem ok_name_of (T : Txt0 mg) (D : Df K mg "name_of" s_name_of) (c_bare : CalG P w K mg base 1 "bare" (spV fBare)) : CalG P w K mg base 2 "name_of" (spV fName) := by
  refine cal_mk D sc_name_of (fun _ _ _ _ _ _ us hl => match us, hl with | [_], _ => rfl) (fun vs H Q E h => ?_) (fun f cdv A outer s H vs Q E hr hG h => ?_)
  · obtain ⟨v, bk, own, z, u, rfl, _⟩ := h
    rfl
  · obtain ⟨v, bk, own, z, u, rfl, hv, q⟩ := h
    refine ⟨_, (pss_cons (ps_set (i := 1) sc_name_of.nd rfl (Or.inl rfl) (pe_cG c_bare hr hG (by decide) rfl (pa_cons (pv 0) pa_nil)))
      (pss_one (ps_ret (pe_ifExp (pt_cmpR (opEq hr) (pe_ix ixAny (pv 1) pe_int (fun _ _ => rfl)) pe_str (nomark _)) (pe_ix ixAny (pv 1) pe_int (fun _ _ => rfl)) pe_non)))), ?_⟩
    refine ⟨_, rfl, v, bk, own, z, u, rfl, hv, fun H1 e1 => ?_⟩
    obtain ⟨zb, p, xs, rfl, hp, hx⟩ := hv.word
    refine ⟨_, rfl, .inr (.inl ⟨p, _, 0, _, rfl, rfl, st_of (e1 _ _ hp), atI_nat (j := 0) rfl, ?_⟩)⟩
    refine .inl ⟨rfl, _, rfl, ?_⟩
    rw [str_dec]
    unfold fName at q
    cases hz : decide (z = "name") with
    | false =>
      rw [hz] at q
      exact iteF (q _ e1)
    | true =>
      rw [hz] at q
      have z1 : z = "name" := of_decide_eq_true hz
      have hxs := hx (by rw [z1]; decide)
      rw [hxs] at hp
      refine iteT ⟨_, rfl, .inr (.inl ⟨p, _, 1, _, rfl, rfl, st_of (e1 _ _ hp), atI_nat (j := 1) rfl, ?_⟩)⟩
      exact q _ e1
theorem ok_place_of (T : Txt0 mg) (D : Df K mg "place_of" s_place_of) (c_bare : CalG P w K mg base 1 "bare" (spV fBare)) : CalG P w K mg base 2 "place_of" (spV fPlace) := by
  refine cal_mk D sc_place_of (fun _ _ _ _ _ _ us hl => match us, hl with | [_], _ => rfl) (fun vs H Q E h => ?_) (fun f cdv A outer s H vs Q E hr hG h => ?_)
  · obtain ⟨v, bk, own, z, u, rfl, _⟩ := h
    rfl
  · obtain ⟨v, bk, own, z, u, rfl, hv, q⟩ := h
    refine ⟨_, (pss_cons (ps_set (i := 1) sc_place_of.nd rfl (Or.inl rfl) (pe_cG c_bare hr hG (by decide) rfl (pa_cons (pv 0) pa_nil)))
      (pss_one (ps_ret (pe_ifExp (pt_cmpR (opEq hr) (pe_ix ixAny (pv 1) pe_int (fun _ _ => rfl)) pe_str (nomark _)) (pe_ix ixAny (pv 1) pe_int (fun _ _ => rfl)) pe_non)))), ?_⟩
    refine ⟨_, rfl, v, bk, own, z, u, rfl, hv, fun H1 e1 => ?_⟩
    obtain ⟨zb, p, xs, rfl, hp, hx⟩ := hv.word
    refine ⟨_, rfl, .inr (.inl ⟨p, _, 0, _, rfl, rfl, st_of (e1 _ _ hp), atI_nat (j := 0) rfl, ?_⟩)⟩
    refine .inl ⟨rfl, _, rfl, ?_⟩
    rw [str_dec]
    unfold fPlace at q
    cases hz : decide (z = "at") with
    | false =>
      rw [hz] at q
      exact iteF (q _ e1)
    | true =>
      rw [hz] at q
      have z1 : z = "at" := of_decide_eq_true hz
      have hxs := hx (by rw [z1]; decide)
      rw [hxs] at hp
      refine iteT ⟨_, rfl, .inr (.inl ⟨p, _, 1, _, rfl, rfl, st_of (e1 _ _ hp), atI_nat (j := 1) rfl, ?_⟩)⟩
      exact q _ e1
theorem ok_pattern_of (T : Txt0 mg) (D : Df K mg "pattern_of" s_pattern_of) (c_bare : CalG P w K mg base 1 "bare" (spV fBare)) : CalG P w K mg base 2 "pattern_of" (spV fPat) := by
  refine cal_mk D sc_pattern_of (fun _ _ _ _ _ _ us hl => match us, hl with | [_], _ => rfl) (fun vs H Q E h => ?_) (fun f cdv A outer s H vs Q E hr hG h => ?_)
  · obtain ⟨v, bk, own, z, u, rfl, _⟩ := h
    rfl
  · obtain ⟨v, bk, own, z, u, rfl, hv, q⟩ := h
    refine ⟨_, (pss_cons (ps_set (i := 1) sc_pattern_of.nd rfl (Or.inl rfl) (pe_cG c_bare hr hG (by decide) rfl (pa_cons (pv 0) pa_nil)))
      (pss_one (ps_ret (pe_ifExp (pt_cmpR opIn (pe_ix ixAny (pv 1) pe_int (fun _ _ => rfl)) (pe_tup (pa_cons pe_str (pa_cons pe_str pa_nil))) rfl) (pe_ix ixAny (pv 1) pe_int (fun _ _ => rfl)) pe_non)))), ?_⟩
    refine ⟨_, rfl, v, bk, own, z, u, rfl, hv, fun H1 e1 => ?_⟩
    obtain ⟨zb, p, xs, rfl, hp, hx⟩ := hv.word
    refine ⟨_, rfl, .inr (.inl ⟨p, _, 0, _, rfl, rfl, st_of (e1 _ _ hp), atI_nat (j := 0) rfl, ?_⟩)⟩
    refine ⟨by show 2 ≤ sizeLine; decide, fun t ht => ?_⟩
    generalize hq2 : upd H1 t _ = H2
    obtain ⟨e2, h2⟩ := gen1 hq2 ht
    refine .inl ⟨t, _, rfl, .inr (st_of h2), rfl, rfl, _, rfl, ?_⟩
    rw [show (inV (.str z) [.str "like", .str "all"]) = _ from like_in z]
    unfold fPat at q
    cases hz : (decide (z = "like") || decide (z = "all")) with
    | false =>
      rw [hz] at q
      exact iteF (q _ (e1.trans e2))
    | true =>
      rw [hz] at q
      have hxs := hx (fun z1 => by rw [z1] at hz; exact absurd hz (by decide))
      rw [hxs] at hp
      refine iteT ⟨_, rfl, .inr (.inl ⟨p, _, 1, _, rfl, rfl, st_of (e2 _ _ (e1 _ _ hp)), atI_nat (j := 1) rfl, ?_⟩)⟩
      exact q _ (e1.trans e2)
def spPk1 (K : PySem.W.Frag) : Sp := fun vs H Q _ => ∃ (p : Addr) (z : Str) (xs : List V) (ds : List PyData), vs = [.ref p] ∧ H p = some (.tup (.str z :: xs)) ∧ DaAll H xs ds ∧ stepT z ds = true ∧ ∀ (H' : Hp) (l : Addr), Ex H H' → H l = none → H' l = some (.lst (xs.take (nPk z))) → Q (.ref l) H'
theorem ok_l_picks (T : Txt0 mg) (D : Df K mg "_law_picks" s_l_picks) : CalG P w K mg base 1 "_law_picks" (spPk1 K) := by
  refine cal_mk D sc_l_picks (fun _ _ _ _ _ _ us hl => match us, hl with | [_], _ => rfl) (fun vs H Q E h => ?_) (fun f cdv A outer s H vs Q E hr hG h => ?_)
  · obtain ⟨p, z, xs, ds, rfl, _⟩ := h
    rfl
  · obtain ⟨p, z, xs, ds, rfl, hp, hA, hst, q⟩ := h
    refine ⟨_, (pss_one (ps_ret (pe_ifExp (pt_cmpR (opEq hr) (pe_ix ixAny (pv 0) pe_int (fun _ _ => rfl)) pe_str (nomark _)) (pe_callTy call_list_of (by rfl) T.list (by decide +kernel) (pa_cons (pe_slice slAny (pv 0) (po_some pe_int) (po_some pe_int)) pa_nil)) (pe_lst (pa_cons (pe_ix ixAny (pv 0) pe_int (fun _ _ => rfl)) pa_nil))))), ?_⟩
    refine ⟨_, rfl, .inr (.inl ⟨p, _, 0, _, rfl, rfl, st_of hp, atI_nat (j := 0) rfl, .inl ⟨rfl, _, rfl, ?_⟩⟩)⟩
    rw [str_dec]
    have hlx := hA.len
    have hnp := stepT_np hst
    have hp1 : 1 ≤ ds.length := Nat.le_trans (nPk_le z).1 hnp
    by_cases hc : z = "chain"
    · have np : nPk z = 2 := if_pos hc
      rw [decide_eq_true hc]
      refine iteT ⟨_, rfl, 1, rfl, 3, rfl, sl_midG (j := 1) (k := 2) hp (by decide) (by show 1 ≤ xs.length + 1; omega) fun t H2 e2 h2 => ⟨t, _, rfl, .inr (st_of h2), fun l hl => ?_⟩⟩
      refine q _ l (e2.trans (Ex.new hl)) (none_of e2 hl) ?_
      rw [upd_same, np]
      rfl
    · have np : nPk z = 1 := if_neg hc
      rw [decide_eq_false hc]
      obtain ⟨x, xs', rfl⟩ : ∃ x xs', xs = x :: xs' := by
        cases xs with
        | nil => exact absurd (hlx.symm ▸ hp1) (by decide)
        | cons x xs' => exact ⟨x, xs', rfl⟩
      refine iteF ⟨_, rfl, .inr (.inl ⟨p, _, 1, _, rfl, rfl, st_of hp, atI_nat (j := 1) rfl, ?_⟩)⟩
      refine ⟨by show 1 ≤ sizeLine; decide, fun l hl => ?_⟩
      refine q _ l (Ex.new hl) hl ?_
      rw [upd_same, np]
      rfl
theorem ok_picks_of (T : Txt0 mg) (D : Df K mg "picks_of" s_picks_of) (c_picks_in : CalG P w K mg base 1 "picks_in" spPkIn) : CalG P w K mg base 2 "picks_of" (spPk1 K) := by
  refine cal_mk D sc_picks_of (fun _ _ _ _ _ _ us hl => match us, hl with | [_], _ => rfl) (fun vs H Q E h => ?_) (fun f cdv A outer s H vs Q E hr hG h => ?_)
  · obtain ⟨p, z, xs, ds, rfl, _⟩ := h
    rfl
  · obtain ⟨p, z, xs, ds, rfl, hp, hA, hst, q⟩ := h
    refine ⟨_, (pss_one (ps_ret (pe_callTy call_list_of (by rfl) T.list (by decide +kernel) (pa_cons (pe_slice slAny (pv 0) (po_some pe_int) (po_some (pe_op opAdd pe_int (pe_cG c_picks_in hr hG (by decide) rfl (pa_cons (pe_ix ixAny (pv 0) pe_int (fun _ _ => rfl)) pa_nil))))) pa_nil)))), ?_⟩
    have hlx := hA.len
    have hnp := stepT_np hst
    have np1 := (nPk_le z).1
    refine ⟨_, rfl, 1, rfl, _, rfl, .inr (.inl ⟨p, _, 0, _, rfl, rfl, st_of hp, atI_nat (j := 0) rfl, ?_⟩)⟩
    refine ⟨z, rfl, fun H1 e1 => .inl ⟨_, _, rfl, rfl, ((1 + nPk z : Nat) : Int), by rw [Int.natCast_add]; rfl, ?_⟩⟩
    refine sl_midG (j := 1) (k := nPk z) (e1 _ _ hp) (by decide) (by show 1 ≤ xs.length + 1; omega) fun t H2 e2 h2 => ⟨t, _, rfl, .inr (st_of h2), fun l hl => ?_⟩
    exact q _ l ((e1.trans e2).trans (Ex.new hl)) (none_of (e1.trans e2) hl) upd_same
theorem ok_l_bare (T : Txt0 mg) (D : Df K mg "_law_bare" s_l_bare) : CalG P w K mg base 1 "_law_bare" (spV fBare) := by
  refine cal_mk D sc_l_bare (fun _ _ _ _ _ _ us hl => match us, hl with | [_], _ => rfl) (fun vs H Q E h => ?_) (fun f cdv A outer s H vs Q E hr hG h => ?_)
  · obtain ⟨v, bk, own, z, u, rfl, _⟩ := h
    rfl
  · obtain ⟨v, bk, own, z, u, rfl, hv, q⟩ := h
    refine ⟨_, (pss_one (ps_ret (pe_ifExp (pt_cmpR (opEq hr) (pe_ix ixAny (pv 0) pe_int (fun _ _ => rfl)) pe_str (nomark _)) (pe_ix ixAny (pv 0) pe_int (fun _ _ => rfl)) (pv 0)))), ?_⟩
    obtain ⟨zb, p, xs, rfl, hp, hx⟩ := hv.word
    rcases hv.book with ⟨rfl, pb, rfl, hpb⟩ | ⟨rfl, rfl⟩
    · refine ⟨_, rfl, .inr (.inl ⟨pb, _, 0, _, rfl, rfl, st_of hpb, atI_nat (j := 0) rfl, ?_⟩)⟩
      refine .inl ⟨rfl, _, rfl, ?_⟩
      rw [str_dec, decide_eq_true rfl]
      refine iteT ⟨_, rfl, .inr (.inl ⟨pb, _, 1, _, rfl, rfl, st_of hpb, atI_nat (j := 1) rfl, ?_⟩)⟩
      exact q _ (Ex.refl _)
    · refine ⟨_, rfl, .inr (.inl ⟨p, _, 0, _, rfl, rfl, st_of hp, atI_nat (j := 0) rfl, ?_⟩)⟩
      refine .inl ⟨rfl, _, rfl, ?_⟩
      rw [str_dec, decide_eq_false zb]
      exact iteF ⟨_, rfl, q _ (Ex.refl _)⟩
end
end Own

namespace Own
open PySem PySem.Spec PyProof.Rows L2 Evl
abbrev s_l_odd : Stmt := top 57
theorem sc_l_odd : FnScope ["_law_bag_here", "_law_deep", "_law_k", "_law_some_here"] ["_law_bag_here"] (defScope s_l_odd) := ⟨rfl, rfl, rfl, by decide +kernel, rfl, by decide +kernel, by decide +kernel⟩
def deepD : Nat → PyData
  | 0 => .tuple [.str "last"]
  | n + 1 => .tuple [deepD n, .str "book"]
def oddA : List PyData := [.none, .bool true, .bool false, .int (-1), .int 0, .int 1, .int (10 ^ (40 : Int).toNat), .str "", .str "a", .str "A", .str "ninesigns", .tuple [], .list [], .dict [], .tuple [.str "last"], .tuple [.str "name"], deepD 6]
def oddB : List PyData := [.tuple [.str "eq", .str "a", .str "b"], .str "last"]
def oddL : List PyData := oddA ++ (.list (List.replicate 2000 (.int 0)) :: oddB)
theorem odd_tab : ((oddA ++ oddB).all fun d => gD d && (decide (d.depth ≤ 8) && decide (wd d ≤ 20000))) = true := by decide +kernel
theorem rep_ok : okD 8 3900000 (.list (List.replicate 2000 (.int 0))) := by
  refine (okD_list (n := 0) (W := wd (.int 0)) (m := 2000) (fun d hd => ?_) (by rw [List.length_replicate]; exact Nat.le_refl _)).mono (by decide) (by decide +kernel)
  rw [(List.mem_replicate.mp hd).2]
  exact ⟨by decide +kernel, by decide +kernel, Nat.le_refl _⟩
theorem odd_ok {d : PyData} (h : d ∈ oddL) : okD 8 3900000 d := by
  have g : d ∈ oddA ++ oddB ∨ d = .list (List.replicate 2000 (.int 0)) := by
    rcases List.mem_append.mp h with h | h
    · exact .inl (List.mem_append_left _ h)
    · rcases List.mem_cons.mp h with h | h
      · exact .inr h
      · exact .inl (List.mem_append_right _ h)
  rcases g with g | rfl
  · have z := List.all_eq_true.mp odd_tab d g
    simp only [Bool.and_eq_true, decide_eq_true_eq] at z
    exact ⟨z.1, z.2.1, Nat.le_trans z.2.2 (by decide)⟩
  · exact rep_ok
theorem daaa_rep {A : Addr → Prop} {H : Hp} {v : V} {d : PyData} (h : DaA A H v d) : ∀ n : Nat, DaAA A H (List.replicate n v) (List.replicate n d)
  | 0 => .nil
  | n + 1 => .cons h (daaa_rep h n)
/-- how many it holds -/
def lenOk : PyData → Bool
  | .list ds => decide (ds.length ≤ 30000) && (!ds.all stepD || decide (ds.length ≤ 5))
  | .tuple ds => decide (ds.length ≤ 30000) && (!ds.all stepD || decide (ds.length ≤ 5))
  | _ => true
theorem odd_len {d : PyData} (h : d ∈ oddL) : lenOk d = true := by
  have t : ((oddA ++ oddB).all lenOk) = true := by decide +kernel
  rcases List.mem_append.mp h with h | h
  · exact List.all_eq_true.mp t d (List.mem_append_left _ h)
  · rcases List.mem_cons.mp h with rfl | h
    · show (decide ((List.replicate 2000 (PyData.int 0)).length ≤ 30000) && (!(List.replicate 2000 (PyData.int 0)).all stepD || decide ((List.replicate 2000 (PyData.int 0)).length ≤ 5))) = true
      rw [decide_eq_true (by rw [List.length_replicate]; decide), show (List.replicate 2000 (PyData.int 0)).all stepD = false from rfl]
      rfl
    · exact List.all_eq_true.mp t d (List.mem_append_right _ h)
section
variable {P : Program} {w : World} {K : PySem.W.Frag} {mg : Str → Option Value} {base : Heap} {rel : Addr}
def spOdd : Sp := fun vs H Q _ => ∃ (b : Addr), vs = [.ref b] ∧ BagAt H b ∧ ∀ (H' : Hp) (v : V) (d : PyData), Ex H H' → DaA (fun a => H a = none) H' v d → okD 8 3900000 d → lenOk d = true → Q v H'
theorem ok_odd (T : Txt0 mg) (D : Df K mg "_law_odd" s_l_odd) (c_l_take : CalG P w K mg base 1 "_law_take" spTake) : CalG P w K mg base 2 "_law_odd" spOdd := by
  refine cal_mk D sc_l_odd (fun _ _ _ _ _ _ us hl => match us, hl with | [_], _ => rfl) (fun vs H Q E h => ?_) (fun f cdv A outer s H vs Q E hr hG h => ?_)
  · obtain ⟨b, rfl, _⟩ := h
    rfl
  · obtain ⟨b, rfl, hb, q⟩ := h
    refine ⟨_, (pss_cons (ps_set (i := 1) sc_l_odd.nd rfl (Or.inl rfl) (pe_tup (pa_cons pe_str pa_nil)))
      (pss_cons (ps_forO (ps_for PassesOwn.never rfl (pi_range1 rfl T.range (pa_cons pe_int pa_nil)) (pg_name (i := 2) sc_l_odd.nd rfl (Or.inl rfl))
        (pss_one (ps_set (i := 1) sc_l_odd.nd rfl (Or.inl rfl) (pe_tup (pa_cons (pv 1) (pa_cons pe_str pa_nil)))))))
      (pss_cons (ps_set (i := 3) sc_l_odd.nd rfl (Or.inl rfl) (pe_lst (pa_cons pe_non (pa_cons pe_bl (pa_cons pe_bl (pa_cons (pe_un un_neg pe_int) (pa_cons pe_int (pa_cons pe_int (pa_cons (pe_op op_pow pe_int pe_int) (pa_cons pe_str (pa_cons pe_str (pa_cons pe_str (pa_cons pe_str (pa_cons (pe_tup pa_nil) (pa_cons (pe_lst pa_nil) (pa_cons pe_dnewK (pa_cons (pe_tup (pa_cons pe_str pa_nil)) (pa_cons (pe_tup (pa_cons pe_str pa_nil)) (pa_cons (pv 1) pa_nil)))))))))))))))))))
      (pss_one (ps_ret (pe_ix ixAny (pe_op opAdd (pv 3) (pe_lst (pa_cons (pe_op opMul (pe_lst (pa_cons pe_int pa_nil)) pe_int) (pa_cons (pe_tup (pa_cons pe_str (pa_cons pe_str (pa_cons pe_str pa_nil)))) (pa_cons pe_str pa_nil))))) (pe_cG c_l_take hr hG (by decide) rfl (pa_cons (pv 0) (pa_cons pe_int pa_nil))) (fun _ _ => rfl))))))), ?_⟩
    refine ⟨by show 1 ≤ sizeLine; decide, fun t1 n1 => ?_⟩
    generalize hq1 : upd H t1 _ = H1
    obtain ⟨e1, h1⟩ := gen1 hq1 n1
    have mv : ∀ {H2 H3 : Hp} {v : V} {d : PyData}, Ex H2 H3 → DaA (fun a => H a = none) H2 v d → DaA (fun a => H a = none) H3 v d := fun {H2 H3 v d} e h => DaA.move (fun a o _ z => e a o z) (fun _ z => z) d h
    refine ⟨6, rfl, by decide, by decide, ?_⟩
    refine frG (walk_range (lo := 0) (n := 6)) (fun i σ H' => ∃ (p : Addr) (x2 : Option V), σ = [some (.ref b), some (.ref p), x2, none] ∧ Ex H1 H' ∧ DaA (fun a => H a = none) H' (.ref p) (deepD i)) ⟨t1, _, rfl, Ex.refl _, .tup n1 h1 (.cons (.str _) .nil)⟩ (fun _ _ _ _ _ => trivial) ?_ ?_
    · rintro i x σ H2 H2' hi ⟨p, x2, rfl, e2, hp⟩ ⟨rfl, rfl⟩
      refine ⟨_, rfl, by show 2 ≤ sizeLine; decide, fun t3 n3 => ?_⟩
      generalize hq3 : upd H2' t3 _ = H3
      obtain ⟨e3, h3⟩ := gen1 hq3 n3
      exact ⟨t3, _, rfl, e2.trans e3, .tup (none_of (e1.trans e2) n3) h3 (.cons (mv e3 hp) (.cons (.str _) .nil))⟩
    · rintro σ H2 ⟨p, x2, rfl, e2, hp⟩
      have e02 := e1.trans e2
      refine ⟨1, rfl, ⟨10, 40, rfl, rfl, ⟨by decide, by decide, by decide⟩, ?_⟩⟩
      refine ⟨by show 0 ≤ sizeLine; decide, fun t3 n3 => ?_⟩
      generalize hq3 : upd H2 t3 _ = H3
      obtain ⟨e3, h3⟩ := gen1 hq3 n3
      refine ⟨by show 0 ≤ sizeLine; decide, fun t4 n4 => ?_⟩
      generalize hq4 : upd H3 t4 _ = H4
      obtain ⟨e4, h4⟩ := gen1 hq4 n4
      refine fun t5 n5 => ?_
      generalize hq5 : upd H4 t5 _ = H5
      obtain ⟨e5, h5⟩ := gen1 hq5 n5
      refine ⟨by show 1 ≤ sizeLine; decide, fun t6 n6 => ?_⟩
      generalize hq6 : upd H5 t6 _ = H6
      obtain ⟨e6, h6⟩ := gen1 hq6 n6
      refine ⟨by show 1 ≤ sizeLine; decide, fun t7 n7 => ?_⟩
      generalize hq7 : upd H6 t7 _ = H7
      obtain ⟨e7, h7⟩ := gen1 hq7 n7
      refine ⟨_, rfl, by show 17 ≤ sizeLine; decide, fun l8 n8 => ?_⟩
      generalize hq8 : upd H7 l8 _ = H8
      obtain ⟨e8, h8⟩ := gen1 hq8 n8
      refine ⟨_, rfl, by show 1 ≤ sizeLine; decide, fun l9 n9 => ?_⟩
      generalize hq9 : upd H8 l9 _ = H9
      obtain ⟨e9, h9⟩ := gen1 hq9 n9
      refine .inr ⟨l9, 2000, _, rfl, rfl, h9, by decide, by decide, by show 1 * 2000 ≤ sizeLine; decide, fun l10 n10 => ?_⟩
      generalize hq10 : upd H9 l10 _ = H10
      obtain ⟨e10, h10⟩ := gen1 hq10 n10
      refine ⟨by show 3 ≤ sizeLine; decide, fun t11 n11 => ?_⟩
      generalize hq11 : upd H10 t11 _ = H11
      obtain ⟨e11, h11⟩ := gen1 hq11 n11
      refine ⟨by show 3 ≤ sizeLine; decide, fun l12 n12 => ?_⟩
      generalize hq12 : upd H11 l12 _ = H12
      obtain ⟨e12, h12⟩ := gen1 hq12 n12
      have f11 := e12
      have f10 := e11.trans f11
      have f8 := (e9.trans e10).trans f10
      refine .inr (.inr (.inl ⟨l8, l12, _, _, rfl, rfl, f8 _ _ h8, h12, by show 17 + 3 ≤ sizeLine; decide, fun l13 n13 => ?_⟩))
      generalize hq13 : upd H12 l13 _ = H13
      obtain ⟨e13, h13⟩ := gen1 hq13 n13
      have g10 := (f10.trans e13)
      have g11 := e12.trans e13
      have g7 := e8.trans (f8.trans e13)
      have g6 := e7.trans g7
      have g5 := e6.trans g6
      have g4 := e5.trans g5
      have g3 := e4.trans g4
      have g2 := e3.trans g3
      have e013 := e02.trans g2
      rw [show ((2000 : Int).toNat) = 2000 from rfl, flat_one] at h10
      have u2 := e02
      have u3 := u2.trans e3
      have u4 := u3.trans e4
      have u5 := u4.trans e5
      have u6 := u5.trans e6
      have u9 := ((u6.trans e7).trans e8).trans e9
      have u10 := u9.trans e10
      have all : DaAA (fun a => H a = none) H13 _ oddL := DaAA.app
        (.cons .non (.cons (.bl true) (.cons (.bl false) (.cons (.int (-1)) (.cons (.int 0) (.cons (.int 1) (.cons (.int _) (.cons (.str _) (.cons (.str _) (.cons (.str _) (.cons (.str _) (.cons (.tup (none_of u2 n3) (g3 _ _ h3) .nil) (.cons (.lst (none_of u3 n4) (g4 _ _ h4) .nil) (.cons (.dct (kv := []) (none_of u4 n5) (g5 _ _ h5) rfl) (.cons (.tup (none_of u5 n6) (g6 _ _ h6) (.cons (.str _) .nil)) (.cons (.tup (none_of u6 n7) (g7 _ _ h7) (.cons (.str _) .nil)) (.cons (mv g2 hp) .nil)))))))))))))))))
        (.cons (.lst (none_of u9 n10) (g10 _ _ h10) (daaa_rep (.int 0) 2000)) (.cons (.tup (none_of u10 n11) (g11 _ _ h11) (.cons (.str _) (.cons (.str _) (.cons (.str _) .nil)))) (.cons (.str _) .nil)))
      refine ⟨_, rfl, b, 20, rfl, hb.ex e013, by decide, by decide, fun H14 r r0 r1 e14 => ?_⟩
      obtain ⟨j, rfl⟩ : ∃ j : Nat, r = (j : Int) := ⟨r.toNat, by omega⟩
      have hj : j < 20 := by omega
      obtain ⟨d, hd⟩ : ∃ d, oddL[j]? = some d := ⟨_, List.getElem?_eq_getElem (show j < oddL.length from hj)⟩
      obtain ⟨y, hy1, hy2⟩ := DaAA.at2 all hd
      refine .inl ⟨l13, _, (j : Int), y, rfl, rfl, sq_of (e14 _ _ h13), atI_nat hy1, ?_⟩
      exact q _ y d (e013.trans e14) (mv e14 hy2) (odd_ok (List.mem_of_getElem? hd)) (odd_len (List.mem_of_getElem? hd))
end
end Own

namespace Own
open PySem PySem.Spec PyProof.Rows L2 Evl
abbrev s_l_bent : Stmt := top 58
theorem sc_l_bent : FnScope ["_law_bag_here", "_law_thing", "_law_way", "_law_at", "_law_words"] ["_law_bag_here", "_law_thing"] (defScope s_l_bent) := ⟨rfl, rfl, rfl, by decide +kernel, rfl, by decide +kernel, by decide +kernel⟩
mutual
def nlD : PyData → Bool
  | .tuple ds => nlDs ds
  | .list _ => false
  | .dict _ => false
  | .str _ => true
  | .int _ => true
  | _ => false
def nlDs : List PyData → Bool
  | [] => true
  | d :: ds => nlD d && nlDs ds
end
theorem nlDs_iff : ∀ {ds : List PyData}, nlDs ds = true ↔ ∀ d ∈ ds, nlD d = true
  | [] => ⟨fun _ d h => (by cases h), fun _ => rfl⟩
  | x :: xs => by
    show (nlD x && nlDs xs) = true ↔ _
    rw [Bool.and_eq_true, nlDs_iff]
    constructor
    · rintro ⟨h1, h2⟩ d hd
      rcases List.mem_cons.mp hd with rfl | hd
      · exact h1
      · exact h2 d hd
    · intro h
      exact ⟨h x (List.mem_cons_self ..), fun d hd => h d (List.mem_cons_of_mem _ hd)⟩
theorem nl_str {d : PyData} (h : isStrD d = true) : nlD d = true := by
  obtain ⟨z, rfl⟩ := str_of h
  rfl
theorem nl_pick {d : PyData} (k : pickD d = true) : nlD d = true := by
  have bare : ∀ {d : PyData}, bareD d = true → nlD d = true := fun {d} k => by
    rcases bare_inv k with rfl | ⟨w, b, rfl, h⟩
    · rfl
    · show (true && (nlD b && true)) = true
      rw [Bool.true_and, Bool.and_true]
      have sn : ∀ {d : PyData}, nmD d = true → nlD d = true := fun {d} h => by cases d <;> first | rfl | cases h
      have sb : ∀ {d : PyData}, blankD d = true → nlD d = true := fun {d} h => by cases d <;> first | rfl | cases h
      have sr : ∀ {d : PyData}, relD d = true → nlD d = true := fun {d} h => by cases d <;> first | rfl | cases h
      have sp : ∀ {d : PyData}, partD d = true → nlD d = true := fun {d} h => by
        unfold partD at h
        rw [Bool.or_eq_true] at h
        exact h.elim sb sn
      rcases h with ⟨_, h⟩ | ⟨_, h⟩ | ⟨_, h⟩
      · exact sn h
      · cases b <;> first | rfl | cases h
      · obtain ⟨a, b, c, rfl, h1, h2, h3⟩ := pat_inv h
        show (nlD a && (nlD b && (nlD c && true))) = true
        rw [Bool.or_eq_true] at h1
        rw [h1.elim sb sr, sp h2, sp h3]
        rfl
  rcases pick_inv k with k | ⟨b, rfl, k⟩
  · exact bare k
  · show (true && (nlD b && true)) = true
    rw [bare k]
    rfl
/-- lists and dicts are new, tuples stand -/
def Bn (H H' : Hp) (a : Addr) : Prop := H a = none ∨ ∃ ys, H' a = some (.tup ys)
mutual
theorem nl_daa {H H' : Hp} : ∀ (d : PyData) {v : V}, nlD d = true → Da H' v d → DaA (Bn H H') H' v d
  | .none, _, _, h => by cases h; exact .non
  | .bool _, _, _, h => by cases h; exact .bl _
  | .int _, _, _, h => by cases h; exact .int _
  | .str _, _, _, h => by cases h; exact .str _
  | .list ds, _, k, h => by cases k
  | .tuple ds, _, k, h => by
    cases h with
    | tup h1 h2 => exact .tup (.inr ⟨_, h1⟩) h1 (nl_daaa ds k h2)
  | .dict _, _, k, h => by cases k
theorem nl_daaa {H H' : Hp} : ∀ (ds : List PyData) {vs : List V}, nlDs ds = true → DaAll H' vs ds → DaAA (Bn H H') H' vs ds
  | [], _, _, h => by cases h; exact .nil
  | d :: ds, _, k, h => by
    have k : (nlD d && nlDs ds) = true := k
    rw [Bool.and_eq_true] at k
    cases h with
    | cons h1 h2 => exact .cons (nl_daa d k.1 h1) (nl_daaa ds k.2 h2)
end
theorem bn_mv {H H1 H2 H3 : Hp} {v : V} {d : PyData} (e0 : Ex H H1) (e : Ex H2 H3) (h : DaA (Bn H1 H2) H2 v d) : DaA (Bn H H3) H3 v d :=
  DaA.move (fun a o _ z => e a o z) (fun a z => z.imp (none_of e0) fun ⟨ys, z⟩ => ⟨ys, e _ _ z⟩) d h
/-- tuples behind one another, long ones too -/
theorem cat_L {K : PySem.W.Frag} {H : Hp} {Z : VK} {a b : Addr} {xs ys : List V} (ha : H a = some (.tup xs)) (hb : H b = some (.tup ys)) (hl : xs.length + ys.length ≤ 16000000) (z : ∀ (t : Addr) (H' : Hp), Ex H H' → H' t = some (.tup (xs ++ ys)) → Z (.ref t) H') : rAdd K (.ref a) (.ref b) H Z := by
  refine .inr (.inr (.inr ⟨a, b, xs, ys, rfl, rfl, st_of ha, st_of hb, Nat.le_trans hl (by show 16000000 ≤ sizeLine; decide), fun e => ?_, fun _ e => ?_, fun _ _ t ht => ?_⟩))
  · refine z b H (Ex.refl _) ?_
    rw [e, List.nil_append]
    exact hb
  · refine z a H (Ex.refl _) ?_
    rw [e, List.append_nil]
    exact ha
  · generalize hq2 : upd H t _ = H2
    obtain ⟨e2, h2⟩ := gen1 hq2 ht
    exact z t _ e2 h2
theorem sl_midL {K : PySem.W.Frag} {H : Hp} {Z : VK} {p : Addr} {xs : List V} {j k : Nat} (hp : H p = some (.tup xs)) (z : ∀ (t : Addr) (H' : Hp), Ex H H' → H' t = some (.tup ((xs.drop j).take k)) → Z (.ref t) H') : rSlAny K (.ref p) (some (j : Int)) (some ((j + k : Nat) : Int)) H Z := by
  refine .inr (.inl ⟨p, _, rfl, st_of hp, fun hz => ?_, fun hz t ht => ?_⟩)
  · have h1 := hz.1
    have h2 := hz.2
    rw [HT.sIx_nat] at h1 h2
    refine z p H (Ex.refl _) ?_
    by_cases h0 : xs.length = 0
    · rw [List.length_eq_zero_iff.mp h0] at hp ⊢
      rw [List.drop_nil, List.take_nil]
      exact hp
    · have : j = 0 := by omega
      subst this
      rw [List.drop_zero, List.take_of_length_le (by omega)]
      exact hp
  · rw [cut_mid]
    generalize hq2 : upd H t _ = H2
    obtain ⟨e2, h2⟩ := gen1 hq2 ht
    exact z t _ e2 h2
/-- what stands instead at j -/
theorem mid_ok {n W : Nat} {ds es : List PyData} {j : Nat} (h1 : gDs ds = true) (h2 : PyData.depthAll ds ≤ n) (he : ∀ e ∈ es, gD e = true ∧ e.depth ≤ n) (hw : wds ds + wds es ≤ W + (ds.getD j .none |> fun _ => wds ((ds.drop j).take 1))) : gDs (ds.take j ++ es ++ ds.drop (j + 1)) = true ∧ PyData.depthAll (ds.take j ++ es ++ ds.drop (j + 1)) ≤ n ∧ wds (ds.take j ++ es ++ ds.drop (j + 1)) ≤ W := by
  have mem : ∀ d ∈ ds.take j ++ es ++ ds.drop (j + 1), d ∈ ds ∨ d ∈ es := fun d hd => by
    rcases List.mem_append.mp hd with hd | hd
    · rcases List.mem_append.mp hd with hd | hd
      · exact .inl (List.mem_of_mem_take hd)
      · exact .inr hd
    · exact .inl (List.mem_of_mem_drop hd)
  refine ⟨gDs_iff.mpr fun d hd => ?_, depthAll_le.mpr fun d hd => ?_, ?_⟩
  · rcases mem d hd with h | h
    · exact gDs_iff.mp h1 d h
    · exact (he d h).1
  · rcases mem d hd with h | h
    · exact depthAll_le.mp h2 d h
    · exact (he d h).2
  · have e1 := wds_app (ds.take j) (ds.drop j)
    have e2 := wds_app ((ds.drop j).take 1) ((ds.drop j).drop 1)
    rw [List.take_append_drop] at e1 e2
    rw [List.drop_drop] at e2
    rw [wds_app, wds_app]
    simp only at hw
    omega
theorem mid_one {ds : List PyData} {j : Nat} {g : PyData} (h : ds[j]? = some g) : (ds.drop j).take 1 = [g] := by
  rw [List.take_one, List.head?_drop, h]
  rfl
def bWL : List Str := ["turn", "part", "drop", "call", "copy", "chain", "close", "name", "at", "last", "like", "all", "book", "eq", "lt", "gt", "a1", "aB", "a_", "a{"]
def bWR : Str := "turn part drop call copy chain close name at last like all book eq lt gt a1 aB a_ a{"
theorem bw_split : Txt.split bWR " " = bWL := by decide +kernel
theorem bw_ok : ((bWL ++ ([("a\n" : Str)] : List Str)).all fun z => lay z && decide (z.length ≤ 8)) = true := by decide +kernel
section
variable {P : Program} {w : World} {K : PySem.W.Frag} {mg : Str → Option Value} {base : Heap} {rel : Addr}
/-- n: no thing is as deep -/
def spBent (n : Nat) : Sp := fun vs H Q _ => ∃ (b : Addr) (v : V) (d : PyData), vs = [.ref b, v] ∧ BagAt H b ∧ Da H v d ∧ nlD d = true ∧ gD d = true ∧ d.depth < n ∧ wd d ≤ 4000000 ∧
  ∀ (H' : Hp) (v' : V) (d' : PyData), Ex H H' → DaA (Bn H H') H' v' d' → okD (d.depth + 8) (2 * wd d + 3900000) d' → Q v' H'
theorem ok_bent (T : Txt0 mg) (TI : TxtI K mg rel) (D : Df K mg "_law_bent" s_l_bent) (c_l_take : CalG P w K mg base 1 "_law_take" spTake) (c_l_odd : CalG P w K mg base 2 "_law_odd" spOdd) : ∀ n : Nat, CalG P w K mg base (3 + n) "_law_bent" (spBent n)
  | 0 => by
    obtain ⟨f, fd, hmg, F⟩ := D.ex
    exact ⟨f, fd, ["_law_bag_here", "_law_thing"], ⟨fun vs H Q E ⟨b, v, d, _, _, _, _, _, h, _⟩ => absurd h (Nat.not_lt_zero _), fun A outer s H args us vs Z EE hr hg hes hbd hv ⟨b, v, d, _, _, _, _, _, h, _⟩ => absurd h (Nat.not_lt_zero _)⟩, hmg, F.kp, F.binds (fun _ _ _ _ _ _ us hl => match us, hl with | [_, _], _ => rfl)⟩
  | n + 1 => by
    have c_l_bent := ok_bent T TI D c_l_take c_l_odd n
    refine cal_mk (k := 3 + n) D sc_l_bent (fun _ _ _ _ _ _ us hl => match us, hl with | [_, _], _ => rfl) (fun vs H Q E h => ?_) (fun f cdv A' outer s H vs Q E hr hG h => ?_)
    · obtain ⟨b, v, d, rfl, _⟩ := h
      rfl
    · obtain ⟨b, v, d, rfl, hb, hv, hnl, hg, hdep, hw, q⟩ := h
      refine ⟨_, (pss_cons (ps_set (i := 2) sc_l_bent.nd rfl (Or.inl rfl) (pe_cG c_l_take hr hG (by omega) rfl (pa_cons (pv 0) (pa_cons pe_int pa_nil))))
      (pss_cons (ps_if (PW.pt (pw_or (pt_not (pt_val (pe_callB call_isi (by rfl) TI.isinstance (by decide +kernel) (pa_cons (pv 1) (pa_cons (pe_bltn (v := .ty "tuple") (by rfl) T.tuple (by decide +kernel) rfl) pa_nil))))) (pw_or (pt_cmpR (op_eqT0 hr) (pv 1) (pe_tup pa_nil) (nomark _)) (pw_or1 (pt_cmpR (opEq hr) (pv 2) pe_int (nomark _)))))) (pss_one (ps_ret (pe_cG c_l_odd hr hG (by omega) rfl (pa_cons (pv 0) pa_nil)))) pss_nil)
      (pss_cons (ps_set (i := 3) sc_l_bent.nd rfl (Or.inl rfl) (pe_cG c_l_take hr hG (by omega) rfl (pa_cons (pv 0) (pa_cons (pe_callB callLen (by rfl) T.len PySem.boot_len (pa_cons (pv 1) pa_nil)) pa_nil))))
      (pss_cons (ps_if (pt_cmpR (opEq hr) (pv 2) pe_int (nomark _)) (pss_one (ps_ret (pe_callTy call_list_of (by rfl) T.list (by decide +kernel) (pa_cons (pv 1) pa_nil)))) pss_nil)
      (pss_cons (ps_if (pt_cmpR (opEq hr) (pv 2) pe_int (nomark _)) (pss_one (ps_ret (pe_op opAdd (pe_slice slAny (pv 1) po_none (po_some (pv 3))) (pe_slice slAny (pv 1) (po_some (pe_op opAdd (pv 3) pe_int)) po_none)))) pss_nil)
      (pss_cons (ps_if (pt_cmpR (opEq hr) (pv 2) pe_int (nomark _)) (pss_one (ps_ret (pe_op opAdd (pe_op opAdd (pe_slice slAny (pv 1) po_none (po_some (pv 3))) (pe_op opMul01 (pe_slice slAny (pv 1) (po_some (pv 3)) (po_some (pe_op opAdd (pv 3) pe_int))) pe_int)) (pe_slice slAny (pv 1) (po_some (pe_op opAdd (pv 3) pe_int)) po_none)))) pss_nil)
      (pss_cons (ps_if (pt_cmpR (opEq hr) (pv 2) pe_int (nomark _)) (pss_cons (ps_set (i := 4) sc_l_bent.nd rfl (Or.inl rfl) (pe_split pe_str pe_str))
      (pss_one (ps_ret (pe_op opAdd (pe_op opAdd (pe_slice slAny (pv 1) po_none (po_some (pv 3))) (pe_tup (pa_cons (pe_ix ixAny (pe_op opAdd (pv 4) (pe_lst (pa_cons pe_str pa_nil))) (pe_cG c_l_take hr hG (by omega) rfl (pa_cons (pv 0) (pa_cons pe_int pa_nil))) (fun _ _ => rfl)) pa_nil))) (pe_slice slAny (pv 1) (po_some (pe_op opAdd (pv 3) pe_int)) po_none))))) pss_nil)
      (pss_one (ps_ret (pe_op opAdd (pe_op opAdd (pe_slice slAny (pv 1) po_none (po_some (pv 3))) (pe_tup (pa_cons (pe_cG c_l_bent hr hG (by omega) rfl (pa_cons (pv 0) (pa_cons (pe_ix ixAny (pv 1) (pv 3) (fun _ _ => rfl)) pa_nil))) pa_nil))) (pe_slice slAny (pv 1) (po_some (pe_op opAdd (pv 3) pe_int)) po_none))))))))))), ?_⟩
      refine ⟨_, rfl, b, 8, rfl, hb, by decide, by decide, fun H1 r r0 r1 e1 => ?_⟩
      have odd : ∀ {H3 : Hp} (_ : Ex H H3), spOdd [.ref b] H3 Q E0 := fun {H3} e3 => by
        refine ⟨b, rfl, hb.ex e3, fun H4 u g e4 hu hok _ => ?_⟩
        exact q _ u g (e3.trans e4) (DaA.move (fun _ _ _ z => z) (fun a z => .inl (none_of e3 z)) g hu) (hok.mono (by omega) (by omega))
      refine ⟨_, rfl, v, .ty "tuple", _, _, _, rfl, .ty _, (Da.ex e1 _ hv).ty, kit_ty (kit_tuple d), _, rfl, ?_⟩
      cases hs : isTupD d with
      | false => exact iteT ⟨_, rfl, odd e1⟩
      | true =>
        obtain ⟨ds, rfl⟩ := tup_of hs
        obtain ⟨p, xs, rfl, hp, hA⟩ := (Da.ex e1 _ hv).tup_inv
        have hlen := hA.len
        have g1 : gDs ds = true := hg
        have g2 : PyData.depthAll ds + 1 ≤ n := by have h : PyData.depthAll ds + 1 < n + 1 := hdep; omega
        have g3 : wd (.tuple ds) = wds ds + 3 := rfl
        have hmany := len_wds ds
        refine iteF ⟨_, rfl, by show 0 ≤ sizeLine; decide, fun t2 n2 => ?_⟩
        generalize hq2 : upd H1 t2 _ = H2
        obtain ⟨e2, h2⟩ := gen1 hq2 n2
        have e12 := e1.trans e2
        have hp2 := e2 _ _ hp
        refine ⟨p, t2, xs, rfl, rfl, st_of hp2, st_of h2, _, rfl, ?_⟩
        cases hemp : xs.isEmpty with
        | true => exact iteT ⟨_, rfl, odd e12⟩
        | false =>
          have hne : 0 < xs.length := by
            cases xs with
            | nil => cases hemp
            | cons _ _ => exact Nat.succ_pos _
          refine iteF ⟨_, rfl, .inl ⟨rfl, _, rfl, ?_⟩⟩
          refine ite2 (fun _ => ⟨_, rfl, odd e12⟩) (fun _ => ?_)
          refine ⟨_, rfl, _, rfl, .inl ⟨p, xs, rfl, .inr (st_of hp2), ?_⟩⟩
          refine ⟨b, _, rfl, hb.ex e12, by omega, by omega, fun H3 at_ a0 a1 e3 => ?_⟩
          obtain ⟨j, rfl⟩ : ∃ j : Nat, at_ = (j : Int) := ⟨at_.toNat, by omega⟩
          have hj : j < xs.length := by omega
          have e03 := e12.trans e3
          have hp3 := e3 _ _ hp2
          have hA3 : DaAll H3 xs ds := DaAll.ex (e2.trans e3) _ hA
          obtain ⟨g, hgj⟩ : ∃ g, ds[j]? = some g := ⟨_, List.getElem?_eq_getElem (show j < ds.length by omega)⟩
          obtain ⟨x, hxj, hxa⟩ := hA3.at2 hgj
          have hgm := List.mem_of_getElem? hgj
          have gg := gDs_iff.mp g1 g hgm
          have hgnl : nlD g = true := nlDs_iff.mp hnl g hgm
          have it : ∀ {H4 : Hp}, Ex H3 H4 → DaAA (Bn H H4) H4 xs ds := fun {H4} e4 => nl_daaa ds hnl (DaAll.ex e4 _ hA3)
          have gdep : g.depth ≤ PyData.depthAll ds := depthAll_le.mp (Nat.le_refl _) g hgm
          have gw := wd_mem hgm
          have ends : ∀ {H4 : Hp} {p' : Addr} {ys : List V} {es : List PyData}, Ex H3 H4 → H4 p' = some (.tup ys) → DaAA (Bn H H4) H4 ys es → gDs es = true ∧ PyData.depthAll es ≤ PyData.depthAll ds + 8 ∧ wds es ≤ 2 * wds ds + 3900003 → Q (.ref p') H4 := fun {H4 p' ys es} e4 hp' hA' hk => q _ _ (.tuple es) (e03.trans e4) (.tup (.inr ⟨_, hp'⟩) hp' hA') ⟨hk.1, by show PyData.depthAll es + 1 ≤ PyData.depthAll ds + 1 + 8; omega, by show wds es + 3 ≤ 2 * (wds ds + 3) + 3900000; omega⟩
          refine ⟨_, rfl, .inl ⟨rfl, _, rfl, ?_⟩⟩
          refine ite2 (fun _ => ?_) (fun _ => ?_)
          · refine ⟨_, rfl, p, xs, rfl, .inr (st_of hp3), fun l4 n4 => ?_⟩
            generalize hq4 : upd H3 l4 _ = H4
            obtain ⟨e4, h4⟩ := gen1 hq4 n4
            exact q _ _ (.list ds) (e03.trans e4) (.lst (.inl (none_of e03 n4)) h4 (it e4)) ⟨g1, by show PyData.depthAll ds + 1 ≤ PyData.depthAll ds + 1 + 8; omega, by show wds ds + 3 ≤ 2 * (wds ds + 3) + 3900000; omega⟩
          · refine ⟨_, rfl, .inl ⟨rfl, _, rfl, ?_⟩⟩
            refine ite2 (fun _ => ?_) (fun _ => ?_)
            · refine ⟨_, rfl, _, rfl, _, rfl, sl_toG (j := j) hp3 fun t4 H4 e4 h4 => ?_⟩
              have hp4 := e4 _ _ hp3
              refine ⟨_, rfl, _, rfl, .inl ⟨_, _, rfl, rfl, ((j + 1 : Nat) : Int), rfl, sl_fromG (j := j + 1) hp4 fun t5 H5 e5 h5 => ?_⟩⟩
              refine cat_L (e5 _ _ h4) h5 (by rw [List.length_take, List.length_drop]; omega) fun t6 H6 e6 h6 => ?_
              have e36 := (e4.trans e5).trans e6
              have hk := mid_ok (n := PyData.depthAll ds + 8) (W := 2 * wds ds + 3900003) (ds := ds) (es := []) (j := j) g1 (by omega) (fun e he => by cases he) (by show wds ds + 0 ≤ _; omega)
              rw [List.append_nil] at hk
              exact ends e36 h6 (((it e36).take j).app ((it e36).drop (j + 1))) hk
            · refine ⟨_, rfl, .inl ⟨rfl, _, rfl, ?_⟩⟩
              refine ite2 (fun _ => ?_) (fun _ => ?_)
              · refine ⟨_, rfl, _, rfl, _, rfl, sl_toG (j := j) hp3 fun t4 H4 e4 h4 => ?_⟩
                have hp4 := e4 _ _ hp3
                refine ⟨_, rfl, _, rfl, _, rfl, _, rfl, .inl ⟨_, _, rfl, rfl, ((j + 1 : Nat) : Int), rfl, sl_midL (j := j) (k := 1) hp4 fun t5 H5 e5 h5 => ?_⟩⟩
                have hx1 : (xs.drop j).take 1 = [x] := by
                  rw [List.take_one, List.head?_drop, hxj]
                  rfl
                rw [hx1] at h5
                refine .inl (.inr ⟨t5, 2, [x], rfl, rfl, st_of h5, by simp, by decide, by decide, by show 1 ≤ 1000; decide, fun t6 n6 => ?_⟩)
                generalize hq6 : upd H5 t6 _ = H6
                obtain ⟨e6, h6⟩ := gen1 hq6 n6
                have h6 : H6 t6 = some (.tup [x, x]) := h6
                refine cat_L ((e5.trans e6) _ _ h4) h6 (by rw [List.length_take]; show _ + 2 ≤ _; omega) fun t7 H7 e7 h7 => ?_
                have e37 := ((e4.trans e5).trans e6).trans e7
                refine ⟨_, rfl, _, rfl, .inl ⟨_, _, rfl, rfl, ((j + 1 : Nat) : Int), rfl, sl_fromG (j := j + 1) (e37 _ _ hp3) fun t8 H8 e8 h8 => ?_⟩⟩
                refine cat_L (e8 _ _ h7) h8 (by rw [List.length_append, List.length_take, List.length_drop]; show _ + 2 + _ ≤ _; omega) fun t9 H9 e9 h9 => ?_
                have e39 := (e37.trans e8).trans e9
                have hmo := mid_one hgj
                have hwm : wds ((ds.drop j).take 1) = wd g + 2 := by rw [hmo]; rfl
                have hk := mid_ok (n := PyData.depthAll ds + 8) (W := 2 * wds ds + 3900003) (ds := ds) (es := [g, g]) (j := j) g1 (by omega) (fun e he => by
                  have : e = g := by simpa using he
                  rw [this]
                  exact ⟨gg, by omega⟩) (by show wds ds + (wd g + 2 + (wd g + 2 + 0)) ≤ _ + wds ((ds.drop j).take 1); rw [hwm]; omega)
                exact ends e39 h9 ((((it e39).take j).app (.cons (nl_daa g hgnl (Da.ex e39 _ hxa)) (.cons (nl_daa g hgnl (Da.ex e39 _ hxa)) .nil))).app ((it e39).drop (j + 1))) hk
              · refine ⟨_, rfl, .inl ⟨rfl, _, rfl, ?_⟩⟩
                refine ite2 (fun _ => ?_) (fun _ => ?_)
                · refine ⟨⟨_, rfl⟩, _, _, rfl, rfl, (by decide), (by decide), fun wp hwp => ?_⟩
                  generalize hqw : upd H3 wp _ = H4
                  obtain ⟨e4, h4⟩ := gen1 hqw hwp
                  have h4 : H4 wp = some (.lst (bWL.map V.str)) := h4.trans (by rw [← bw_split]; rfl)
                  refine ⟨_, rfl, _, rfl, _, rfl, sl_toG (j := j) (e4 _ _ hp3) fun t5 H5 e5 h5 => ?_⟩
                  refine ⟨_, rfl, by show 1 ≤ sizeLine; decide, fun l6 n6 => ?_⟩
                  generalize hq6 : upd H5 l6 _ = H6
                  obtain ⟨e6, h6⟩ := gen1 hq6 n6
                  refine .inr (.inr (.inl ⟨wp, l6, _, _, rfl, rfl, (e5.trans e6) _ _ h4, h6, by show 20 + 1 ≤ sizeLine; decide, fun l7 n7 => ?_⟩))
                  generalize hq7 : upd H6 l7 _ = H7
                  obtain ⟨e7, h7⟩ := gen1 hq7 n7
                  have h7 : H7 l7 = some (.lst ((bWL ++ ([("a\n" : Str)] : List Str)).map V.str)) := h7
                  have e37 := ((e4.trans e5).trans e6).trans e7
                  refine ⟨_, rfl, b, 21, rfl, hb.ex (e03.trans e37), by decide, by decide, fun H8 u u0 u1 e8 => ?_⟩
                  obtain ⟨m, rfl⟩ : ∃ m : Nat, u = (m : Int) := ⟨u.toNat, by omega⟩
                  have hm : m < 21 := by omega
                  obtain ⟨z, hz⟩ : ∃ z, (bWL ++ ([("a\n" : Str)] : List Str))[m]? = some z := ⟨_, List.getElem?_eq_getElem (show m < (bWL ++ ([("a\n" : Str)] : List Str)).length from hm)⟩
                  have hzok := List.all_eq_true.mp bw_ok z (List.mem_of_getElem? hz)
                  simp only [Bool.and_eq_true, decide_eq_true_eq] at hzok
                  refine .inl ⟨l7, _, (m : Int), .str z, rfl, rfl, sq_of (e8 _ _ h7), atI_nat (by rw [List.getElem?_map, hz]; rfl), ?_⟩
                  refine ⟨by show 1 ≤ sizeLine; decide, fun t9 n9 => ?_⟩
                  generalize hq9 : upd H8 t9 _ = H9
                  obtain ⟨e9, h9⟩ := gen1 hq9 n9
                  refine cat_L ((((e6.trans e7).trans e8).trans e9) _ _ h5) h9 (by rw [List.length_take]; show _ + 1 ≤ _; omega) fun t10 H10 e10 h10 => ?_
                  have e310 := ((e37.trans e8).trans e9).trans e10
                  refine ⟨_, rfl, _, rfl, .inl ⟨_, _, rfl, rfl, ((j + 1 : Nat) : Int), rfl, sl_fromG (j := j + 1) (e310 _ _ hp3) fun t11 H11 e11 h11 => ?_⟩⟩
                  refine cat_L (e11 _ _ h10) h11 (by rw [List.length_append, List.length_take, List.length_drop]; show _ + 1 + _ ≤ _; omega) fun t12 H12 e12 h12 => ?_
                  have e312 := (e310.trans e11).trans e12
                  have hk := mid_ok (n := PyData.depthAll ds + 8) (W := 2 * wds ds + 3900003) (ds := ds) (es := [.str z]) (j := j) g1 (by omega) (fun e he => by
                    have : e = .str z := by simpa using he
                    rw [this]
                    exact ⟨hzok.1, Nat.zero_le _⟩) (by show wds ds + ((10 * z.length + 5) + 2 + 0) ≤ _; omega)
                  exact ends e312 h12 ((((it e312).take j).app (.cons (.str z) .nil)).app ((it e312).drop (j + 1))) hk
                · refine ⟨_, rfl, _, rfl, _, rfl, sl_toG (j := j) hp3 fun t4 H4 e4 h4 => ?_⟩
                  refine ⟨_, rfl, _, rfl, _, rfl, .inr (.inl ⟨p, _, (j : Int), x, rfl, rfl, st_of (e4 _ _ hp3), atI_nat hxj, ?_⟩)⟩
                  refine ⟨b, x, g, rfl, hb.ex (e03.trans e4), Da.ex e4 _ hxa, hgnl, gg, by omega, by omega, fun H5 v' d' e5 hv' hok' => ?_⟩
                  refine ⟨by show 1 ≤ sizeLine; decide, fun t6 n6 => ?_⟩
                  generalize hq6 : upd H5 t6 _ = H6
                  obtain ⟨e6, h6⟩ := gen1 hq6 n6
                  refine cat_L ((e5.trans e6) _ _ h4) h6 (by rw [List.length_take]; show _ + 1 ≤ _; omega) fun t7 H7 e7 h7 => ?_
                  have e37 := ((e4.trans e5).trans e6).trans e7
                  refine ⟨_, rfl, _, rfl, .inl ⟨_, _, rfl, rfl, ((j + 1 : Nat) : Int), rfl, sl_fromG (j := j + 1) (e37 _ _ hp3) fun t8 H8 e8 h8 => ?_⟩⟩
                  refine cat_L (e8 _ _ h7) h8 (by rw [List.length_append, List.length_take, List.length_drop]; show _ + 1 + _ ≤ _; omega) fun t9 H9 e9 h9 => ?_
                  have e39 := (e37.trans e8).trans e9
                  have hmo := mid_one hgj
                  have hwm : wds ((ds.drop j).take 1) = wd g + 2 := by rw [hmo]; rfl
                  have hw' := hok'.2.2
                  have hk := mid_ok (n := PyData.depthAll ds + 8) (W := 2 * wds ds + 3900003) (ds := ds) (es := [d']) (j := j) g1 (by omega) (fun e he => by
                    have : e = d' := by simpa using he
                    rw [this]
                    exact ⟨hok'.1, Nat.le_trans hok'.2.1 (by omega)⟩) (by show wds ds + (wd d' + 2 + 0) ≤ _ + wds ((ds.drop j).take 1); rw [hwm]; omega)
                  exact ends e39 h9 ((((it e39).take j).app (.cons (bn_mv (e03.trans e4) (((e6.trans e7).trans e8).trans e9) hv') .nil)).app ((it e39).drop (j + 1))) hk
end
end Own

namespace Own
open PySem PySem.Spec PyProof.Rows L2
/-! ### xs.count(x), flat items -/
section
variable {X : Cx}
def rCountF (K : PySem.W.Frag) : V → List V → Hp → VK → Prop := fun x xs H Q => ∃ (a : Addr) (ys : List V) (y : V), x = V.ref a ∧ xs = [y] ∧ SqL K H a ys ∧ flatV y = true ∧ ys.all flatV = true ∧ Q (.int ((ys.countP fun z => eqV z y : Nat) : Int)) H
theorem count_vals {ys : List V} {its : List Value} (y : V) (r : Vals ys its) (f : ys.all flatV = true) (e : ∀ {z : V} {u : Value}, RelV z u → flatV z = true → eqU y u = eqV z y) : its.countP (eqU y) = ys.countP fun z => eqV z y := by
  induction r with
  | nil => rfl
  | @cons z u zs us h t ih =>
    rw [List.all_cons, Bool.and_eq_true] at f
    rw [List.countP_cons, List.countP_cons, ih f.2, e h f.1]
theorem mt_countF : MtR X "list.count" (rCountF X.K) := by
  intro pins s σ H x xs v us Q I rx rxs h
  obtain ⟨a, ys, y, rfl, rfl, hs, fy, fys, q⟩ := h
  cases rx
  cases rxs with
  | cons ry rt =>
    rename_i uy ut
    cases rt
    obtain ⟨its, rv, ⟨⟨cls, dd, data, sl⟩, n, ho, hc, hdn, hd⟩, hlen⟩ := I.list hs
    simp only at hc hd
    subst hc hd
    refine call_meets PySem.F.slot_list_count ⟨_, ho, rfl⟩ PySem.F.entry_list_count (PySem.F.args_list_count_2 _ _)
      (SeqAt.list_countAt a its.toArray n dd sl uy (eqU y)) ⟨ho, fun u' hu' => mem_eqAt ry fy rv fys u' (by simpa using hu'), ?_⟩
    have ec : its.toArray.toList.countP (eqU y) = ys.countP fun z => eqV z y := count_vals y rv fys fun h f => eqU_of h f
    refine ⟨.int ((ys.countP fun z => eqV z y : Nat) : Int), H, I.tok _, ⟨s.toks, ?_⟩, q⟩
    show Value.int ((its.toArray.toList.countP (eqU y) : Nat) : Int) s.toks = Value.int ((ys.countP fun z => eqV z y : Nat) : Int) s.toks
    rw [ec]
end
end Own

namespace Own
open PySem PySem.Spec PyProof.Rows L2 Evl
/-! ### as in Own22; what is let out is let out where the slots stand -/
section
variable {X : Cx} {pk : List (Addr × Obj)} {τ : L2.St} {H : Hp} {s : Shared}
theorem pe_actS {N : List Str} {q : Str} {sg lsc : Scope} {g f c : Addr} {cdg pm ctv : Value} {params : Arguments} {body : Expr} {k i : Nat} {a : Str} {pn : List (Addr × Obj)} {xe : Value → Shared → Prop} {W : WX} {tb : XK → TE} {p1 p2 : Pos}
    (I : Inv X pk τ H s) (L : LamX.LamS X.env.scope lsc) (at_ : s.heap.get? f = some (PySem.W.kla_obj "<lambda>" (X.env.qual ++ "<lambda>") params body lsc (cloFrom X.env.cells lsc.names []) pm c ctv)) (nf : H f = none) (nfr : f ∉ frs X.stack)
    (bnd : bindArgs (PySem.W.kla_fn "<lambda>" (X.env.qual ++ "<lambda>") params body lsc (cloFrom X.env.cells lsc.names []) pm (.ref c) ctv) ⟨[], []⟩ = pure [])
    (tk : L2N.Takes ((gotC X N q sg g cdg s H).tr pn xe) W) (hr : Room (k + 1) (X.A.deeper (envOfC q sg s.heap.objs.size g cdg))) (hG : X.A.guards = some [])
    (hbody : ∀ (A : Around) (outer : List Env) (t : Shared) (G : Hp) (E : XK), Room k (A.deeper (LamX.lamEnv X lsc t.heap.objs.size f c)) → A.guards = some [] → PE (lamC X A outer t G E lsc f c) body (tb E))
    (hN : N[i]? = some a) (vis : Vis sg a) (d1 : (a == ("__debug__" : Str)) = false := by decide) (d2 : (a == ("__classdict__" : Str)) = false := by decide) :
    PE ((gotC X N q sg g cdg s H).tr pn xe) (.Call (.Name a p1) [] [] p2) (fun σZ HZ Q => σZ[i]? = some (some (.ref f)) ∧ HZ c = some (LamX.CodeO c (X.env.qual ++ "<lambda>")) ∧ tb (WE W σZ) τ HZ Q) := by
  constructor
  rintro pkZ sZ σZ HZ Q IZ ⟨hs, hc, ht⟩
  generalize hE : WE W σZ = E at ht
  refine wpAny_Call_Name_kw (thn ((pe_var (pos := p1) (i := i) hN vis d1 d2).run pkZ sZ σZ HZ (fun v H1 => v = .ref f ∧ H1 = HZ) IZ ⟨.ref f, hs, rfl, rfl⟩) fun u t ⟨v, H1, I1, r1, ev, eH⟩ => ?_)
  subst ev eH
  obtain rfl : u = Value.ref f := r1
  have here := I1.base.keep f _ at_ nf nfr fun z => nomatch (show f ∈ ([] : List Addr) from z)
  refine PySem.W.callWith_F0 ⟨_, _, _, _, here⟩ ?_
  obtain ⟨⟨oc, vs, tkn, hoc, hdc, hvc⟩, _, _⟩ := I1.hok c _ hc
  have run : codeAny (model X.prog X.w) (X.A.deeper (envOfC q sg s.heap.objs.size g cdg)) (.call (.ref f) ⟨[], []⟩) (CR (L2N.CX X.prog X.w) (envOfC q sg s.heap.objs.size g cdg :: X.stack) X.prog X.w H1 t Q E) t := by
    refine PySem.W.kla_callFunE hr.depth here rfl L.co L.gen rfl ⟨c, oc, vs, tkn, rfl, hoc, hdc, hvc⟩ ?_
    rw [bnd]
    refine wpAny_pure (wpAny_newFunctionEnv (fun y hy => (L.own y hy).2) (fun y hy => absurd hy (by simp)) (fun h1 hns sb => ⟨I1.nolimit.fresh _ sb, ?_⟩) L.kind)
    show codeAny _ _ (.expr body (LamX.lamEnv X lsc t.heap.objs.size f c)) _ _
    have J := LamX.lam_start2 (A := X.A.deeper (envOfC q sg s.heap.objs.size g cdg)) (outer := envOfC q sg s.heap.objs.size g cdg :: X.stack) (E := E) (f := f) (c' := c) (tk := t.toks + ([] : List (Str × Value)).length) I L I1.env0 hr.hd I1.base hns fun b o e => sb.extBut b o (Nat.ne_of_lt (Heap.lt_size e)) (Heap.get?_push_of_some _ e)
    have J2 := J.toTry fun e s' => wpAny (model X.prog X.w) ((X.A.deeper (envOfC q sg s.heap.objs.size g cdg)).deeper (LamX.lamEnv X lsc t.heap.objs.size f c)) (leaving (LamX.lamEnv X lsc t.heap.objs.size f c) e) (fun _ t' => L2N.CX X.prog X.w (envOfC q sg s.heap.objs.size g cdg :: X.stack) H1 t E e t') (fun e' t' => L2N.CX X.prog X.w (envOfC q sg s.heap.objs.size g cdg :: X.stack) H1 t E e' t') s'
    refine PySem.W.kla_codeExpr (wpAny_mono ((hbody _ _ t H1 E (hr.deeper _) hG).run [] _ _ H1 Q J2 ht) (fun v s' hq => ?_) fun e s' hq => hq)
    obtain ⟨w', H', J', rv, qq⟩ := hq
    exact ⟨w', H', J'.os, J'.bare, J'.base, J'.hok, rv, qq⟩
  have hx := L2N.passAt tk σZ
  rw [hE] at hx
  refine wpAny_call (codeAny_mono run fun r s' hq => ?_)
  cases r with
  | error e => exact hx pkZ H1 t e s' I1 hq
  | ok fl =>
    cases fl with
    | ret u => exact I1.after hq
    | next => exact False.elim hq
    | brk => exact False.elim hq
    | cont => exact False.elim hq
/-- a def that calls what it is given: TT is what it makes of that -/
structure GivesS (P : Program) (w : World) (K : PySem.W.Frag) (mg : Str → Option Value) (base : Heap) (k : Nat) (N : List Str) (x : Str) (sg : Scope) (g : Addr) (cdg : Value) (bg : List Stmt) (a q : Str) (TT : (XK → Hp → VK → Prop) → Hp → VK → Prop) : Prop where
  run : ∀ (A : Around) (outer : List Env) (f c : Addr) (s : Shared) (H : Hp) (Q : VK) (tl : XK → Hp → VK → Prop), Room k (A.deeper (envOfC x sg s.heap.objs.size g cdg)) → A.guards = some [] →
    (∀ (W : WX) (pn : List (Addr × Obj)) (xe : Value → Shared → Prop) (p1 p2 : Pos), L2N.Takes ((cxOf CX0 P w K mg base N x sg g cdg A outer s H E0).tr pn xe) W →
      PE ((cxOf CX0 P w K mg base N x sg g cdg A outer s H E0).tr pn xe) (.Call (.Name a p1) [] [] p2) (fun σZ HZ Q => σZ[0]? = some (some (.ref f)) ∧ HZ c = some (LamX.CodeO c q) ∧ tl (WE W σZ) HZ Q)) →
    H c = some (LamX.CodeO c q) → TT tl H Q →
    ∃ t, PSs (cxOf CX0 P w K mg base N x sg g cdg A outer s H E0).nox bg t ∧ t { nx := fun _ H' => Q .non H', rt := Q } (L2.start N [.ref f]) H
/-- x(lambda: body) -/
theorem pe_lamS {T : List (Addr × Str)} {TT : (XK → Hp → VK → Prop) → Hp → VK → Prop} {x a : Str} {g c P : Addr} {k : Nat} {pg : Arguments} {bg : List Stmt} {sg : Scope} {dV kV doc pm cdv ct oc : Value} {an od : Option Addr} {osl : Array (Option Value)} {N : List Str}
    {params : Arguments} {body : Expr} {lsc : Scope} {t : XK → TE} {p lpos pos : Pos} (hg : Gl X x) (hm : X.mg x = some (.ref g)) (hk : PySem.W.keepIn X.K (.ref g) = true)
    (lk : X.K.lookup g = some ⟨oc, od, .func (PySem.W.fnOf x x pg bg sg dV kV doc pm an cdv ct), osl⟩) (hcg : PySem.W.codeIn X.K cdv x = true) (hb : Binds X.K (PySem.W.fnOf x x pg bg sg dV kV doc pm an cdv ct) [a] []) (Sg : FnScope N [a] sg) (hN : N[0]? = some a) (va : Vis sg a)
    (give : GivesS X.prog X.w X.K X.mg X.base (k + 1) N x sg g cdv bg a (X.env.qual ++ "<lambda>") TT) (TB : LamX.TabB X.base X.mg c P) (hcode : X.env.code = .ref c) (inT : (P, X.env.qual ++ "<lambda>") ∈ T) (one : ∀ z ∈ T, z.1 = P → z.2 = X.env.qual ++ "<lambda>")
    (hr : Room (k + 2) X.A) (hG : X.A.guards = some []) (L : LamX.LamS X.env.scope lsc) (nodf : defaultsOf params X.env = ([], []))
    (bnd : ∀ (q : Str) (cl : List (Str × Addr)) (pm cv ctv : Value), bindArgs (PySem.W.kla_fn "<lambda>" q params body lsc cl pm cv ctv) ⟨[], []⟩ = pure [])
    (hbody : ∀ (A : Around) (outer : List Env) (s : Shared) (H : Hp) (E : XK) (f c : Addr), Room k (A.deeper (LamX.lamEnv X lsc s.heap.objs.size f c)) → A.guards = some [] → PE (lamC X A outer s H E lsc f c) body (t E))
    (d0 : (x == ("__debug__" : Str)) = false := by decide) (d1 : (a == ("__debug__" : Str)) = false := by decide) (d2 : (a == ("__classdict__" : Str)) = false := by decide) :
    PE X (.Call (.Name x p) [.Lambda params body lsc lpos] [] pos) (LamX.tLam T TT t) := by
  constructor
  rintro pk s τ H Q I ⟨hT, h⟩
  refine wpAny_Call_Name_kw (ld_glob I hg hm ?_ d0)
  refine PySem.W.callWith_K (h₀ := X.base) I.ok.mod.kin hk ?_ (by rfl) (by rfl)
  show wpAny _ _ (spliced ((false, eval (.Lambda params body lsc lpos) X.env) :: backTo pos (starEach [] X.env))) _ _ s
  refine Calls.spliced_cons (LamX.lam_make2 I TB hcode inT one hT nodf (L.has I.ok) fun f c' pm' ctv H1 t' I1 eN T1 hf hfn hfr hco => ?_)
  refine Calls.spliced_nil ⟨I1.kIn, ?_⟩
  have run : codeAny (model X.prog X.w) X.A (.call (.ref g) ⟨[.ref f], []⟩) (CR CX0 X.stack X.prog X.w H1 t' Q E0) t' := by
    refine LamX.run_ofS (N := N) (ps := [a]) (us := [.ref f]) (vs := [.ref f]) lk hcg Sg hr I1.env0 (hb t' [.ref f] I1.kIn rfl) (.cons rfl .nil) rfl fun hr' => ?_
    obtain ⟨u, hu, q⟩ := give.run X.A X.stack f c' t' H1 Q (fun E H' Q' => t E τ H' Q') hr' hG (fun W pn xe p1 p2 tk => pe_actS (i := 0) I1 L hf hfn hfr (bnd _ _ _ _ _) tk hr' hG (fun A outer s H E hr2 hg2 => hbody A outer s H E f c' hr2 hg2) hN va d1 d2) hco (h H1 eN T1)
    exact ⟨u, hu.nox, q⟩
  refine wpAny_call (codeAny_mono run fun r s2 hq => ?_)
  cases r with
  | error e => exact (show False from hq).elim
  | ok fl =>
    cases fl with
    | ret u => exact I1.after hq
    | next => exact False.elim hq
    | brk => exact False.elim hq
    | cont => exact False.elim hq
end
section
variable {P : Program} {w : World} {K : PySem.W.Frag} {mg : Str → Option Value} {base : Heap}
/-- as fn_mk, for a def whose code object is known -/
theorem fn_mkC {x : Str} {cc : Value} {f : Addr} {fd : FuncData} {st : Stmt} {N ps : List Str} {k : Nat} {sp : Sp} (hcc : fd.code = cc) (F : Fun K x x st f fd) (S : FnScope N ps (defScope st))
    (len : ∀ vs H Z EE, sp vs H Z EE → vs.length = ps.length)
    (hbody : ∀ (A : Around) (outer : List Env) (s : Shared) (H : Hp) (vs : List V) (Z : VK) (EE : XK), Room k (A.deeper (envOfC x (defScope st) s.heap.objs.size f cc)) → (A.deeper (envOfC x (defScope st) s.heap.objs.size f cc)).guards = some [] → sp vs H Z EE →
      ∃ t, PSs (cxOf CX0 P w K mg base N x (defScope st) f cc A outer s H EE).nox (defBody st) t ∧ t { nx := fun _ H' => Z .non H', rt := Z } (start N vs) H) : FnG P w K mg base (k + 1) f fd ps sp := by
  obtain ⟨oc, od, kV, doc, pm, an, cdv, ct, sl, rfl, lkp, hcd⟩ := F.ex
  have hcc : cdv = cc := hcc
  subst hcc
  refine ⟨len, fun A outer s H args us vs Z EE hr hg e0 hbt r hsp => ?_⟩
  have body : ∀ (A : Around) (outer : List Env) (s : Shared) (H : Hp) (vs : List V) (Z : VK) (EE : XK), Room k (A.deeper (envOfC x (defScope st) s.heap.objs.size f cdv)) → A.guards = some [] → sp vs H Z EE →
      ∃ t, PSs (cxOf CX0 P w K mg base N x (defScope st) f cdv A outer s H EE) (defBody st) t ∧ t { nx := fun _ H' => Z .non H', rt := Z } (start N vs) H := fun A outer s H vs Z EE hr hg hsp => by
    obtain ⟨t, h, q⟩ := hbody A outer s H vs Z EE hr hg hsp
    exact ⟨t, h.nox, q⟩
  have hlen := len _ _ _ _ hsp
  have KI : K.In s.heap := e0.mod.kin.keeps fun b o e => (e0.bs b o e).1
  have nlm : s.heap.NoLimit := e0.mod.nolimit.keeps fun b o e => (e0.bs b o e).1
  have hkind : ∀ y ∈ ps.zip us, (defScope st).names.lookup y.1 = some .local ∨ ((defScope st).names.lookup y.1 = some .cell ∧ ((cellsFrom (s.heap.objs.size + 1) (defScope st).names []).lookup y.1).isSome = true) := fun ⟨n, v⟩ hyy => by
    rcases S.par n (List.of_mem_zip hyy).1 with q | q
    · exact .inl q
    · exact .inr ⟨q, PySem.W.cellsFrom_some _ _ _ (.inl q)⟩
  refine codeAny_call_function hr.depth (KI _ _ lkp) rfl S.co S.gen rfl (PySem.W.codeRec_of KI hcd) (hbt _ _ _ _ ?_)
  refine wpAny_newFunctionEnv_cells S.kind hkind fun env hes st1 xx => ?_
  subst hes
  refine ⟨nlm.keeps xx.toInCall.keep, codeAny_func ?_⟩
  obtain ⟨t, ht, hsq⟩ := body A outer s H vs Z EE (hr.deeper _) hg hsp
  have I : Inv (cxOf CX0 P w K mg base N x (defScope st) f cdv A outer s H EE) [] (start N vs) H st1 := inv_start S hr.hd e0 hlen r xx
  refine wpAny_mono (ht.run [] st1 (start N vs) H _ I hsq) (fun fl s' hst => ?_) fun e s' hst => hst
  have ready : ∀ {τ' : L2.St} {H' : Hp} {v : V} {u : Value}, Inv (cxOf CX0 P w K mg base N x (defScope st) f cdv A outer s H EE) [] τ' H' s' → RelV v u → Z v H' → CE outer P w H s Z u s' :=
    fun {τ' H' v u} J rv q => ⟨v, H', J.os, J.bare, J.base, J.hok, rv, q⟩
  cases fl with
  | ret u =>
    obtain ⟨v, τ', H', J, rv, q⟩ := hst
    exact ready J rv q
  | next =>
    obtain ⟨τ', H', J, q⟩ := hst
    exact ready (v := V.non) (u := Value.none) J rfl q
  | brk =>
    obtain ⟨_, _, _, q⟩ := hst
    exact False.elim q
  | cont =>
    obtain ⟨_, _, _, q⟩ := hst
    exact False.elim q
end
/-! ### what is kept where only the tables change -/
mutual
theorem Da.nx {H H' : Hp} (e : LamX.ExtN H H') : ∀ (d : PyData) {v : V}, Da H v d → Da H' v d
  | .none, _, h => by cases h; exact .non
  | .bool _, _, h => by cases h; exact .bl _
  | .int _, _, h => by cases h; exact .int _
  | .str _, _, h => by cases h; exact .str _
  | .list ds, _, h => by cases h with | lst h1 h2 => exact .lst (e _ _ h1 (fun ps z => by cases z)) (DaAll.nx e ds h2)
  | .tuple ds, _, h => by cases h with | tup h1 h2 => exact .tup (e _ _ h1 (fun ps z => by cases z)) (DaAll.nx e ds h2)
  | .dict _, _, h => by cases h with | dct h1 h2 => exact .dct (e _ _ h1 (fun ps z => by cases z)) h2
theorem DaAll.nx {H H' : Hp} (e : LamX.ExtN H H') : ∀ (ds : List PyData) {vs : List V}, DaAll H vs ds → DaAll H' vs ds
  | [], _, h => by cases h; exact .nil
  | d :: ds, _, h => by cases h with | cons h1 h2 => exact .cons (Da.nx e d h1) (DaAll.nx e ds h2)
end
theorem tabs_ex {T : List (Addr × Str)} {H H' : Hp} (e : Ex H H') (h : LamX.Tabs T H) : LamX.Tabs T H' := fun p hp => (h p hp).ext fun b o q => e b o q
end Own

namespace Own
open PySem PySem.Spec PyProof.Rows L2 Evl
/-! ### classes and methods that may raise, the error's context being told to be None -/
/-- a class whose instances are made by an __init__ with sp that may raise -/
structure MakN (P : Program) (w : World) (K : PySem.W.Frag) (mg : Str → Option Value) (base : Heap) (k : Nat) (x : Str) (C : Addr) (sp : Sp) : Prop where
  at_ : mg x = some (.ref C)
  ex : ∃ (f : Addr) (fd : FuncData) (ps : List Str), FnN P w K mg base k f fd ps sp ∧ Mk K C f ∧ Binds K fd ps []
/-- a method with sp that may raise -/
structure MetN (P : Program) (w : World) (K : PySem.W.Frag) (mg : Str → Option Value) (base : Heap) (k : Nat) (C : Addr) (m : Str) (sp : Sp) : Prop where
  cl : Cls K C
  ex : ∃ (f : Addr) (fd : FuncData) (ps : List Str), FnN P w K mg base k f fd ps sp ∧ Meth K C m f ∧ Binds K fd ps []
section
variable {X : Cx} {pk : List (Addr × Obj)} {τ : L2.St} {H : Hp} {s : Shared} {k j : Nat} {sp : Sp} {f C : Addr} {fd : FuncData} {ps : List Str} {Z : VK} {us : List Value} {vs : List V} {x m : Str} {p pos apos : Pos} {e o : Expr} {es : List Expr} {t : TA} {ta : TE} {E : L2.St → XK}
theorem run_mkN (M : Mk X.K C f) (F : FnN X.prog X.w X.K X.mg X.base k f fd ps sp) (hr : Room (k + 1) X.A) (hg : X.A.guards = some []) (hbd : Binds X.K fd ps []) (hx : PassesAt (L2N.CX X.prog X.w) X τ (E τ)) (I : Inv X pk τ H s) (r : Vals vs us)
    (h : ∀ y d, H y = none → H d = none → d ≠ y → sp (.ref y :: vs) (upd (upd H d (.own y)) y (.ins C d [])) (fun v H2 => v = .non ∧ Z (.ref y) H2) (E τ)) : wpAny (model X.prog X.w) X.A (call (.ref C) us) (EP X pk τ Z) X.xe s := by
  have q0 := h (s.heap.objs.size + 1) s.heap.objs.size (I.hok.fresh (Nat.le_succ _)) (I.hok.fresh (Nat.le_refl _)) (Nat.ne_of_lt (Nat.lt_succ_self _))
  have J := Inv.made (C := C) I
  have rr : Vals (V.ref (s.heap.objs.size + 1) :: vs) (Value.ref (s.heap.objs.size + 1) :: us) := .cons rfl r
  have hl : ((Value.ref (s.heap.objs.size + 1) :: us) ++ []).length = ps.length := by
    rw [List.append_nil, ← rr.length]
    exact F.len _ _ _ _ q0
  have hb := hbd _ (Value.ref (s.heap.objs.size + 1) :: us) J.kIn hl
  rw [List.append_nil] at hb
  have run := F.run (X.A.under (.builtin "type.__call__" ⟨.ref C :: us, []⟩)) X.stack _ _ ⟨Value.ref (s.heap.objs.size + 1) :: us, []⟩ _ _ _ (E τ) (hr.make C us []) hg (J.env0.make C us []) hb rr q0
  refine wpAny_call (make_map (f := f) I.kIn M.makes M.init (beq_iff_eq.mp M.fn) (codeAny_mono run fun res s' hsq => ?_))
  match res, hsq with
  | .error e, hsq => exact hx pk _ _ e s' J hsq
  | .ok (.ret u), hsq =>
    obtain ⟨v, H4, J4, rv, ev, q4⟩ := J.after hsq
    subst ev
    exact ⟨rv, ⟨V.ref (s.heap.objs.size + 1), H4, J4, rfl, q4⟩⟩
  | .ok .next, hsq => exact False.elim hsq
  | .ok .brk, hsq => exact False.elim hsq
  | .ok .cont, hsq => exact False.elim hsq
theorem pe_mkN (c : MakN X.prog X.w X.K X.mg X.base k x C sp) (hr : Room j X.A) (hg0 : X.A.guards = some []) (hkp : k + 1 ≤ j) (hx : ∀ σ, PassesAt (L2N.CX X.prog X.w) X σ (E σ)) (hg : Gl X x) (ha : PA X (e :: es) t)
    (hdb : (x == ("__debug__" : Str)) = false := by decide) (hes : starEach (e :: es) X.env = (false, eval e X.env) :: starEach es X.env := by rfl) (hpl : (backTo pos (starEach es X.env)).any (·.1) = false := by rfl) :
    PE X (.Call (.Name x p) (e :: es) [] pos) (tMakeX C sp E t) := by
  obtain ⟨f, fd, ps, F, M, b⟩ := c.ex
  refine ⟨fun pk s τ H Z I h => ?_⟩
  refine wpAny_Call_Name_kw (ld_glob I hg c.at_ ?_ hdb)
  refine PySem.W.callWith_K (h₀ := X.base) I.ok.mod.kin M.kp (thn (ha.run pos pk s τ H _ I h) fun us st1 ⟨vs, H1, I1, r, q⟩ => ⟨I1.kIn, ?_⟩) hes hpl
  exact run_mkN M F (hr.mono hkp) hg0 b (hx τ) I1 r q
theorem pe_mtN {pl : Sem Bool} (c : MetN X.prog X.w X.K X.mg X.base k C m sp) (he : PE X o ta) (hr : Room j X.A) (hg0 : X.A.guards = some []) (hkp : k ≤ j) (hx : ∀ σ, PassesAt (L2N.CX X.prog X.w) X σ (E σ)) (ha : PA X (e :: es) t)
    (hes : starEach (e :: es) X.env = (false, eval e X.env) :: starEach es X.env := by rfl) (hpl : (backTo pos (starEach es X.env)).any (·.1) = false := by rfl)
    (hte : eval (.Call (.Attribute o m apos) (e :: es) [] pos) X.env = (do
      let ov ← eval o X.env
      standAt apos.atName
      let (g, first) ← holding [ov] (getMethod ov m pl)
      callWith pos g first (backTo pos (starEach (e :: es) X.env)) (backToKw pos (keywordEach [] X.env))) := by rfl) :
    PE X (.Call (.Attribute o m apos) (e :: es) [] pos) (tMethX C m sp E ta t) := by
  obtain ⟨f, fd, ps, F, M, b⟩ := c.ex
  refine ⟨fun pk s τ H Z I h => PySem.W.methodCall_KW (pl := pl) (thn (he.run pk s τ H _ I h) fun u st1 ⟨y, H1, I1, ry, a, d, fs, ey, ea, l, q⟩ => ?_) hte⟩
  subst ey
  have eu : u = Value.ref a := ry
  subst eu
  refine getmeth_ok I1 ea c.cl M l ?_
  refine PySem.W.callWith_K (first := [.ref a]) (h₀ := X.base) I1.ok.mod.kin M.kp (thn (ha.run pos pk st1 τ H1 _ I1 q) fun us st2 ⟨vs, H2, I2, r, q2⟩ => ⟨I2.kIn, ?_⟩) hes hpl
  exact run_fnN (us := .ref a :: us) (vs := .ref a :: vs) F (hr.mono hkp) hg0 b (hx τ) I2 (.cons rfl r) q2
end
end Own

namespace Own
open PySem PySem.Spec PyProof.Rows L2
open AutoSeq1 (wpAny_loadPart')
/-! ### enumerate(tuple) -/
theorem meets_enumerate_newT (l : Addr) (items : Array Value) (n : Nat) (dct : Option Addr) (sl : Array (Option Value)) :
    Meets (Builtin.«enumerate.__new__» ⟨[.type "enumerate", .ref l], []⟩) (fun _ R s => s.heap.get? l = some { cls := .type "tuple", dict := dct, data := .seq items n, slots := sl } ∧
      R (.ok (.ret (.ref (s.heap.push { cls := .type "tuple_iterator", data := .fields #[.ref l, .int 0 0] }).objs.size)))
        { s with heap := (s.heap.push { cls := .type "tuple_iterator", data := .fields #[.ref l, .int 0 0] }).push { cls := .type "enumerate", data := .fields #[.none, .bool false, .ref s.heap.objs.size, rawInt 0, .none, .none] } }) :=
  .of_wp fun prog w A R s h => by
    obtain ⟨hp, g, d, tk, os⟩ := s; obtain ⟨hl, h⟩ := h
    have hsub := sub_enumerate
    have hL : Heap.IsTuple (Shared.heap ⟨hp, g, d, tk, os⟩) l items := ⟨_, hl, rfl, n, rfl⟩
    wp_walk using wpAny_loadPart' hl
    refine wpAny_stack_any fun st => wpAny_pure ?_
    split
    · rename_i c _ _ _ _ _
      cases (c == Value.type "enumerate")
      · wp_walk using wpAny_loadPart' hl, wpAny_pyIter_tuple hL
        exact ⟨_, rfl, h⟩
      · wp_walk using wpAny_loadPart' hl, wpAny_pyIter_tuple hL
        exact ⟨_, rfl, h⟩
    · wp_walk using wpAny_loadPart' hl, wpAny_pyIter_tuple hL
      exact ⟨_, rfl, h⟩
section
variable {prog : Program} {w : World} {A : Around} {E : Value → Shared → Prop} {s : Shared}
theorem call_enumerate_tuple {l : Addr} {items : Array Value} {Q : Value → Shared → Prop} (hL : s.heap.IsTuple l items)
    (h : ∀ h', IsEnum h' (s.heap.objs.size + 1) s.heap.objs.size 0 .none → h'.IsTupleIter s.heap.objs.size l 0 → h'.objs.size = s.heap.objs.size + 2 →
      (∀ b o, s.heap.get? b = some o → h'.get? b = some o) → Q (.ref (s.heap.objs.size + 1)) { s with heap := h' }) :
    wpAny (model prog w) A (call (.type "enumerate") [.ref l]) Q E s := by
  obtain ⟨⟨c, dct, dt, sl⟩, hl, hc, n, hd⟩ := hL
  replace hc : c = .type "tuple" := hc
  replace hd : dt = .seq items n := hd
  subst hc hd
  refine callType_new F.called_enumerate (by decide) (F.typeCall_enumerate_1 _) (F.newCall_enumerate_1 _) (fun obj => F.args_object_init_2 obj _) F.entry_enumerate_new
    (meets_enumerate_newT l items n dct sl) ⟨hl, ?_⟩
  have hz : (s.heap.push { cls := .type "tuple_iterator", data := .fields #[.ref l, .int 0 0] }).objs.size = s.heap.objs.size + 1 := Heap.size_push ..
  show _ ∧ _
  rw [hz]
  have he : IsEnum ((s.heap.push { cls := .type "tuple_iterator", data := .fields #[.ref l, .int 0 0] }).push
      { cls := .type "enumerate", data := .fields #[.none, .bool false, .ref s.heap.objs.size, rawInt 0, .none, .none] }) (s.heap.objs.size + 1) s.heap.objs.size 0 .none := by
    have := Heap.get?_push_size (s.heap.push { cls := .type "tuple_iterator", data := .fields #[.ref l, .int 0 0] })
      (o := { cls := .type "enumerate", data := .fields #[.none, .bool false, .ref s.heap.objs.size, rawInt 0, .none, .none] }) rfl
    rw [hz] at this; exact this
  refine ⟨⟨_, he, rfl⟩, h _ he ⟨_, Heap.get?_push_of_some _ (Heap.get?_push_size _ rfl), rfl, rfl⟩ (by rw [Heap.size_push, hz]) fun b o x => Heap.get?_push_of_some _ (Heap.get?_push_of_some _ x)⟩
end
/-- the tuple at a, each item in a new pair -/
def IteT (K : PySem.W.Frag) (a : Addr) : It :=
  ⟨fun i H => ∃ (xs : List V) (x : V), SqT K H a xs ∧ xs[i]? = some x, fun i H v H' => ∃ T x, v = .ref T ∧ H T = none ∧ H' = upd H T (.tup [.int (i : Nat), x]) ∧ ∀ xs, SqT K H a xs → xs[i]? = some x, fun i H => ∃ xs : List V, SqT K H a xs ∧ xs.length ≤ i⟩
theorem turn_enumT {P : Program} {w : World} {K : PySem.W.Frag} {elts : List Expr} {kk : Nat} {tpos : Pos} (a e it : Addr) :
    Turn P w K (.Tuple elts kk tpos) (IteT K a) [e, it] e (fun i h => (∃ old, IsEnum h e it ((i : Nat) : Int) old) ∧ h.IsTupleIter it a i ∧ e ≠ it ∧ e ≠ a ∧ a ≠ it) where
  mem := by simp
  obj := fun i h st b hb => by
    obtain ⟨⟨old, he⟩, ⟨o, ho, hc, hd⟩, _⟩ := st
    have e' : b = e ∨ b = it := by simpa using hb
    rcases e' with z | z
    · rw [z]; exact ⟨_, he, fun v q => nomatch q⟩
    · rw [z]; exact ⟨o, ho, fun v q => by rw [hd] at q; cases q⟩
  keep := fun i h h' st k => let ⟨⟨old, he⟩, hi, hne⟩ := st; ⟨⟨old, k e (by simp) _ he⟩, hi.at fun o q => k it (by simp) o q, hne⟩
  item := by
    intro X hP hw hK hc i pins s σ H E I hf st hg
    subst hP hw hK
    obtain ⟨⟨old, he⟩, hit, hne, hea, hai⟩ := st
    obtain ⟨xs, x, hq, hx⟩ := hg
    obtain ⟨its, rv, p, hz⟩ := I.tuple hq
    obtain ⟨u, hu, ru⟩ := rv.get hx
    have hel : e < s.heap.objs.size := Heap.lt_size he
    have hil : it < s.heap.objs.size := by obtain ⟨_, q, _⟩ := hit; exact Heap.lt_size q
    have hlt : i < its.toArray.size := by
      have := (List.getElem?_eq_some_iff.mp hu).1
      simpa using this
    have D : Draws X.prog X.w X.A.in1 it [it, a] its.toArray.size (fun i v => its.toArray[i]? = some v) (fun i h => h.IsTupleIter it a i ∧ h.IsTuple a its.toArray) := Draws.tuple (A := X.A.in1) (show X.A.in1.handled = none from I.ok.hd hc) it a hai its.toArray
    refine wpAny_pyNext_enum_itemD D he ⟨hit, p⟩ hlt hne (by simp [hne, hea]) fun u' h' tk hu' ho hst' hT hsz hk => ?_
    have eu : u' = u := by
      have h1 : its[i]? = some u' := by simpa using hu'
      rw [hu] at h1
      exact (Option.some.inj h1).symm
    subst eu
    have hit' := hst'.1
    refine ⟨_, rfl, wpAny_letOwnedTupleGo_enum (s := { s with heap := h', toks := tk + 1 }) ho fun h'' he' sb => ?_⟩
    have hT2 : h''.get? s.heap.objs.size = some { cls := .type "tuple", data := .seq #[.int i tk, u'] } := (sb.2 _ (Nat.ne_of_gt hel)).trans hT
    have new : ObjOk X.prog X.w (upd H s.heap.objs.size (.tup [.int (i : Nat), x])) h'' s.heap.objs.size (.tup [.int (i : Nat), x]) :=
      ⟨by show 2 ≤ sizeLine; decide, [.int i tk, u'], .cons ⟨_, rfl⟩ (.cons ru .nil), ⟨_, hT2, rfl, _, rfl⟩⟩
    have I1 : Inv X pins σ (upd H s.heap.objs.size (.tup [.int (i : Nat), x])) { s with heap := h'', toks := tk + 1 } :=
      I.turnedNew (ch := [e, it]) (fun b ob hb q => (sb.2 b (fun z => hb (by simp [z]))).trans (hk b ob (fun z => hb (by simp [z])) (fun z => hb (by simp [z])) q)) hf (Nat.le_refl _) new
    refine ⟨.ref s.heap.objs.size, _, I1, rfl, ⟨_, x, rfl, I.hok.fresh (Nat.le_refl _), rfl, fun ys hy => by rw [I.tuple_inj hy hq]; exact hx⟩, ⟨⟨u', ?_⟩, hit'.at fun o q => (sb.2 it (Ne.symm hne)).trans q, hne, hea, hai⟩, fun b hb => ?_⟩
    · have e1 : ((i + 1 : Nat) : Int) = (i : Int) + 1 := by omega
      rw [e1]; exact he'
    · have hb' : b < s.heap.objs.size := by
        have e' : b = e ∨ b = it := by simpa using hb
        rcases e' with z | z
        · rw [z]; exact hel
        · rw [z]; exact hil
      rw [upd_ne (Nat.ne_of_lt hb')]
      exact (hf b hb).1
  done := by
    intro X hP hw hK hc i pins s σ H E I hf st hg
    subst hP hw hK
    obtain ⟨⟨old, he⟩, hit, hne, hea, hai⟩ := st
    obtain ⟨xs, hq, hx⟩ := hg
    obtain ⟨its, rv, p, hz⟩ := I.tuple hq
    obtain ⟨f0, f1, f2, f3, f4, f5⟩ := hf it (by simp)
    have hl := rv.length
    have hT : s.TypeIs (.ref e) "enumerate" := ⟨_, he, rfl⟩
    unfold pyNext
    refine wpAny_bind (wpAny_attempt (wpAny_callSpecial?_slot (name := Str.ofString "__next__") hT F.slot_enumerate_next
      (wpAny_call_entry F.slot_enumerate_next hT F.entry_enumerate_next ?_ (F.args_enumerate_next_1 _))))
    show wpAny _ _ (field (.ref e) 2 >>= _) _ _ _
    refine wpAny_bind (wpAny_field he rfl (x := .ref it) rfl ?_)
    refine wpAny_bind (wpAny_nextOf_tuple_end (I.ok.hd hc) hit p (by simp; omega) fun h' x he' hx' => ?_)
    obtain ⟨o, ho, hc⟩ := hx'
    refine wpAny_bind (wpAny_isInstance (T := "StopIteration") (b := true) ⟨o, ho, hc⟩ isSubtype_stop ?_)
    exact wpAny_pure ⟨rfl, I.turned (t' := s.toks) (fun b o hb q => he' b o hb q) f0 f1 f3 f4 f5⟩
  self := fun A i s Q E st h => let ⟨⟨_, he⟩, _⟩ := st; wpAny_pyIter_enum he h
def iEnumT (K : PySem.W.Frag) (ta : TA) : TI := fun σ H R => ta σ H fun vs H1 => ∃ a xs, vs = [.ref a] ∧ SqT K H1 a xs ∧ R (IteT K a) H1
def iEnumA (K : PySem.W.Frag) (ta : TA) : TI := fun σ H R => ta σ H fun vs H1 => (∃ a xs, vs = [.ref a] ∧ SqL K H1 a xs ∧ R (Ite K a) H1) ∨ ∃ a xs, vs = [.ref a] ∧ SqT K H1 a xs ∧ R (IteT K a) H1
theorem pi_enumA {X : Cx} {e : Expr} {ta : TA} {p pos tpos : Pos} {elts : List Expr} {kk : Nat} (hg : Gl X "enumerate") (hm : X.mg "enumerate" = none) (ha : PA X [e] ta) (hs : starEach [e] X.env = [(false, eval e X.env)] := by rfl) :
    PI X (.Tuple elts kk tpos) (.Call (.Name "enumerate" p) [e] [] pos) (iEnumA X.K ta) := by
  refine ⟨fun pins s σ H R I h => ?_⟩
  refine Call_ (ld_blt I hg hm boot_enumerate (PyProof.Rows.callWith_type1 (thn (ha.run pos pins s σ H _ I h) fun us s1 ⟨vs, H1, I1, r1, q1⟩ => ?_) hs rfl))
  rcases q1 with ⟨a, xs, ex, hq, q⟩ | ⟨a, xs, ex, hq, q⟩
  · subst ex
    cases r1 with
    | cons r rr =>
      cases rr
      cases r
      obtain ⟨its, rv, p', hz⟩ := I1.list hq
      refine call_enumerate_list p'.isList fun h' he hit hsz hk => wpAny_pyIter_enum he ?_
      have I2 : Inv X pins σ H1 { s1 with heap := h' } := I1.kept (t' := s1.toks) hk
      refine ⟨s1.heap.objs.size + 1, [s1.heap.objs.size + 1, s1.heap.objs.size], _, _, H1, rfl, I2, turn_enum a (s1.heap.objs.size + 1) s1.heap.objs.size, ⟨⟨.none, he⟩, hit, Nat.succ_ne_self _⟩, fun b hb => ?_, q⟩
      have e' : b = s1.heap.objs.size + 1 ∨ b = s1.heap.objs.size := by simpa using hb
      have hle : s1.heap.objs.size ≤ b := by
        rcases e' with z | z
        · rw [z]; exact Nat.le_add_right _ _
        · rw [z]; exact Nat.le_refl _
      exact I1.fpOk hle (I1.hok.fresh hle)
  · subst ex
    cases r1 with
    | cons r rr =>
      cases rr
      cases r
      obtain ⟨its, rv, p', hz⟩ := I1.tuple hq
      have hal : a < s1.heap.objs.size := by obtain ⟨o, ho, _⟩ := p'; exact Heap.lt_size ho
      refine call_enumerate_tuple p' fun h' he hit hsz hk => wpAny_pyIter_enum he ?_
      have I2 : Inv X pins σ H1 { s1 with heap := h' } := I1.kept (t' := s1.toks) hk
      refine ⟨s1.heap.objs.size + 1, [s1.heap.objs.size + 1, s1.heap.objs.size], _, _, H1, rfl, I2, turn_enumT a (s1.heap.objs.size + 1) s1.heap.objs.size, ⟨⟨.none, he⟩, hit, Nat.succ_ne_self _, Nat.ne_of_gt (Nat.lt_succ_of_lt hal), Nat.ne_of_lt hal⟩, fun b hb => ?_, q⟩
      have e' : b = s1.heap.objs.size + 1 ∨ b = s1.heap.objs.size := by simpa using hb
      have hle : s1.heap.objs.size ≤ b := by
        rcases e' with z | z
        · rw [z]; exact Nat.le_add_right _ _
        · rw [z]; exact Nat.le_refl _
      exact I1.fpOk hle (I1.hok.fresh hle)
theorem walk_enumT {K : PySem.W.Frag} {a : Addr} {xs : List V} : Walk (IteT K a) xs.length (fun H => SqT K H a xs) (YPair (fun i => some (.int (i : Nat))) (fun i => xs[i]?)) := by
  refine ⟨fun i _ hi q => ⟨xs, xs[i], q, by simp [hi]⟩, fun _ q => ⟨xs, q, Nat.le_refl _⟩, fun i H v H' _ q y => ?_⟩
  obtain ⟨T, x, h1, h2, h3, h4⟩ := y
  exact ⟨T, .int (i : Nat), x, h1, h2, h3, rfl, h4 xs q⟩
end Own

namespace Own
open PySem PySem.Spec PyProof.Rows L2
/-! ### repr of {0: data} -/
def zD (d : PyData) : PyData := .dict [(.int 0, d)]
def rReprZ : List V → Hp → VK → Prop := fun xs H Q => ∃ (a : Addr) (x : V) (d : PyData), xs = [.ref a] ∧ H a = some (.dK [(Sum.inl 0, x)]) ∧ Da H x d ∧ okD 38 15000000 d ∧ Q (.str (zD d).shown) H
theorem callReprZ {X : Cx} {k : Nat} (hs : SysAt X.base) (hg : X.A.guards = some []) (hr : Room k X.A) : CallR X (.builtin "repr") rReprZ := by
  intro pk s τ H xs us Q I r h
  obtain ⟨a, x, d, rfl, ha, hd, ⟨g1, g2, g3⟩, q⟩ := h
  rw [Vals.ref1 r]
  obtain ⟨hz, hsm, vs, rel, o, es, ep, ho, hex, hdat, hko, hp, hn⟩ := dk_of I.hok ha
  obtain ⟨s1, s2⟩ := shownD d g1
  have hu := hr.units
  obtain ⟨tz, ve, as, hk1, hv1, hre, hna⟩ : ∃ (t : Tok) (e : Value) (as : List Addr), es.toList.map (·.key) = [.int 0 t] ∧ es.toList.map (·.val) = [e] ∧ Reads s.heap e d as ∧ sysModules ∉ as := by
    generalize es.toList = el at hp
    match vs, rel, el, hp with
    | [u1], .cons a1 .nil, [e1], .cons c1 d1 .nil =>
      obtain ⟨b1, b2⟩ := a1
      have b1 : (Sum.inl 0 : Key) = u1.1 := b1
      obtain ⟨as, rd, hna⟩ := Da.reads I hs d x u1.2 hd b2
      rcases keyIs_shape (show keyIs u1.1 e1.key = true from c1) with ⟨i, t', e3, e4⟩ | ⟨z, t', e3, e4⟩
      · rw [← b1] at e3
        cases e3
        exact ⟨t', u1.2, as, by show [e1.key] = _; rw [e4], by show [e1.val] = _; rw [d1], rd, hna⟩
      · rw [← b1] at e3
        cases e3
  have r1 : ReadsAll s.heap (es.toList.map (·.key)) ([(PyData.int 0, d)].map (·.1)) [] := by
    rw [hk1]
    show ReadsAll s.heap [Value.int 0 tz] [PyData.int 0] ([] ++ [])
    exact ReadsAll.cons (Reads.int 0 tz) ReadsAll.nil
  have r2 : ReadsAll s.heap (es.toList.map (·.val)) ([(PyData.int 0, d)].map (·.2)) (as ++ []) := by
    rw [hv1]
    exact ReadsAll.cons hre ReadsAll.nil
  have rd : Reads s.heap (.ref a) (zD d) (a :: [] ++ (as ++ [])) := Reads.dict ho hex.1 hdat r1 r2
  have hsh : (zD d).showable = true := by
    show ((PyData.int 0).showable && d.showable && true) = true
    rw [s1]
    decide +kernel
  have hlen : (zD d).shown.length ≤ sizeLine := by
    show (dictText (PyData.shownKv [(PyData.int 0, d)])).length ≤ sizeLine
    have z := dictText_len_le (PyData.shownKv [(PyData.int 0, d)])
    have z1 : ((PyData.shownKv [(PyData.int 0, d)]).map (·.length)).sum ≤ 1921 + 2 + wd d := by
      rw [PyData.shownKv_cons, List.map_cons, List.sum_cons, strLen_append, strLen_append]
      have q1 := shown_le (.int 0) rfl (by decide +kernel)
      have q1 : (PyData.shown (.int 0)).length ≤ 1921 := q1
      have q2 : (": " : Str).length = 2 := rfl
      have q3 : ((PyData.shownKv []).map (·.length)).sum = 0 := rfl
      omega
    have z2 : (PyData.shownKv [(PyData.int 0, d)]).length = 1 := rfl
    rw [z2] at z
    refine Nat.le_trans z (Nat.le_trans (show _ ≤ 16000000 by omega) (by decide))
  refine repr_of_reads' rd hsh (fun _ hm => ?_) hg (by
      have q1 : (zD d).depth = max (max 0 d.depth) 0 + 1 := rfl
      rw [q1]
      omega) (fun _ _ e => e) (fun h' u tk hkp => ⟨.str (zD d).shown, H, I.kept (h' := h') (t' := tk) hkp, ⟨_, rfl⟩, q⟩) hlen
  have hm : sysModules ∈ a :: (as ++ []) := hm
  rw [List.append_nil] at hm
  rcases List.mem_cons.mp hm with h | h
  · rw [← h] at hsm
    exact absurd hsm (by decide)
  · exact hna h
def rReprY : List V → Hp → VK → Prop := fun xs H Q => rReprX xs H Q ∨ rReprZ xs H Q
theorem callReprY {X : Cx} {k : Nat} (hs : SysAt X.base) (hg : X.A.guards = some []) (hr : Room k X.A) : CallR X (.builtin "repr") rReprY := CallR.or (callReprX hs hg hr) (callReprZ hs hg hr)
end Own

namespace Own
open PySem PySem.Spec PyProof.Rows L2 Evl
/-! ### sets of tuples of texts, ints and such tuples -/
/-- the tuple at b is the key k -/
def NKI (h : Heap) (k : NestedKey) (b : Addr) : Prop := NestedIs h k (.ref b) ∧ k.depth ≤ 8
section
variable {P : Program} {w : World} {A : Around} {E : Value → Shared → Prop} {s : Shared} {h h' : Heap} {k : NestedKey} {b : Addr}
theorem NKI.keep (n : NKI h k b) (e : ∀ c o, h.get? c = some o → h'.get? c = some o) : NKI h' k b := ⟨NestedIs.at (fun c o _ _ g _ => e c o g) k _ n.1, n.2⟩
theorem NKI.one {k' : NestedKey} (n : NKI h k b) (n' : NKI h k' b) : k = k' := NestedIs.inj k k' _ n.1 n'.1
theorem NKI.tup (n : NKI h k b) : ∃ o vs m ks, k = .tup ks ∧ h.get? b = some o ∧ o.cls = .type "tuple" ∧ o.data = .seq vs m ∧ NestedAll h ks vs.toList := by
  obtain ⟨n, _⟩ := n
  cases n with
  | tup h1 h2 h3 h4 => exact ⟨_, _, _, _, rfl, h1, h2, h3, h4⟩
theorem NKI.same {a : Addr} {o : Obj} {es : Array (Int × Value)} {ep : Nat} {t : SetTable} (n : NKI h k b) (ho : h.get? a = some o) (hd : o.data = .set es ep t) (e : Heap.SameBut a h h') : NKI h' k b := by
  refine ⟨NestedIs.at (fun c q vs m g1 g2 => ?_) k _ n.1, n.2⟩
  rw [e.2 c (fun z => ?_)]
  · exact g1
  · rw [z, ho] at g1
    cases g1
    rw [hd] at g2
    cases g2
/-- a walk over values that asks each one thing -/
theorem ask_all {M : Model} {g : Value → Bool} {c : Bool} {body : Value → Option Bool × Unit → Sem (ForInStep (Option Bool × Unit))} {R : Option Bool × Unit → Shared → Prop} : ∀ (vs : List Value),
    (∀ v ∈ vs, ∀ R', R' (if g v = true then ForInStep.done (some c, ()) else .yield (none, ())) s → wpAny M A (body v (none, ())) R' E s) → R (if vs.any g = true then (some c, ()) else (none, ())) s → wpAny M A (forIn vs (none, ()) body) R E s
  | [], _, q => by
    rw [List.forIn_nil]
    exact wpAny_pure q
  | v :: vs, hb, q => by
    rw [List.forIn_cons]
    refine wpAny_bind (hb v List.mem_cons_self _ ?_)
    rw [List.any_cons] at q
    cases hg : g v with
    | true =>
      rw [hg, Bool.true_or, if_pos rfl] at q
      simp only [if_true]
      exact wpAny_pure q
    | false =>
      rw [hg, Bool.false_or] at q
      simp only [Bool.false_eq_true, if_false]
      exact ask_all vs (fun u hu => hb u (List.mem_cons_of_mem _ hu)) q
mutual
/-- whether its hash goes by value alone is known -/
theorem byVal_key : ∀ (k : NestedKey) (v : Value) (n : Nat), NestedIs s.heap k v → k.depth ≤ n → ∃ c : Bool, ∀ (A : Around) (E : Value → Shared → Prop) (Q : Bool → Shared → Prop), Q c s → wpAny (model P w) A (hashByValue n v) Q E s
  | .none, _, n, x, _ => by
    cases x
    exact ⟨true, fun A E Q q => by cases n <;> exact wpAny_pure q⟩
  | .num i, _, n, x, _ => by
    cases x <;> exact ⟨true, fun A E Q q => by cases n <;> exact wpAny_pure q⟩
  | .text y, _, n, x, _ => by
    cases x
    exact ⟨false, fun A E Q q => by cases n <;> exact wpAny_pure q⟩
  | .tup ks, _, n, x, hn => by
    cases x with
    | @tup a o vs m _ g1 g2 g3 g4 =>
      simp only [NestedKey.depth] at hn
      cases n with
      | zero => omega
      | succ n =>
        have all := byVal_keys ks vs.toList n g4 (by omega)
        have fn : ∃ f : Value → Bool, ∀ v ∈ vs.toList, ∀ (A : Around) (E : Value → Shared → Prop) (Q : Bool → Shared → Prop), Q (f v) s → wpAny (model P w) A (hashByValue n v) Q E s := by
          refine ⟨fun v => if q : v ∈ vs.toList then (all v q).choose else true, fun v hv => ?_⟩
          simp only [hv, dite_true]
          exact (all v hv).choose_spec
        obtain ⟨f, hf⟩ := fn
        refine ⟨!(vs.toList.any fun v => !f v), fun A E Q q => ?_⟩
        unfold hashByValue
        refine wpAny_bind (wpAny_specialOf (T := "tuple") ⟨o, g1, g2⟩ F.slot_tuple_hash.lookup ?_)
        show wpAny _ _ (seqItems? (.ref a) >>= _) _ _ s
        refine wpAny_bind (wpAny_seqItems g1 g3 ?_)
        refine wpAny_bind ?_
        show wpAny _ _ (forIn vs _ _) _ _ s
        rw [← Array.forIn_toList]
        refine ask_all (g := fun v => !f v) (c := false) vs.toList (fun v hv R' q' => ?_) ?_
        · refine wpAny_bind (hf v hv _ _ _ ?_)
          cases hfv : f v with
          | true =>
            rw [hfv] at q'
            simp only [Bool.not_true, Bool.false_eq_true, if_false] at q' ⊢
            exact wpAny_pure q'
          | false =>
            rw [hfv] at q'
            simp only [Bool.not_false, if_true] at q' ⊢
            exact wpAny_pure q'
        · cases hany : vs.toList.any fun v => !f v with
          | true =>
            rw [hany] at q
            exact wpAny_pure q
          | false =>
            rw [hany] at q
            exact wpAny_pure q
theorem byVal_keys : ∀ (ks : List NestedKey) (vs : List Value) (n : Nat), NestedAll s.heap ks vs → NestedKey.depthAll ks ≤ n → ∀ v ∈ vs, ∃ c : Bool, ∀ (A : Around) (E : Value → Shared → Prop) (Q : Bool → Shared → Prop), Q c s → wpAny (model P w) A (hashByValue n v) Q E s
  | [], _, n, x, _, v, hv => by
    cases x
    cases hv
  | k :: ks, _, n, x, hn, v, hv => by
    cases x with
    | cons x1 x2 =>
      simp only [NestedKey.depthAll] at hn
      rcases List.mem_cons.mp hv with e | hv
      · rw [e]
        exact byVal_key k _ n x1 (by omega)
      · exact byVal_keys ks _ n x2 (by omega) v hv
end
mutual
/-- no part of it is of a class of the program's -/
theorem noCls_key : ∀ (k : NestedKey) (v : Value) (n : Nat) (A : Around) (E : Value → Shared → Prop) (Q : Bool → Shared → Prop), NestedIs s.heap k v → k.depth ≤ n → Q false s → wpAny (model P w) A (ofAClassStatement n v) Q E s
  | .none, _, n, A, E, Q, x, _, q => by
    cases x
    cases n <;> exact wpAny_pure q
  | .num i, _, n, A, E, Q, x, _, q => by
    cases x <;> cases n <;> exact wpAny_pure q
  | .text y, _, n, A, E, Q, x, _, q => by
    cases x
    cases n <;> exact wpAny_pure q
  | .tup ks, _, n, A, E, Q, x, hn, q => by
    cases x with
    | @tup a o vs m _ g1 g2 g3 g4 =>
      simp only [NestedKey.depth] at hn
      cases n with
      | zero => omega
      | succ n =>
        unfold ofAClassStatement
        refine wpAny_bind (wpAny_typeOf (T := "tuple") ⟨o, g1, g2⟩ ?_)
        dsimp only
        have yes : (("tuple" : String) == "tuple") = true := by decide
        simp only [yes, if_true, Bool.not_true, Bool.false_eq_true, if_false]
        try refine wpAny_bind (wpAny_pure ?_)
        try simp only [Bool.not_true, Bool.false_eq_true, if_false]
        refine wpAny_bind (wpAny_seqItems g1 g3 ?_)
        dsimp only
        refine wpAny_bind ?_
        show wpAny _ _ (forIn vs _ _) _ _ s
        rw [← Array.forIn_toList]
        refine ask_all (g := fun _ => false) (c := true) vs.toList (fun v hv R' q' => ?_) ?_
        · refine wpAny_bind (noCls_keys ks vs.toList n A E _ g4 (by omega) v hv ?_)
          simp only [Bool.false_eq_true, if_false] at q' ⊢
          exact wpAny_pure q'
        · have none_ : (vs.toList.any fun _ => false) = false := by simp
          rw [none_]
          exact wpAny_pure q
theorem noCls_keys : ∀ (ks : List NestedKey) (vs : List Value) (n : Nat) (A : Around) (E : Value → Shared → Prop) (Q : Bool → Shared → Prop), NestedAll s.heap ks vs → NestedKey.depthAll ks ≤ n → ∀ v ∈ vs, Q false s → wpAny (model P w) A (ofAClassStatement n v) Q E s
  | [], _, n, A, E, Q, x, _, v, hv, _ => by
    cases x
    cases hv
  | k :: ks, _, n, A, E, Q, x, hn, v, hv, q => by
    cases x with
    | cons x1 x2 =>
      simp only [NestedKey.depthAll] at hn
      rcases List.mem_cons.mp hv with e | hv
      · rw [e]
        exact noCls_key k _ n A E Q x1 (by omega) q
      · exact noCls_keys ks _ n A E Q x2 (by omega) v hv q
end
/-- a search among such tuples shows nothing -/
theorem unseen {ys : List Value} {Q : Bool → Shared → Prop} (n : NKI s.heap k b) (hy : ∀ y ∈ ys, ∃ k' c, y = Value.ref c ∧ NKI s.heap k' c) (q : Q false s) : wpAny (model P w) A (searchCouldBeSeen (.ref b) ys) Q E s := by
  unfold searchCouldBeSeen
  refine wpAny_bind (ask_all (g := fun _ => false) (c := true) ys (fun v hv R' q' => ?_) ?_)
  · obtain ⟨k', c, rfl, n'⟩ := hy v hv
    simp only [Bool.false_eq_true, if_false] at q'
    dsimp only
    by_cases same : (b == c || (carriedByValue (.ref b) && carriedByValue (.ref c))) = true
    · rw [if_pos same]
      exact wpAny_pure q'
    · rw [if_neg same]
      refine wpAny_bind ((nestedKind P w).quiet n ?_)
      simp only [Bool.not_true, Bool.false_eq_true, if_false]
      refine wpAny_bind ((nestedKind P w).quiet n' ?_)
      simp only [Bool.not_true, Bool.false_eq_true, if_false]
      refine wpAny_bind (noCls_key k _ 8 _ _ _ n.1 n.2 ?_)
      simp only [Bool.false_eq_true, if_false]
      refine wpAny_bind (noCls_key k' _ 8 _ _ _ n'.1 n'.2 ?_)
      simp only [Bool.false_eq_true, if_false]
      exact wpAny_pure q'
  · have none_ : (ys.any fun _ => false) = false := by simp
    rw [none_]
    exact wpAny_pure q
end
end Own

namespace Own
open PySem PySem.Spec PyProof.Rows L2 Evl
abbrev KA : Type := Addr × NestedKey
def kh (w : World) (p : KA) : Int := p.2.hash w
def ent (w : World) (p : KA) : Int × Value := (kh w p, Value.ref p.1)
/-- the set at a holds just the tuples L, in the order of its places -/
structure SetN (w : World) (h : Heap) (a : Addr) (L : List KA) (es : Array (Int × Value)) (ep : Nat) (t : SetTable) : Prop where
  obj : ∃ o, h.get? a = some o ∧ o.ExactSet ∧ o.data = .set es ep t
  row : es.toList = L.map (ent w)
  tab : TabOk t (L.map (kh w))
  one : (L.map Prod.snd).Nodup
  key : ∀ p ∈ L, NKI h p.2 p.1
  ld : w.params.followText "set-order" = true ∨ t.led = true
  air : L.length * 5 < t.mask * 3
  low : L.length < 64
section
variable {P : Program} {w : World} {A : Around} {E : Value → Shared → Prop} {s : Shared} {h h' : Heap} {a x : Addr} {k : NestedKey} {L : List KA} {es : Array (Int × Value)} {ep : Nat} {t : SetTable}
theorem SetN.esz (R : SetN w h a L es ep t) : es.size = L.length := by
  rw [← Array.length_toList, R.row, List.length_map]
theorem SetN.psz (R : SetN w h a L es ep t) : t.place.size = L.length := by
  rw [R.tab.sz, List.length_map]
theorem SetN.fit (R : SetN w h a L es ep t) : t.fits es.size = true := by
  have e1 := R.psz
  have e2 := R.esz
  have e3 := R.air
  unfold SetTable.fits SetTable.fill
  rw [R.tab.dm, Bool.and_eq_true, beq_iff_eq, decide_eq_true_eq]
  show t.place.size = es.size ∧ t.place.size + 0 ≤ t.mask
  omega
theorem SetN.nth (R : SetN w h a L es ep t) {i : Nat} {p : KA} (hp : L[i]? = some p) : es[i]? = some (ent w p) := by
  rw [← Array.getElem?_toList, R.row, List.getElem?_map, hp]
  rfl
theorem SetN.keep (R : SetN w h a L es ep t) (ha : ∀ o, h.get? a = some o → h'.get? a = some o) (hk : ∀ p ∈ L, NKI h' p.2 p.1) : SetN w h' a L es ep t := by
  obtain ⟨o, ho, q⟩ := R.obj
  exact ⟨⟨o, ha o ho, q⟩, R.row, R.tab, R.one, hk, R.ld, R.air, R.low⟩
theorem SetN.fresh (ho : h.get? a = some { cls := .type "set", dict := none, data := .set #[] 0 (.fresh 0 0 (!w.params.followText "set-order")) }) : SetN w h a [] #[] 0 (.fresh 0 0 (!w.params.followText "set-order")) := by
  refine ⟨⟨_, ho, ⟨rfl, rfl, rfl⟩, rfl⟩, rfl, ⟨.nil, rfl, rfl, .inl rfl, fun y hy => (by cases hy), fun i g j hi => (by simp at hi)⟩, .nil, fun p hp => (by cases hp), ?_, ?_, ?_⟩
  · show _ ∨ (!w.params.followText "set-order") = true
    cases w.params.followText "set-order"
    · exact .inr rfl
    · exact .inl rfl
  · show 0 * 5 < 7 * 3
    decide
  · show 0 < 64
    decide
/-- the place behind c steps of the way -/
def pr (t : SetTable) (g : Int) (c : Nat) : SetTable.Probe := L2.nth t.mask (runAt t.mask (SetTable.bits g % (t.mask + 1)) (SetTable.bits g)) c
theorem pr_way (t : SetTable) (g : Int) (c : Nat) : (pr t g c).j = way t.mask g c := rfl
theorem pr_add (t : SetTable) (g : Int) (c q : Nat) : L2.nth t.mask (pr t g c) q = pr t g (c + q) := (nth_add t.mask c _ q).symm
theorem pr_dummy (t : SetTable) (g : Int) : ∀ c, (pr t g c).dummy = none
  | 0 => rfl
  | c + 1 => by
    have e : pr t g (c + 1) = adv t.mask (pr t g c) := nth_succ t.mask _ c
    rw [e]
    unfold adv
    split <;> exact pr_dummy t g c
/-- the search for a tuple -/
theorem seek (R : SetN w s.heap a L es ep t) (n : NKI s.heap k x) (hu : A.units + 8 < cLine) {Z : Nat} (far : Z < 10 * SetTable.turns t.mask) (gap : way t.mask (k.hash w) Z ∉ t.place.toList) (full : ∀ c, c < Z → way t.mask (k.hash w) c ∈ t.place.toList)
    {Q : SetFound → Shared → Prop} (yes : k ∈ L.map Prod.snd → Q (.there none) s) (no : k ∉ L.map Prod.snd → Q (.free (way t.mask (k.hash w) Z) false) s) : ∀ (f c : Nat) (st : Option SetTable.Probe), st.getD (t.probeStart (k.hash w)) = pr t (k.hash w) c → c ≤ Z → Z - c < f →
      (∀ (i : Nat) (p : KA), L[i]? = some p → p.2 = k → ∃ d, c ≤ d ∧ d < Z ∧ t.place.toList[i]? = some (way t.mask (k.hash w) d)) → wpAny (model P w) A (setSearchFrom a (.ref x) (k.hash w) true f st) Q E s := by
  intro f
  induction f with
  | zero => exact fun c st _ _ lt => absurd lt (Nat.not_lt_zero _)
  | succ f ih =>
    intro c st est le lt still
    obtain ⟨o, ho, hex, hd⟩ := R.obj
    rw [setSearchFrom_succ]
    refine wpAny_bind (wpAny_setState_of ho hd R.fit ?_)
    dsimp only
    have gw : ¬ t.gaveWay = true := by
      unfold SetTable.gaveWay
      rw [mask_odd R.tab.mok]
      decide
    refine wp_if_neg gw ?_
    try refine wpAny_bind (wpAny_pure ?_)
    let ha : Nat → Int := fun i => (es[i]?.map (·.1)).getD 0
    have hash_at : ∀ (i : Nat) (p : KA), L[i]? = some p → ha i = kh w p := fun i p hp => by
      show (es[i]?.map (·.1)).getD 0 = _
      rw [R.nth hp]
      rfl
    have gap' : (L2.nth t.mask (pr t (k.hash w) c) (Z - c)).j ∉ t.place.toList := by
      rw [pr_add, pr_way, Nat.add_sub_cancel' le]
      exact gap
    rcases go_spec t R.tab.ris R.tab.dm ha (k.hash w) (10 * SetTable.turns t.mask) (Z - c) (pr t (k.hash w) c) (pr_dummy t _ c) (by omega) (fun q hq => by rw [pr_add, pr_way]; exact full _ (by omega)) gap' with ⟨q, i, hq, hi, _, hno, met⟩ | ⟨hno, met⟩
    · rw [pr_add, pr_way] at hi
      rw [pr_add, pr_add, pr_way] at met
      have met' : t.probe (fun i => (es[i]?.map (·.1)).getD 0) (k.hash w) (st.getD (t.probeStart (k.hash w))) = some (.candidate (way t.mask (k.hash w) (c + q)) i (pr t (k.hash w) (c + (q + 1)))) := by
        rw [est]
        exact met
      have li : i < L.length := by
        have z := (List.getElem?_eq_some_iff.mp hi).1
        rw [Array.length_toList, R.psz] at z
        exact z
      obtain ⟨p, hp⟩ : ∃ p, L[i]? = some p := ⟨_, List.getElem?_eq_getElem li⟩
      have pm := List.mem_of_getElem? hp
      have go : wpAny (model P w) A (searchRest a (.ref x) (k.hash w) true f es t (way t.mask (k.hash w) (c + q)) i (pr t (k.hash w) (c + (q + 1)))) Q E s := by
        unfold searchRest
        rw [R.nth hp]
        dsimp only [ent]
        refine wpAny_bind (wpAny_holding ((nestedKind P w).eqBool hu (R.key p pm) n ?_))
        refine wpAny_bind (wpAny_setState_of ho hd R.fit ?_)
        dsimp only
        by_cases e : p.2 = k
        · rw [if_pos (by rw [decide_eq_true e]; rfl)]
          exact wpAny_pure (yes (List.mem_map.mpr ⟨p, pm, e⟩))
        · rw [if_neg (by rw [decide_eq_false e]; exact Bool.false_ne_true)]
          try refine wpAny_bind (wpAny_pure ?_)
          rw [sameMem]
          dsimp only
          have live : t.slot (way t.mask (k.hash w) (c + q)) = .live i := slot_live R.tab.ris hi
          simp only [if_true, live, R.nth hp, ent]
          refine wpAny_bind (wpAny_isSame_ref_self (wpAny_bind (wpAny_pure ?_)))
          simp only [if_true]
          rw [if_neg (by rw [decide_eq_false e]; exact Bool.false_ne_true)]
          refine ih (c + (q + 1)) _ rfl (by omega) (by omega) fun i0 p0 h0 e0 => ?_
          obtain ⟨d, d1, d2, d3⟩ := still i0 p0 h0 e0
          refine ⟨d, ?_, d2, d3⟩
          rcases Nat.lt_trichotomy d (c + q) with lt1 | eq1 | gt1
          · refine absurd ((hash_at i0 p0 h0).trans ?_) (hno (d - c) i0 (by omega) ?_)
            · unfold kh
              rw [e0]
            · rw [pr_add, pr_way, Nat.add_sub_cancel' d1]
              exact d3
          · rw [eq1] at d3
            have z := slot_live R.tab.ris d3
            rw [live] at z
            injection z with z
            rw [← z, hp] at h0
            cases h0
            exact absurd e0 e
          · omega
      rw [met']
      dsimp only
      by_cases hl : t.led = true
      · refine wp_if_neg (by simp [hl]) ?_
        try refine wpAny_bind (wpAny_pure ?_)
        exact go
      · refine wp_if_pos (by simp [hl]) ?_
        refine wpAny_bind (unseen n (fun y hy => ?_) ?_)
        · obtain ⟨e, he, rfl⟩ := List.mem_map.mp hy
          have he : e ∈ es ∧ e.1 = k.hash w := by simpa using he
          have he := Array.mem_toList_iff.mpr he.1
          rw [R.row] at he
          obtain ⟨p2, m2, rfl⟩ := List.mem_map.mp he
          exact ⟨p2.2, p2.1, rfl, R.key p2 m2⟩
        · refine wp_if_neg (by decide) ?_
          try refine wpAny_bind (wpAny_pure ?_)
          exact go
    · rw [pr_add, pr_way, Nat.add_sub_cancel' le] at met
      have met' : t.probe (fun i => (es[i]?.map (·.1)).getD 0) (k.hash w) (st.getD (t.probeStart (k.hash w))) = some (.empty (way t.mask (k.hash w) Z) none) := by
        rw [est]
        exact met
      rw [met']
      dsimp only
      refine wpAny_pure (no fun hm => ?_)
      obtain ⟨p0, m0, e0⟩ := List.mem_map.mp hm
      obtain ⟨i0, l0, g0⟩ := List.getElem_of_mem m0
      have h0 : L[i0]? = some p0 := by rw [List.getElem?_eq_getElem l0, g0]
      obtain ⟨d, d1, d2, d3⟩ := still i0 p0 h0 e0
      refine absurd ((hash_at i0 p0 h0).trans ?_) (hno (d - c) i0 (by omega) ?_)
      · unfold kh
        rw [e0]
      · rw [pr_add, pr_way, Nat.add_sub_cancel' d1]
        exact d3
/-- the search as adding asks for it -/
theorem seek0 (R : SetN w s.heap a L es ep t) (n : NKI s.heap k x) (hu : A.units + 8 < cLine) {Q : SetFound → Shared → Prop} (yes : k ∈ L.map Prod.snd → Q (.there none) s)
    (no : ∀ Z, k ∉ L.map Prod.snd → way t.mask (k.hash w) Z ∉ t.place.toList → (∀ c, c < Z → way t.mask (k.hash w) c ∈ t.place.toList) → Q (.free (way t.mask (k.hash w) Z) false) s) : wpAny (model P w) A (setSearch a (.ref x) (k.hash w) true) Q E s := by
  have hair := R.air
  obtain ⟨Z, far, gap, full⟩ := R.tab.first (by rw [List.length_map]; omega) (k.hash w)
  have few : 10 * SetTable.turns t.mask ≤ 1420 := by
    unfold SetTable.turns
    rcases R.tab.mok with e | e | e <;> omega
  unfold setSearch
  refine seek R n hu far gap full yes (fun hm => no Z hm gap full) 100000 0 none rfl (Nat.zero_le _) (by omega) fun i p hp e => ?_
  have hi : (L.map (kh w))[i]? = some (k.hash w) := by
    rw [List.getElem?_map, hp, ← e]
    rfl
  have li : i < t.place.toList.length := by
    rw [Array.length_toList, R.psz]
    exact (List.getElem?_eq_some_iff.mp hp).1
  obtain ⟨c, lt, e⟩ := R.tab.before gap hi (List.getElem?_eq_getElem li)
  exact ⟨c, Nat.zero_le _, lt, by rw [List.getElem?_eq_getElem li, e]⟩
end
end Own

namespace Own
open PySem PySem.Spec PyProof.Rows L2 Evl
theorem range_all {α : Type} : ∀ L : List α, (List.range L.length).filterMap (L[·]?) = L
  | [] => rfl
  | x :: L => by
    rw [List.length_cons, List.range_succ_eq_map, List.filterMap_cons]
    show x :: _ = _
    rw [List.filterMap_map]
    exact congrArg (x :: ·) (range_all L)
theorem order_out {w : World} {L : List KA} {es : Array (Int × Value)} {ord : Array Nat} (row : es.toList = L.map (ent w)) (pm : ord.toList.Perm (List.range L.length)) :
    ∃ L2 : List KA, (ord.filterMap (es[·]?)).toList = L2.map (ent w) ∧ L2.Perm L ∧ L2.map (kh w) = ord.toList.map fun i => (es.map (·.1)).getD i 0 := by
  have at_ : ∀ i, es[i]? = (L[i]?).map (ent w) := fun i => by rw [← Array.getElem?_toList, row, List.getElem?_map]
  refine ⟨ord.toList.filterMap (L[·]?), ?_, ?_, ?_⟩
  · rw [Array.toList_filterMap, List.map_filterMap]
    congr 1
    funext i
    exact at_ i
  · have q := pm.filterMap (L[·]?)
    rw [range_all] at q
    exact q
  · have go : ∀ l : List Nat, (∀ i ∈ l, i < L.length) → (l.filterMap (L[·]?)).map (kh w) = l.map fun i => (es.map (·.1)).getD i 0 := by
      intro l
      induction l with
      | nil => intro _; rfl
      | cons i l ih =>
        intro hl
        have hi := hl i List.mem_cons_self
        have g : L[i]? = some L[i] := List.getElem?_eq_getElem hi
        rw [List.filterMap_cons_some g, List.map_cons, List.map_cons, ih fun j hj => hl j (List.mem_cons_of_mem _ hj)]
        congr 1
        have e : (es.map (·.1))[i]? = some (kh w L[i]) := by
          rw [Array.getElem?_map, at_ i, g]
          rfl
        rw [Array.getD_eq_getD_getElem?, e]
        rfl
    exact go _ fun i hi => List.mem_range.mp (pm.mem_iff.mp hi)
section
variable {P : Program} {w : World} {A : Around} {E : Value → Shared → Prop} {s : Shared} {h h' : Heap} {a x : Addr} {k : NestedKey} {L : List KA} {es : Array (Int × Value)} {ep : Nat} {t : SetTable}
/-- the table laid anew -/
theorem relay {o : Obj} (ho : s.heap.get? a = some o) (hex : o.ExactSet) (hd : o.data = .set es ep t) (row : es.toList = L.map (ent w)) (psz : t.place.size = es.size) (dm : t.dummies = #[]) (fl : es.size ≤ t.mask) (one : (L.map Prod.snd).Nodup)
    (key : ∀ p ∈ L, NKI s.heap p.2 p.1) (ld : w.params.followText "set-order" = true ∨ t.led = true) (low : L.length < 64) {want M : Nat} (hw : SetTable.sizeAbove want - 1 = M) (hM : MaskOk M) (top : SetTable.sizeAbove want ≤ 128) (air : L.length * 5 < M * 3)
    {Q : Unit → Shared → Prop} (hQ : ∀ hp L' es' ep' t', Heap.SameBut a s.heap hp → SetN w hp a L' es' ep' t' → L'.Perm L → Q () { s with heap := hp }) : wpAny (model P w) A (setRelay a want) Q E s := by
  have esz : es.size = L.length := by rw [← Array.length_toList, row, List.length_map]
  have fit : t.fits es.size = true := by
    unfold SetTable.fits SetTable.fill
    rw [dm, Bool.and_eq_true, beq_iff_eq, decide_eq_true_eq]
    show t.place.size = es.size ∧ t.place.size + 0 ≤ t.mask
    omega
  obtain ⟨t', ord, e, pm, T, em, el, _, _⟩ := relaid_ok t (hs := es.map (·.1)) (wanted := want) hw hM (by rw [Array.size_map, esz]; omega)
  rw [Array.size_map, esz] at pm
  obtain ⟨L2, r1, r2, r3⟩ := order_out (w := w) row pm
  rw [← r3] at T
  have sz2 : (ord.filterMap (es[·]?)).size = es.size := by rw [← Array.length_toList, r1, List.length_map, r2.length_eq, esz]
  rw [setRelay_eq]
  refine wpAny_bind (wpAny_setState_of ho hd fit ?_)
  dsimp only
  refine wp_if_neg (by rw [sizeLine_eq]; omega) ?_
  try refine wpAny_bind (wpAny_pure ?_)
  rw [e]
  dsimp only
  refine wpAny_bind ?_
  refine wp_if_neg (by rw [sz2]; simp) ?_
  try refine wpAny_bind (wpAny_pure ?_)
  refine wpAny_pure ?_
  dsimp only
  refine wpAny_storeSet_of ho hd ?_ (by rw [sz2, esz, sizeLine_eq]; omega)
  have sb : Heap.SameBut a s.heap (s.heap.update a (Obj.putSet (ord.filterMap (es[·]?)) t')) := Heap.SameBut.update ..
  exact hQ _ L2 _ (ep + 1) t' sb ⟨⟨_, store_at ho hd, ⟨hex.1, hex.2.1, hex.2.2⟩, rfl⟩, r1, T, (r2.map Prod.snd).nodup_iff.mpr one, fun p hp => (key p (r2.mem_iff.mp hp)).same ho hd sb, by rw [el]; exact ld, by rw [r2.length_eq, em]; exact air, by rw [r2.length_eq]; exact low⟩ r2
/-- a tuple is put in, if its like is not there -/
theorem putN (R : SetN w s.heap a L es ep t) (n : NKI s.heap k x) (hu : A.units + 8 < cLine) (few : L.length + 1 < 64) {Q : Bool → Shared → Prop}
    (hQ : ∀ c hp L' es' ep' t', Heap.SameBut a s.heap hp → SetN w hp a L' es' ep' t' → (k ∈ L.map Prod.snd → L' = L) → (k ∉ L.map Prod.snd → L'.Perm ((x, k) :: L)) → Q c { s with heap := hp }) :
    wpAny (model P w) A (setAddHashed a (.ref x) (k.hash w)) Q E s := by
  obtain ⟨o, ho, hex, hd⟩ := R.obj
  have hair := R.air
  have esz := R.esz
  have psz := R.psz
  unfold setAddHashed
  refine wpAny_holding ?_
  rw [show (100000 : Nat) = 99999 + 1 from rfl, setAddHashedIn_succ]
  refine wpAny_bind (wpAny_setState_of ho hd R.fit ?_)
  dsimp only
  refine wp_if_neg (by simp [byScan, Value.scannable]) ?_
  try refine wpAny_bind (wpAny_pure ?_)
  refine wpAny_bind (seek0 R n hu (fun hm => ?_) fun Z hm gap full => ?_)
  · dsimp only
    exact wpAny_pure (hQ false s.heap L es ep t (Heap.SameBut.refl a s.heap) R (fun _ => rfl) fun z => absurd hm z)
  · dsimp only
    refine wpAny_bind (wpAny_setState_of ho hd R.fit ?_)
    dsimp only
    obtain ⟨b1, b2, T1, m1, l1, _, _, _, f1⟩ := R.tab.put gap full
    generalize hpt : t.put (way t.mask (k.hash w) Z) = pt at b1 T1 m1 l1 f1 ⊢
    obtain ⟨t1, p⟩ := pt
    dsimp only at b1 T1 m1 l1 f1 ⊢
    subst b1
    generalize hp0 : SetTable.below t.place (way t.mask (k.hash w) Z) = p at b2 T1 ⊢
    have row1 : (SetTable.insertAt es p (k.hash w, Value.ref x)).toList = (L.take p ++ (x, k) :: L.drop p).map (ent w) := by
      rw [SetTable.toList_insertAt, R.row, List.map_append, List.map_cons, List.map_take, List.map_drop]
      rfl
    have T2 : TabOk t1 ((L.take p ++ (x, k) :: L.drop p).map (kh w)) := by
      rw [List.map_append, List.map_cons, List.map_take, List.map_drop]
      exact T1
    have pm : (L.take p ++ (x, k) :: L.drop p).Perm ((x, k) :: L) := put_perm L p (x, k)
    generalize L.take p ++ (x, k) :: L.drop p = L1 at row1 T2 pm
    generalize SetTable.insertAt es p (k.hash w, Value.ref x) = es1 at row1 ⊢
    have len1 : L1.length = L.length + 1 := pm.length_eq
    have esz1 : es1.size = L.length + 1 := by rw [← Array.length_toList, row1, List.length_map, len1]
    have one1 : (L1.map Prod.snd).Nodup := by
      refine (pm.map Prod.snd).nodup_iff.mpr ?_
      rw [List.map_cons]
      exact List.nodup_cons.mpr ⟨hm, R.one⟩
    obtain ⟨c, hc⟩ := byVal_key (P := P) (w := w) k (.ref x) 8 n.1 n.2
    have fin : ∀ t2 : SetTable, TabOk t2 (L1.map (kh w)) → t2.mask = t.mask → t2.led = t.led → t2.fill = L.length + 1 →
        wpAny (model P w) A (do
          storeSet a es1 t2
          if (!false && t2.tooFull) = true then setRelay a (SetTable.grown (es.size + 1))
          return true) Q E s := by
      intro t2 T3 m2 l2 f2
      refine wpAny_bind (wpAny_storeSet_of ho hd ?_ (by rw [esz1, sizeLine_eq]; omega))
      have sb : Heap.SameBut a s.heap (s.heap.update a (Obj.putSet es1 t2)) := Heap.SameBut.update ..
      have ho1 := store_at (es' := es1) (t' := t2) ho hd
      generalize s.heap.update a (Obj.putSet es1 t2) = h1 at sb ho1 ⊢
      have key1 : ∀ p ∈ L1, NKI h1 p.2 p.1 := fun p hp => by
        rcases List.mem_cons.mp (pm.mem_iff.mp hp) with e | hp
        · rw [e]
          exact n.same ho hd sb
        · exact (R.key p hp).same ho hd sb
      have ld1 : w.params.followText "set-order" = true ∨ t2.led = true := by rw [l2]; exact R.ld
      have ex1 : Obj.ExactSet { o with data := .set es1 (ep + 1) t2 } := ⟨hex.1, hex.2.1, hex.2.2⟩
      by_cases hf : t2.tooFull = true
      · have hfull : (L.length + 1) * 5 ≥ t2.mask * 3 := by
          have z := hf
          unfold SetTable.tooFull at z
          rw [decide_eq_true_eq, f2] at z
          exact z
        have two : (t.mask = 7 ∧ L.length = 4) ∨ (t.mask = 31 ∧ L.length = 18) := by
          rcases R.tab.mok with e | e | e
          · left; rw [m2, e] at hfull; rw [e] at hair; exact ⟨e, by omega⟩
          · right; rw [m2, e] at hfull; rw [e] at hair; exact ⟨e, by omega⟩
          · exfalso; rw [m2, e] at hfull; omega
        have psz1 : t2.place.size = es1.size := by rw [T3.sz, List.length_map, len1, esz1]
        have go : ∀ M, SetTable.sizeAbove (SetTable.grown (L.length + 1)) - 1 = M → MaskOk M → SetTable.sizeAbove (SetTable.grown (L.length + 1)) ≤ 128 → (L.length + 1) * 5 < M * 3 →
            wpAny (model P w) A (setRelay a (SetTable.grown (L.length + 1))) (fun _ s' => wpAny (model P w) A (pure true) Q E s') E { s with heap := h1 } := by
          intro M y1 y2 y3 y4
          refine relay (s := { s with heap := h1 }) ho1 ex1 rfl row1 psz1 T3.dm (by rw [esz1, m2]; rcases two with ⟨e, e2⟩ | ⟨e, e2⟩ <;> omega) one1 key1 ld1 (by omega) y1 y2 y3 (by rw [len1]; exact y4) ?_
          intro h2 L2 es2 ep2 t3 sb2 R2 pm2
          exact wpAny_pure (hQ true h2 L2 es2 ep2 t3 (sb.trans sb2) R2 (fun z => absurd z hm) fun _ => pm2.trans pm)
        rw [esz]
        first
          | (refine wpAny_bind ?_; refine wp_if_pos (by simp [hf]) ?_)
          | (refine wp_if_pos (by simp [hf]) ?_; refine wpAny_bind ?_)
        rcases two with ⟨_, e2⟩ | ⟨_, e2⟩
        · exact go 31 (by rw [e2, size_20]) (.inr (.inl rfl)) (by rw [e2, size_20]; decide) (by omega)
        · exact go 127 (by rw [e2, size_76]) (.inr (.inr rfl)) (by rw [e2, size_76]; decide) (by omega)
      · have hroom : ¬ (L.length + 1) * 5 ≥ t2.mask * 3 := fun z => hf (by
          unfold SetTable.tooFull
          rw [decide_eq_true_eq, f2]
          exact z)
        first
          | refine wp_if_neg (by simp [hf]) ?_
          | (refine wpAny_bind ?_; refine wp_if_neg (by simp [hf]) ?_; refine wpAny_pure ?_)
        exact wpAny_pure (hQ true h1 L1 es1 (ep + 1) t2 sb ⟨⟨_, ho1, ex1, rfl⟩, row1, T3, one1, key1, ld1, by rw [len1]; omega, by omega⟩ (fun z => absurd z hm) fun _ => pm)
    rw [List.length_map] at f1
    cases hpl : t1.plain with
    | true =>
      first
        | (refine wpAny_bind ?_; refine wp_if_pos rfl ?_; refine hc _ _ _ ?_)
        | refine wp_if_pos rfl (wpAny_bind (hc _ _ _ ?_))
      cases c with
      | true => exact fin t1 T2 m1 l1 f1
      | false => exact fin { t1 with plain := false } ⟨T2.ris, T2.dm, T2.sz, T2.mok, T2.bd, T2.reach⟩ m1 l1 f1
    | false =>
      first
        | (refine wpAny_bind ?_; refine wp_if_neg Bool.false_ne_true ?_; refine wpAny_pure ?_)
        | refine wp_if_neg Bool.false_ne_true (wpAny_bind (wpAny_pure ?_))
      exact fin t1 T2 m1 l1 f1
end
end Own

namespace Own
open PySem PySem.Spec PyProof.Rows L2 Evl
/-- what is in the set behind i of the tuples zs -/
structure Has (zs : List KA) (i : Nat) (L : List KA) : Prop where
  le : L.length ≤ i
  of : ∀ p ∈ L, p ∈ zs.take i
  on : ∀ p ∈ zs.take i, p.2 ∈ L.map Prod.snd
theorem Has.none (zs : List KA) : Has zs 0 [] := ⟨Nat.le_refl _, fun p hp => (by cases hp), fun p hp => by
  rw [List.take_zero] at hp
  cases hp⟩
theorem Has.step {zs L L' : List KA} {i : Nat} {z : KA} (g : Has zs i L) (hz : zs[i]? = some z) (c1 : z.2 ∈ L.map Prod.snd → L' = L) (c2 : z.2 ∉ L.map Prod.snd → L'.Perm (z :: L)) : Has zs (i + 1) L' := by
  have e : zs.take (i + 1) = zs.take i ++ [z] := take_next hz
  by_cases m : z.2 ∈ L.map Prod.snd
  · rw [c1 m]
    refine ⟨Nat.le_succ_of_le g.le, fun p hp => ?_, fun p hp => ?_⟩
    · rw [e]
      exact List.mem_append_left _ (g.of p hp)
    · rw [e, List.mem_append, List.mem_singleton] at hp
      rcases hp with hp | rfl
      · exact g.on p hp
      · exact m
  · have pm := c2 m
    refine ⟨?_, fun p hp => ?_, fun p hp => ?_⟩
    · rw [pm.length_eq, List.length_cons]
      exact Nat.succ_le_succ g.le
    · rw [e, List.mem_append, List.mem_singleton]
      rcases List.mem_cons.mp (pm.mem_iff.mp hp) with q | q
      · exact .inr q
      · exact .inl (g.of p q)
    · rw [(pm.map Prod.snd).mem_iff, List.map_cons, List.mem_cons]
      rw [e, List.mem_append, List.mem_singleton] at hp
      rcases hp with hp | rfl
      · exact .inr (g.on p hp)
      · exact .inl rfl
section
variable {P : Program} {w : World} {A : Around} {E : Value → Shared → Prop} {s : Shared} {a : Addr}
theorem fillN {it : Addr} {fa wa : List Addr} {G : Array GenState → Array GenState → Prop} {n : Nat} {Pv : Nat → Value → Prop} {St : Nat → Shared → Prop} {R : Result → Shared → Prop}
    (W : WalksS P w A.in1 it fa wa G n Pv St) (hfa : a ∉ fa) (zs : List KA) (hn : n = zs.length) (low : zs.length < 64) (hv : ∀ i v, Pv i v → ∃ z, zs[i]? = some z ∧ v = .ref z.1) (h0 : Heap) (key : ∀ z ∈ zs, NKI h0 z.2 z.1) (ha0 : h0.get? a = none) (hw0 : ∀ b ∈ wa, h0.get? b = none) (hu : A.in1.units + 8 < cLine) :
    ∀ (m i : Nat) (s : Shared), n - i = m → i ≤ n → St i s → (∀ b o, h0.get? b = some o → s.heap.get? b = some o) → (∃ L es ep t, SetN w s.heap a L es ep t ∧ Has zs i L) →
      (∀ s' L es ep t, Moved (a :: wa) G s s' → SetN w s'.heap a L es ep t → Has zs n L → (∀ b o, h0.get? b = some o → s'.heap.get? b = some o) → R (.ok (.ret .none)) s') →
      codeAny (model P w) A (.builtin "set.update.loop" ⟨[.ref a, .ref it], []⟩) R s := by
  have hwa : a ∉ wa := fun q => hfa (W.sub _ q)
  have more : ∀ b ∈ wa, b ∈ a :: wa := fun b q => List.mem_cons_of_mem _ q
  have stay : ∀ {s1 s2 : Shared}, Moved wa G s1 s2 → (∀ b o, h0.get? b = some o → s1.heap.get? b = some o) → ∀ b o, h0.get? b = some o → s2.heap.get? b = some o := fun mv q b o e => mv.heap b o (fun hb => by rw [hw0 b hb] at e; cases e) (q b o e)
  intro m
  induction m with
  | zero =>
    intro i s hm hi hst q ⟨L, es, ep, t, X, g⟩ hR
    have ei : i = n := by omega
    subst ei
    refine codeAny_builtin F.entry_set_update_loop ?_
    rw [Around.under_plainId F.plain_set_update_loop _]
    show wpAny _ A.in1 (pyNext (.ref it) >>= _) _ _ s
    refine wpAny_bind (W.done s _ _ hst fun s' mv => ?_)
    show wpAny _ A.in1 (ret Value.none) _ _ s'
    have q' := stay mv q
    exact wpAny_pure (hR s' L es ep t (mv.mono more) (X.keep (fun o e => mv.heap a o hwa e) fun p hp => (key p (List.mem_of_mem_take (g.of p hp))).keep q') g q')
  | succ m ih =>
    intro i s hm hi hst q ⟨L, es, ep, t, X, g⟩ hR
    have lt : i < n := by omega
    refine codeAny_builtin F.entry_set_update_loop ?_
    rw [Around.under_plainId F.plain_set_update_loop _]
    show wpAny _ A.in1 (pyNext (.ref it) >>= _) _ _ s
    refine wpAny_bind (W.item i s _ _ lt hst fun v s' pv hst' mv => ?_)
    obtain ⟨z, hz, rfl⟩ := hv i v pv
    have q' := stay mv q
    have zm := List.mem_of_getElem? hz
    have X' : SetN w s'.heap a L es ep t := X.keep (fun o e => mv.heap a o hwa e) fun p hp => (key p (List.mem_of_mem_take (g.of p hp))).keep q'
    have nz : NKI s'.heap z.2 z.1 := (key z zm).keep q'
    show wpAny _ A.in1 (holding [Value.ref z.1] (setAdd a (.ref z.1)) >>= _) _ _ s'
    refine wpAny_bind (wpAny_holding ?_)
    unfold setAdd
    refine wpAny_holding ?_
    refine wpAny_bind ((nestedKind P w).pyHash hu nz ?_)
    refine putN (s := { s' with toks := s'.toks + (nestedKind P w).draws z.2 }) X' nz hu (by have := g.le; omega) fun c hp L' es' ep' t' sb X2 c1 c2 => ?_
    have g' := g.step hz c1 c2
    have q2 : ∀ b o, h0.get? b = some o → hp.get? b = some o := fun b o e => (sb.2 b (fun y => by rw [y, ha0] at e; cases e)).trans (q' b o e)
    refine wpAny_pure ⟨plainId_quiet F.plain_set_update_loop _, ih (i + 1) _ (by omega) lt (W.frame _ s' _ _ hst' (Nat.le_add_right _ _) fun b hb2 o e => ?_) q2 ⟨L', es', ep', t', X2, g'⟩ fun s2 L2 es2 ep2 t2 mv2 X3 g3 q3 => ?_⟩
    · rw [sb.2 b (fun y : b = a => hfa (by rw [← y]; exact hb2))]
      exact e
    · refine hR s2 L2 es2 ep2 t2 (Moved.trans W.gtrans ((mv.mono more).then_heap (Nat.le_add_right _ _) fun b o hb2 e => ?_) mv2) X3 g3 q3
      rw [sb.2 b (fun y : b = a => hb2 (by rw [y]; exact List.mem_cons_self))]
      exact e
set_option maxRecDepth 100000 in
set_option maxHeartbeats 3200000 in
theorem setN_call {p : Addr} {items : Array Value} (zs : List KA) {Q : Value → Shared → Prop} (hh : A.handled = none) (hp : s.heap.IsList p items) (are : items.toList = zs.map fun z => Value.ref z.1) (key : ∀ z ∈ zs, NKI s.heap z.2 z.1) (low : zs.length < 64) (hu : A.units + 12 < cLine)
    (fin : ∀ (hp' : Heap) (tk : Nat) L es ep t, SetN w hp' s.heap.objs.size L es ep t → Has zs zs.length L → (∀ b o, s.heap.get? b = some o → hp'.get? b = some o) → Q (.ref s.heap.objs.size) { s with heap := hp', toks := tk }) :
    wpAny (model P w) A (call (.type "set") [.ref p]) Q E s := by
  have size : items.size = zs.length := by rw [← Array.length_toList, are, List.length_map]
  obtain ⟨c, tl, hmro⟩ := F.called_set.mro
  have hmade := F.called_set.made
  have hsub := F.called_set.sub
  refine wpAny_call (codeAny_of_tree ?_)
  show wpAny _ _ (callAny (.type "set") _) _ _ _
  refine wpAny_pure ⟨Code.quiet_builtin _ (by decide +kernel), codeAny_builtin F.entry_type_call ?_⟩
  rw [Around.under_plain (weight_type_call_type "set" [.ref p] []) rfl]
  have q1 := F.called_set.notType
  have q2 := F.called_set.canCreate
  have q3 := F.typeCall_set_1 (.ref p)
  repeat (any_goals (first | assumption | wp_step))
  refine codeAny_mono (code_set_led1 (.ref p) (E := E) (Q₁ := fun ob s1 => ob = .ref s.heap.objs.size ∧ s1 = { s with heap := s.heap.push { cls := .type "set", dict := none, data := .set #[] 0 (.fresh 0 0 (!w.params.followText "set-order")) } }) ⟨rfl, rfl⟩) fun r s1 hr => ?_
  cases r with
  | error e => exact hr
  | ok fl =>
    cases fl with
    | ret ob =>
      obtain ⟨rfl, rfl⟩ := hr
      have gS : (s.heap.push { cls := .type "set", dict := none, data := .set #[] 0 (.fresh 0 0 (!w.params.followText "set-order")) }).get? s.heap.objs.size = some { cls := .type "set", dict := none, data := .set #[] 0 (.fresh 0 0 (!w.params.followText "set-order")) } := Heap.get?_push_size _ rfl
      have tS : Shared.TypeIs { s with heap := s.heap.push { cls := .type "set", dict := none, data := .set #[] 0 (.fresh 0 0 (!w.params.followText "set-order")) } } (.ref s.heap.objs.size) "set" := ⟨_, gS, rfl⟩
      have q4 := F.called_set.init.lookup
      have q5 := F.called_set.init.bind (.ref s.heap.objs.size)
      repeat (any_goals (first | assumption | wp_step))
      refine codeAny_mono (codeAny_call_builtin (R := wants (fun r s2 => r = .none ∧ ∃ hp' tk L es ep t, s2 = { s with heap := hp', toks := tk } ∧ SetN w hp' s.heap.objs.size L es ep t ∧ Has zs zs.length L ∧
          (∀ b o, s.heap.get? b = some o → hp'.get? b = some o)) E) F.called_set.init.plain F.entry_set_init (check_set_init_1 tS ?_)) fun r2 s2 hr2 => ?_
      · obtain ⟨⟨oc, od, oda, osl⟩, hol, hcl, nl, hdl⟩ := hp
        simp only at hcl hdl
        subst hcl hdl
        have hol' : (s.heap.push { cls := .type "set", dict := none, data := .set #[] 0 (.fresh 0 0 (!w.params.followText "set-order")) }).get? p = some { cls := .type "list", dict := od, data := .seq items nl, slots := osl } := Heap.get?_push_of_some _ hol
        have q6 := F.sub_list_set
        have q7 := F.sub_list_frozenset
        have q8 : (Value.type "list" == Value.type "dict") = false := by decide
        have hl1 : (s.heap.push { cls := .type "set", dict := none, data := .set #[] 0 (.fresh 0 0 (!w.params.followText "set-order")) }).IsList p items := ⟨_, hol', rfl, nl, rfl⟩
        unfold Builtin.«set.__init__» noKeywords Builtin.Frozenset.updateFrom
        generalize hPI : pyIter = PI
        wp_walk
        subst hPI
        refine wpAny_pyIter_list hl1 ?_
        refine wpAny_bind (wpAny_runValue ?_)
        have lt : p < s.heap.objs.size := Heap.lt_size hol
        have calm3 : A.in1.in1.in1.handled = none := by simp [hh]
        have neI : p ≠ (s.heap.push { cls := .type "set", dict := none, data := .set #[] 0 (.fresh 0 0 (!w.params.followText "set-order")) }).objs.size := by
          rw [Heap.size_push]
          exact Nat.ne_of_lt (Nat.lt_succ_of_lt lt)
        have notin : s.heap.objs.size ∉ [(s.heap.push { cls := .type "set", dict := none, data := .set #[] 0 (.fresh 0 0 (!w.params.followText "set-order")) }).objs.size, p] := by
          rw [Heap.size_push]
          simp only [List.mem_cons, List.mem_singleton, List.not_mem_nil, or_false, not_or]
          exact ⟨Nat.ne_of_lt (Nat.lt_succ_self _), Nat.ne_of_gt lt⟩
        have each : ∀ (i : Nat) (v : Value), items[i]? = some v → ∃ z, zs[i]? = some z ∧ v = .ref z.1 := fun i v hv => by
          have g : items.toList[i]? = some v := by rw [Array.getElem?_toList]; exact hv
          rw [are, List.getElem?_map] at g
          obtain ⟨z, hz, e⟩ := Option.map_eq_some_iff.mp g
          exact ⟨z, hz, e.symm⟩
        have out : ∀ b, s.heap.objs.size ≤ b → s.heap.get? b = none := fun b hb => Heap.get?_none_of_le hb
        refine fillN ((Walks.list calm3 _ p neI items).toS) notin zs size low each s.heap key (out _ (Nat.le_refl _)) (fun b hb => out b (by
            rw [List.mem_singleton.mp hb, Heap.size_push]
            exact Nat.le_succ _)) (by simp only [Around.in1_units]; omega) (items.size - 0) 0 _ (by omega) (Nat.zero_le _) ⟨⟨_, Heap.get?_push_size _ rfl, rfl, rfl⟩, (hl1.push _)⟩ (fun b o e => Heap.get?_push_of_some _ (Heap.get?_push_of_some _ e))
          ⟨[], #[], 0, _, SetN.fresh (Heap.get?_push_of_some _ gS), .none zs⟩ (fun s' L es ep t mv X g kk => ?_)
        obtain ⟨hp', g2, d2, tk, o2⟩ := s'
        have eg : g2 = s.gens := mv.gens
        have ed : d2 = s.drawn := mv.drawn
        have eo : o2 = s.os := mv.os
        subst eg ed eo
        show wpAny _ _ _ _ _ _
        refine wpAny_pure ?_
        show wpAny _ _ (ret Value.none) _ _ _
        rw [size] at g
        exact wpAny_pure ⟨rfl, hp', tk, L, es, ep, t, rfl, X, g, kk⟩
      · cases r2 with
        | error e => exact hr2
        | ok fl2 =>
          cases fl2 with
          | ret r =>
            obtain ⟨rfl, hp', tk, L, es, ep, t, rfl, X, g, kk⟩ := hr2
            repeat (any_goals (first | assumption | wp_step))
            exact fin _ _ _ _ _ _ X g kk
          | _ => exact hr2.elim
    | _ => exact hr.elim
end
end Own

namespace Own
open PySem PySem.Spec PyProof.Rows L2 Evl
/-! ### data as keys, and their order -/
mutual
/-- ints, texts and tuples of such -/
def kyD : PyData → Bool
  | .int _ => true
  | .str _ => true
  | .tuple ds => kyDs ds
  | _ => false
def kyDs : List PyData → Bool
  | [] => true
  | d :: ds => kyD d && kyDs ds
end
mutual
def nk : PyData → NestedKey
  | .int i => .num i
  | .str z => .text z
  | .tuple ds => .tup (nks ds)
  | _ => .none
def nks : List PyData → List NestedKey
  | [] => []
  | d :: ds => nk d :: nks ds
end
theorem kyDs_cons {d : PyData} {ds : List PyData} : kyDs (d :: ds) = (kyD d && kyDs ds) := rfl
theorem kyDs_iff {ds : List PyData} : kyDs ds = true ↔ ∀ d ∈ ds, kyD d = true := by
  induction ds with
  | nil => exact ⟨fun _ d hd => (by cases hd), fun _ => rfl⟩
  | cons x ds ih =>
    rw [kyDs_cons, Bool.and_eq_true, ih]
    exact ⟨fun h d hd => (List.mem_cons.mp hd).elim (fun e => e ▸ h.1) (h.2 d), fun h => ⟨h x List.mem_cons_self, fun d hd => h d (List.mem_cons_of_mem _ hd)⟩⟩
mutual
theorem nk_inj : ∀ (d d' : PyData), kyD d = true → kyD d' = true → nk d = nk d' → d = d'
  | .int i, d', _, h', e => by
    cases d' with
    | int j => cases e; rfl
    | str _ => cases e
    | tuple _ => rw [nk, nk] at e; cases e
    | _ => cases h'
  | .str z, d', _, h', e => by
    cases d' with
    | int j => cases e
    | str _ => cases e; rfl
    | tuple _ => rw [nk, nk] at e; cases e
    | _ => cases h'
  | .tuple ds, d', h, h', e => by
    cases d' with
    | int j => rw [nk, nk] at e; cases e
    | str _ => rw [nk, nk] at e; cases e
    | tuple ds' =>
      rw [nk, nk] at e
      injection e with e
      rw [kyD] at h h'
      rw [nks_inj ds ds' h h' e]
    | _ => cases h'
theorem nks_inj : ∀ (ds ds' : List PyData), kyDs ds = true → kyDs ds' = true → nks ds = nks ds' → ds = ds'
  | [], [], _, _, _ => rfl
  | [], _ :: _, _, _, e => by rw [nks, nks] at e; cases e
  | _ :: _, [], _, _, e => by rw [nks, nks] at e; cases e
  | d :: ds, d' :: ds', h, h', e => by
    rw [nks, nks] at e
    injection e with e1 e2
    rw [kyDs, Bool.and_eq_true] at h h'
    rw [nk_inj d d' h.1 h'.1 e1, nks_inj ds ds' h.2 h'.2 e2]
end
mutual
theorem nk_depth : ∀ (d : PyData), kyD d = true → (nk d).depth = d.depth
  | .int i, _ => rfl
  | .str z, _ => rfl
  | .tuple ds, h => by
    rw [kyD] at h
    show NestedKey.depthAll (nks ds) + 1 = PyData.depthAll ds + 1
    rw [nks_depth ds h]
theorem nks_depth : ∀ (ds : List PyData), kyDs ds = true → NestedKey.depthAll (nks ds) = PyData.depthAll ds
  | [], _ => rfl
  | d :: ds, h => by
    rw [kyDs, Bool.and_eq_true] at h
    show max (nk d).depth (NestedKey.depthAll (nks ds)) = max d.depth (PyData.depthAll ds)
    rw [nk_depth d h.1, nks_depth ds h.2]
end
mutual
theorem read_one {h : Heap} : ∀ (d d' : PyData) (v : Value) (as as' : List Addr), kyD d = true → kyD d' = true → Reads h v d as → Reads h v d' as' → d = d'
  | .int i, d', _, _, _, _, _, r, r' => by
    cases r
    cases r'
    rfl
  | .str z, d', _, _, _, _, _, r, r' => by
    cases r
    cases r'
    rfl
  | .tuple ds, d', _, _, _, k, k', r, r' => by
    cases r with
    | tuple h1 h2 h3 h4 =>
      cases r' with
      | tuple g1 g2 g3 g4 =>
        rw [h1] at g1
        cases g1
        rw [h3] at g3
        cases g3
        rw [kyD] at k k'
        rw [reads_one ds _ _ _ _ k k' h4 g4]
      | list g1 g2 g3 g4 => cases k'
      | dict g1 g2 g3 g4 g5 => cases k'
  | .none, _, _, _, _, k, _, _, _ => by cases k
  | .bool _, _, _, _, _, k, _, _, _ => by cases k
  | .list _, _, _, _, _, k, _, _, _ => by cases k
  | .dict _, _, _, _, _, k, _, _, _ => by cases k
theorem reads_one {h : Heap} : ∀ (ds ds' : List PyData) (vs : List Value) (as as' : List Addr), kyDs ds = true → kyDs ds' = true → ReadsAll h vs ds as → ReadsAll h vs ds' as' → ds = ds'
  | [], _, _, _, _, _, _, r, r' => by
    cases r
    cases r'
    rfl
  | d :: ds, _, _, _, _, k, k', r, r' => by
    cases r with
    | cons h1 h2 =>
      cases r' with
      | cons g1 g2 =>
        rw [kyDs_cons, Bool.and_eq_true] at k k'
        rw [read_one d _ _ _ _ k.1 k'.1 h1 g1, reads_one ds _ _ _ _ k.2 k'.2 h2 g2]
end
section
variable {X : Cx} {pk : List (Addr × Obj)} {σ : L2.St} {H : Hp} {s : Shared}
mutual
theorem da_key (I : Inv X pk σ H s) : ∀ (d : PyData) (v : V) (u : Value), kyD d = true → Da H v d → RelV v u → NestedIs s.heap (nk d) u ∧ ∃ as, Reads s.heap u d as
  | .int i, _, _, _, h, r => by
    cases h
    obtain ⟨t, rfl⟩ := r
    exact ⟨.int i t, _, .int i t⟩
  | .str x, _, _, _, h, r => by
    cases h
    obtain ⟨t, rfl⟩ := r
    exact ⟨.text x t, _, .str x t⟩
  | .tuple ds, _, _, k, h, r => by
    cases h with
    | tup hh ha =>
      cases r
      rw [kyD] at k
      obtain ⟨its, rv, ⟨o, ho, hc, n, hd⟩, _⟩ := I.tuple (st_of hh)
      obtain ⟨q1, as, q2⟩ := da_keys I ds _ its k ha rv
      refine ⟨?_, _, .tuple ho hc hd q2⟩
      rw [nk]
      exact .tup ho hc hd q1
  | .none, _, _, k, _, _ => by cases k
  | .bool _, _, _, k, _, _ => by cases k
  | .list _, _, _, k, _, _ => by cases k
  | .dict _, _, _, k, _, _ => by cases k
theorem da_keys (I : Inv X pk σ H s) : ∀ (ds : List PyData) (vs : List V) (us : List Value), kyDs ds = true → DaAll H vs ds → Vals vs us → NestedAll s.heap (nks ds) us ∧ ∃ as, ReadsAll s.heap us ds as
  | [], _, _, _, h, r => by
    cases h
    cases r
    exact ⟨.nil, _, .nil⟩
  | d :: ds, _, _, k, h, r => by
    rw [kyDs, Bool.and_eq_true] at k
    cases h with
    | cons h1 h2 =>
      cases r with
      | cons r1 r2 =>
        obtain ⟨a1, a2, a3⟩ := da_key I d _ _ k.1 h1 r1
        obtain ⟨b1, b2, b3⟩ := da_keys I ds _ _ k.2 h2 r2
        exact ⟨.cons a1 b1, _, .cons a3 b3⟩
end
end
/-! ### tuples that begin with a text, in order -/
/-- those that begin alike go on alike -/
structure Mix (ds : List PyData) : Prop where
  ky : ∀ d ∈ ds, kyD d = true
  hd : ∀ d ∈ ds, ∃ z r, d = .tuple (.str z :: r)
  al : ∀ z r r', .tuple (.str z :: r) ∈ ds → .tuple (.str z :: r') ∈ ds → PySem.W.alikeAll r r' = true
theorem key_at {h : Heap} {ds : List PyData} (ky : ∀ d ∈ ds, kyD d = true) {v : Value} {d : PyData} {as : List Addr} (hd : d ∈ ds) (r : Reads h v d as) : (PySem.W.dataKind h ds).keyOf v = some (PySem.W.keyToks d) := by
  have q : ∃ d, d ∈ ds ∧ ∃ as, Reads h v d as := ⟨d, hd, as, r⟩
  have e : (PySem.W.dataKind h ds).keyOf v = some (PySem.W.keyToks q.choose) := by
    show (open Classical in if q : ∃ d, d ∈ ds ∧ ∃ as, Reads h v d as then some (PySem.W.keyToks q.choose) else none) = _
    rw [dif_pos q]
  obtain ⟨m, as', r'⟩ := q.choose_spec
  rw [e, read_one _ _ _ _ _ (ky _ m) (ky _ hd) r' r]
section
variable {P : Program} {w : World} {A : Around} {s : Shared}
theorem sorts_mix {vs : List Value} {ds : List PyData} (e : PySem.W.EachIs (fun v d => ∃ as, Reads s.heap v d as) vs ds) (hm : Mix ds) (hu : ∀ d ∈ ds, A.units + d.depth < cLine) : PySem.W.SortsAt P w A s (PySem.W.dataKind s.heap ds) vs := by
  refine ⟨fun v hv => ?_, tuples' true, ?_, fun h2 E Q hq => ?_⟩
  · obtain ⟨d, hd, as, r⟩ := e.left v hv
    exact ⟨_, key_at hm.ky hd r⟩
  · intro E x y a b Q ha hb hq
    obtain ⟨d, as, hd, ra, rfl⟩ := PySem.W.dataKind_inv ha
    obtain ⟨d', as', hd', rb, rfl⟩ := PySem.W.dataKind_inv hb
    have room := hu d hd
    obtain ⟨z, r, rfl⟩ := hm.hd d hd
    obtain ⟨z', r', rfl⟩ := hm.hd d' hd'
    have hq2 : Q (PySem.W.dataLt (.tuple (.str z :: r)) (.tuple (.str z' :: r'))) s := hq
    rw [PySem.W.dataLt_tuple] at hq2
    clear hq
    cases ra with
    | @tuple l o xs n _ _ h1 h2 h3 h4 =>
      cases rb with
      | @tuple l' o' xs' n' _ _ k1 k2 k3 k4 =>
        have n1 : xs.size = (PyData.str z :: r).length := by simpa using SeqAt.ReadsAll.length _ _ _ h4
        have n2 : xs'.size = (PyData.str z' :: r').length := by simpa using SeqAt.ReadsAll.length _ _ _ k4
        refine PySem.W.kat_lt h1 h3 k1 k3 ?_
        rw [n1, n2]
        generalize xs.toList = ls at h4
        generalize xs'.toList = ls' at k4
        cases h4 with
        | cons r1 r2 =>
          cases k4 with
          | cons q1 q2 =>
            rw [List.zip_cons_cons]
            have al : PySem.W.alike (.str z) (.str z') = true := by simp [PySem.W.alike]
            have d0 : PyData.depthAll r + 1 ≤ (PyData.tuple (.str z :: r)).depth := by
              show PyData.depthAll r + 1 ≤ max 0 (PyData.depthAll r) + 1
              omega
            refine PySem.W.kat_cons (PySem.W.eqAt_alike _ _ A s _ _ _ _ r1 q1 al (by show A.units + min 0 0 < cLine; omega) P w _ _ ?_)
            cases hx : PyData.eqv (.str z) (.str z') with
            | true =>
              have ez : z = z' := by simpa [PyData.eqv] using hx
              rw [PySem.W.dataLt_all_yes al hx] at hq2
              subst ez
              refine PySem.W.kat_yes (PySem.W.katLex_alike r r' 1 _ _ _ _ r2 q2 (hm.al z r r' hd hd') (by omega) (fun _ hi => absurd hi (by decide)) ?_ hq2)
              rw [List.length_cons, List.length_cons]
              exact decide_eq_decide.mpr (by omega)
            | false =>
              rw [PySem.W.dataLt_all_no al hx] at hq2
              exact PySem.W.kat_no (PySem.W.oneLt_alike (fun _ xs ex => by cases ex) r1 q1 al (fun ex => by cases ex) (by show A.units + min 0 0 < cLine; omega) hq2)
  · obtain ⟨fs, t1, t2, t3⟩ := PySem.W.each_katTups e fun d hd => by
      obtain ⟨z, r, rfl⟩ := hm.hd d hd
      exact ⟨_, _, rfl⟩
    refine PySem.W.kat_kind (T := Value.type "str") t1 (by omega) (fun f hf => ?_) (beq_self_eq_true _) ?_
    · obtain ⟨x, r, as, m1, m2⟩ := t3 f hf
      obtain ⟨z, r', ez⟩ := hm.hd _ m1
      cases ez
      cases m2
      exact PySem.W.Looks.of_pure rfl
    · have e1 : (Value.type "str" != Value.type "tuple") = true := by first | rfl | decide
      rw [e1]
      exact hq
end
end Own

namespace Own
open PySem PySem.Spec PyProof.Rows L2 Evl
/-- ascending -/
def ascD (ds : List PyData) : Prop := ds.Pairwise fun d d' => PySem.W.dataLt d' d = false
theorem Mix.sub {ds ds' : List PyData} (m : Mix ds) (h : ∀ d ∈ ds', d ∈ ds) : Mix ds' := ⟨fun d hd => m.ky d (h d hd), fun d hd => m.hd d (h d hd), fun z r r' h1 h2 => m.al z r r' (h _ h1) (h _ h2)⟩
theorem ms_asc {β : Type} (enc : β → PyData) (bs : List β) : ascD ((bs.mergeSort (PySem.W.dataLe false enc)).map enc) := by
  refine List.pairwise_map.mpr ((PySem.W.sort_pairwise (PySem.W.sortLe_total _ _ _) bs).imp fun {b b'} h => ?_)
  have h : (!PySem.W.dataLt (enc b') (enc b)) = true := h
  rw [Bool.not_eq_true'] at h
  exact h
theorem keys_mix {β : Type} {h : Heap} {enc : β → PyData} : ∀ {vs : List Value} {bs : List β} {ds : List PyData}, (∀ d ∈ ds, kyD d = true) → (∀ b ∈ bs, enc b ∈ ds) → PySem.W.EachIs (fun v b => ∃ as, Reads h v (enc b) as) vs bs → PySem.W.EachIs (fun v b => (PySem.W.dataKind h ds).keyOf v = some (PySem.W.keyToks (enc b))) vs bs
  | _, _, _, _, _, .nil => .nil
  | _, _, _, ky, m, .cons ⟨as, r⟩ t => .cons (key_at ky (m _ List.mem_cons_self) r) (keys_mix ky (fun b hb => m b (List.mem_cons_of_mem _ hb)) t)
theorem each_map' {β γ : Type} {R : Value → γ → Prop} (f : β → γ) : ∀ {vs : List Value} {bs : List β}, PySem.W.EachIs (fun v b => R v (f b)) vs bs → PySem.W.EachIs R vs (bs.map f)
  | _, _, .nil => .nil
  | _, _, .cons h t => .cons h (each_map' f t)
section
variable {P : Program} {w : World} {A : Around} {E : Value → Shared → Prop} {s : Shared}
/-- sorted(xs) of such tuples -/
theorem sort_mix {β : Type} {R : Value → β → Prop} {enc : β → PyData} {l : Addr} {vs : List Value} {bs : List β} {Q : Value → Shared → Prop} (hl : s.heap.IsList l vs.toArray) (e : PySem.W.EachIs R vs bs) (er : PySem.W.EachIs (fun v b => ∃ as, Reads s.heap v (enc b) as) vs bs) (hm : Mix (bs.map enc))
    (hu : ∀ b ∈ bs, A.units + 2 + (enc b).depth < cLine) (hL : vs.length ≤ sizeLine) (fin : ∀ out : List Value, PySem.W.EachIs R out (bs.mergeSort (PySem.W.dataLe false enc)) → Q (.ref (s.heap.objs.size + 1)) { s with heap := sortedAll s.heap vs out.toArray }) :
    wpAny (model P w) A (call (.builtin "sorted") [.ref l]) Q E s := by
  have er' : PySem.W.EachIs (fun v b => ∃ as, Reads (PySem.W.sortingHeap (PySem.W.copyHeap s.heap vs) (s.heap.objs.size + 1) vs) v (enc b) as) vs bs := er.mono fun _ _ ⟨as, r⟩ => ⟨as, PyProof.Rows.Reads.keeps (fun _ _ => PySem.W.sorting_copy_old) r⟩
  refine PySem.W.sorted_vals hl (sorts_mix (s := { s with heap := PySem.W.sortingHeap (PySem.W.copyHeap s.heap vs) (s.heap.objs.size + 1) vs }) (each_map' (R := fun v d => ∃ as, Reads (PySem.W.sortingHeap (PySem.W.copyHeap s.heap vs) (s.heap.objs.size + 1) vs) v d as) enc er') hm (fun d hd => ?_)) hL (fin _ ?_)
  · obtain ⟨b, hb, rfl⟩ := List.mem_map.mp hd
    exact hu b hb
  · exact PySem.W.sortVals_each (κ := PySem.W.dataKind (PySem.W.sortingHeap (PySem.W.copyHeap s.heap vs) (s.heap.objs.size + 1) vs) (bs.map enc)) (rev := false) (fun b => PySem.W.keyToks (enc b)) e (keys_mix hm.ky (fun b hb => List.mem_map.mpr ⟨b, hb, rfl⟩) er')
/-- sorted(set) of such tuples -/
theorem sort_set {a : Addr} {L : List (Addr × PyData)} {es : Array (Int × Value)} {ep : Nat} {t : SetTable} {Q : Value → Shared → Prop} (R : SetN w s.heap a (L.map fun q => (q.1, nk q.2)) es ep t) (hh : A.handled = none) (hm : Mix (L.map Prod.snd)) (hr : ∀ q ∈ L, ∃ as, Reads s.heap (.ref q.1) q.2 as) (hu : ∀ q ∈ L, A.units + 2 + q.2.depth < cLine)
    (fin : ∀ s' p (out : List Value) (c : Nat) (L2 : List (Addr × PyData)), (∀ b o, s.heap.get? b = some o → s'.heap.get? b = some o) → s'.gens = s.gens → s'.os = s.os → s.heap.objs.size ≤ p → s'.heap.get? p = some (seqObj "list" out.toArray c) → out = L2.map (fun q => Value.ref q.1) → L2.Perm L → ascD (L2.map Prod.snd) → Q (.ref p) s') :
    wpAny (model P w) A (call (.builtin "sorted") [.ref a]) Q E s := by
  obtain ⟨o, ho, hex, hd⟩ := R.obj
  have esz := R.esz
  have low := R.low
  have lowL : L.length < 64 := by rw [List.length_map] at low; exact low
  rw [List.length_map] at esz
  refine Calls.call_function_entry kind_sorted plain_sorted entry_sorted (args_sorted1 _) ?_
  unfold Builtin.«sorted»
  refine wpAny_bind (m := checkCount "sorted" 1 1 _) (wpAny_pure ?_)
  refine wpAny_bind (collect_set (A := A.in1) hh ⟨o, ho, hex.1, hd⟩ R.fit (by have : scanBound = 4096 := rfl; omega) R.tab.ris R.ld fun s1 vs k1 sz1 g1 o1 pm => ?_)
  have eL : es.toList.map Prod.snd = L.map fun q => Value.ref q.1 := by
    rw [R.row, List.map_map, List.map_map]
    rfl
  rw [show (es.toList.map (·.2)) = L.map fun q => Value.ref q.1 from eL] at pm
  obtain ⟨L1, p1, e1⟩ := perm_lift (fun q : Addr × PyData => Value.ref q.1) pm L rfl
  have lenV : vs.length = L.length := by rw [← e1, List.length_map, p1.length_eq]
  refine wpAny_bind (wpAny_newList ?_ (by rw [sizeLine_eq]; omega))
  have hoL : (s1.heap.push (seqObj "list" vs.toArray 0)).get? s1.heap.objs.size = some (seqObj "list" vs.toArray 0) := Heap.get?_push_size _ rfl
  have kept : ∀ b u, s1.heap.get? b = some u → (PySem.W.sortingHeap (s1.heap.push (seqObj "list" vs.toArray 0)) s1.heap.objs.size vs).get? b = some u := fun b u g => PySem.W.sortingHeap_old (Nat.ne_of_lt (Heap.lt_size g)) (Heap.get?_push_of_some _ g)
  have each : ∀ l : List (Addr × PyData), (∀ q ∈ l, q ∈ L) → PySem.W.EachIs (fun v (q : Addr × PyData) => v = Value.ref q.1 ∧ ∃ as, Reads (PySem.W.sortingHeap (s1.heap.push (seqObj "list" vs.toArray 0)) s1.heap.objs.size vs) v q.2 as) (l.map fun q => Value.ref q.1) l := by
    intro l
    induction l with
    | nil => intro _; exact .nil
    | cons q l ih =>
      intro hq
      obtain ⟨as, r⟩ := hr q (hq q List.mem_cons_self)
      exact .cons ⟨rfl, as, PyProof.Rows.Reads.keeps (fun b u g => kept b u (k1 b u g)) r⟩ (ih fun y hy => hq y (List.mem_cons_of_mem _ hy))
  have e := each L1 fun q hq => p1.mem_iff.mp hq
  rw [e1] at e
  have mem1 : ∀ d ∈ L1.map Prod.snd, d ∈ L.map Prod.snd := fun d hd => (p1.map Prod.snd).mem_iff.mp hd
  have m1 := hm.sub mem1
  have S : PySem.W.SortsAt P w A.in1.in1 { s1 with heap := PySem.W.sortingHeap (s1.heap.push (seqObj "list" vs.toArray 0)) s1.heap.objs.size vs } _ vs := sorts_mix (s := { s1 with heap := PySem.W.sortingHeap (s1.heap.push (seqObj "list" vs.toArray 0)) s1.heap.objs.size vs }) (each_map' (R := fun v d => ∃ as, Reads (PySem.W.sortingHeap (s1.heap.push (seqObj "list" vs.toArray 0)) s1.heap.objs.size vs) v d as) Prod.snd (e.mono fun _ _ z => z.2)) m1 (fun d hd => by
    obtain ⟨q, hq, rfl⟩ := List.mem_map.mp hd
    have := hu q (p1.mem_iff.mp hq)
    simp only [Around.in1_units]
    omega)
  refine wpAny_bind (wpAny_holding (wpAny_call_entry slot_list_sort ⟨_, hoL, rfl⟩ entry_list_sort (PySem.W.list_sort_vals hoL S (by rw [lenV, sizeLine_eq]; omega) ⟨_, rfl, ?_⟩) (args_list_sort _)))
  have eo := PySem.W.sortVals_each (κ := PySem.W.dataKind (PySem.W.sortingHeap (s1.heap.push (seqObj "list" vs.toArray 0)) s1.heap.objs.size vs) (L1.map Prod.snd)) (rev := false) (fun q : Addr × PyData => PySem.W.keyToks q.2) (e.mono fun _ _ z => z.1) (keys_mix m1.ky (fun b hb => List.mem_map.mpr ⟨b, hb, rfl⟩) (e.mono fun _ _ z => z.2))
  have out_eq : ∀ {us : List Value} {l : List (Addr × PyData)}, PySem.W.EachIs (fun v (q : Addr × PyData) => v = Value.ref q.1) us l → us = l.map fun q => Value.ref q.1 := by
    intro us l z
    induction z with
    | nil => rfl
    | cons h _ ih => rw [List.map_cons, h, ih]
  obtain ⟨c, hc⟩ := sortedHeap_at (vs := vs) (out := (PySem.W.sortVals (PySem.W.dataKind (PySem.W.sortingHeap (s1.heap.push (seqObj "list" vs.toArray 0)) s1.heap.objs.size vs) (L1.map Prod.snd)) false vs vs).toArray) hoL
  refine wpAny_pure ⟨_, rfl, fin _ s1.heap.objs.size _ c _ (fun b u g => ?_) g1 o1 sz1 hc (out_eq eo) ((List.mergeSort_perm L1 _).trans p1) (ms_asc Prod.snd L1)⟩
  have q := k1 b u g
  have lt := Heap.lt_size q
  show (sortedHeap (s1.heap.push (seqObj "list" vs.toArray 0)) s1.heap.objs.size vs _).get? b = some u
  rw [sortedHeap_old (Nat.ne_of_lt lt) (by rw [size_push']; exact Nat.lt_succ_of_lt lt)]
  exact Heap.get?_push_of_some _ q
end
/-! ### as calls -/
/-- the set at a, without the tuples themselves -/
def SetM (w : World) (h : Heap) (a : Addr) (L : List KA) : Prop := ∃ es ep t, (∃ o, h.get? a = some o ∧ o.ExactSet ∧ o.data = .set es ep t) ∧ es.toList = L.map (ent w) ∧ TabOk t (L.map (kh w)) ∧ (L.map Prod.snd).Nodup ∧ (w.params.followText "set-order" = true ∨ t.led = true) ∧ L.length * 5 < t.mask * 3 ∧ L.length < 64
theorem SetN.m {w : World} {h : Heap} {a : Addr} {L : List KA} {es : Array (Int × Value)} {ep : Nat} {t : SetTable} (R : SetN w h a L es ep t) : SetM w h a L := ⟨es, ep, t, R.obj, R.row, R.tab, R.one, R.ld, R.air, R.low⟩
theorem SetM.n {w : World} {h : Heap} {a : Addr} {L : List KA} (R : SetM w h a L) (key : ∀ p ∈ L, NKI h p.2 p.1) : ∃ es ep t, SetN w h a L es ep t := by
  obtain ⟨es, ep, t, h1, h2, h3, h4, h5, h6, h7⟩ := R
  exact ⟨es, ep, t, h1, h2, h3, h4, key, h5, h6, h7⟩
theorem SetM.at {w : World} {h h' : Heap} {a : Addr} {L : List KA} (R : SetM w h a L) (k : ∀ o, h.get? a = some o → h'.get? a = some o) : SetM w h' a L := by
  obtain ⟨es, ep, t, ⟨o, ho, q⟩, r⟩ := R
  exact ⟨es, ep, t, ⟨o, k o ho, q⟩, r⟩
def SetDO (w : World) (a : Addr) (L : List (Addr × PyData)) : HO := .ext fun h => SetM w h a (L.map fun q => (q.1, nk q.2))
theorem setDO_new {w : World} {P : Program} {H : Hp} {h : Heap} {a : Addr} {L : List (Addr × PyData)} (R : SetM w h a (L.map fun q => (q.1, nk q.2))) : ObjOk P w H h a (SetDO w a L) := by
  have ⟨_, _, _, ⟨o, ho, _⟩, _⟩ := R
  exact ⟨R, ⟨_, ho⟩, fun _ _ p k => SetM.at p k⟩
/-- each of the tuples zq once -/
structure Dist (zq L : List (Addr × PyData)) : Prop where
  of : ∀ q ∈ L, q ∈ zq
  on : ∀ q ∈ zq, q.2 ∈ L.map Prod.snd
  nd : (L.map Prod.snd).Nodup
  le : L.length ≤ zq.length
def isT (d : PyData) : Prop := kyD d = true ∧ d.depth ≤ 8 ∧ ∃ r, d = .tuple r
section
variable {X : Cx}
def rSetD (K : PySem.W.Frag) (w : World) : List V → Hp → VK → Prop := fun vs H Q => ∃ (l : Addr) (zq : List (Addr × PyData)), vs = [.ref l] ∧ SqL K H l (zq.map fun q => V.ref q.1) ∧ (∀ q ∈ zq, Da H (.ref q.1) q.2 ∧ isT q.2) ∧ zq.length < 64 ∧
  ∀ (a : Addr) (L : List (Addr × PyData)), Dist zq L → H a = none → Q (.ref a) (upd H a (SetDO w a L))
theorem pre_map {α β : Type} (f : α → β) {zs : List α} : ∀ {L : List β}, (∀ p ∈ L, p ∈ zs.map f) → ∃ L0 : List α, L = L0.map f ∧ ∀ q ∈ L0, q ∈ zs
  | [], _ => ⟨[], rfl, fun q hq => by cases hq⟩
  | p :: L, h => by
    obtain ⟨q, hq, e⟩ := List.mem_map.mp (h p List.mem_cons_self)
    obtain ⟨L0, e0, h0⟩ := pre_map f (L := L) fun y hy => h y (List.mem_cons_of_mem _ hy)
    exact ⟨q :: L0, by rw [List.map_cons, e, e0], fun y hy => (List.mem_cons.mp hy).elim (fun z => z ▸ hq) (h0 y)⟩
theorem vals_refs : ∀ {zq : List (Addr × PyData)} {us : List Value}, Vals (zq.map fun q => V.ref q.1) us → us = zq.map fun q => Value.ref q.1
  | [], _, r => by
    cases r
    rfl
  | q :: zq, _, r => by
    cases r with
    | cons r1 r2 =>
      cases r1
      rw [vals_refs r2]
      rfl
theorem refs_vals : ∀ (zq : List (Addr × PyData)), Vals (zq.map fun q => V.ref q.1) (zq.map fun q => Value.ref q.1)
  | [] => .nil
  | _ :: zq => .cons rfl (refs_vals zq)
theorem cr_setD (hc : X.calm = true) (hu : X.A.units + 12 < cLine) : CallR X (.type "set") (rSetD X.K X.w) := by
  intro pk s τ H vs us Q I r h
  obtain ⟨l, zq, rfl, hl, hz, low, q⟩ := h
  rw [Vals.ref1 r]
  obtain ⟨its, rv, pl, _⟩ := I.list hl
  have key : ∀ y ∈ zq.map (fun q : Addr × PyData => ((q.1, nk q.2) : KA)), NKI s.heap y.2 y.1 := fun y hy => by
    obtain ⟨q0, m0, rfl⟩ := List.mem_map.mp hy
    obtain ⟨h1, h2, h3, _⟩ := hz q0 m0
    exact ⟨(da_key I _ _ _ h2 h1 rfl).1, by rw [nk_depth _ h2]; exact h3⟩
  refine setN_call (zq.map fun q => (q.1, nk q.2)) (I.ok.hd hc) pl.isList (by rw [List.map_map]; exact vals_refs rv) key (by rw [List.length_map]; exact low) hu fun hp' tk L es ep t S g kk => ?_
  rw [List.length_map] at g
  obtain ⟨L0, e0, m0⟩ := pre_map (fun q : Addr × PyData => ((q.1, nk q.2) : KA)) (zs := zq) (L := L) fun p hp => List.mem_of_mem_take (g.of p hp)
  subst e0
  have tk_all : (zq.map fun q : Addr × PyData => ((q.1, nk q.2) : KA)).take zq.length = zq.map fun q => (q.1, nk q.2) := List.take_of_length_le (by rw [List.length_map]; exact Nat.le_refl _)
  have D : Dist zq L0 := by
    refine ⟨m0, fun q0 hq => ?_, ?_, ?_⟩
    · have z := g.on (q0.1, nk q0.2) (by rw [tk_all]; exact List.mem_map.mpr ⟨q0, hq, rfl⟩)
      rw [List.map_map] at z
      obtain ⟨q1, hq1, e⟩ := List.mem_map.mp z
      have e2 : nk q1.2 = nk q0.2 := e
      have e3 := nk_inj _ _ (hz q1 (m0 q1 hq1)).2.1 (hz q0 hq).2.1 e2
      exact List.mem_map.mpr ⟨q1, hq1, e3⟩
    · have z := S.one
      rw [List.map_map] at z
      have z2 : ((L0.map Prod.snd).map nk).Nodup := by rw [List.map_map]; exact z
      exact nodup_of_map z2
    · have z := g.le
      rw [List.length_map] at z
      exact z
  exact ⟨.ref _, upd H s.heap.objs.size (SetDO X.w s.heap.objs.size L0), I.laid (t' := tk) kk (Nat.le_refl _) (setDO_new S.m), rfl, q _ L0 D (I.hok.fresh (Nat.le_refl _))⟩
def rSortD (w : World) : List V → Hp → VK → Prop := fun vs H Q => ∃ (a : Addr) (L : List (Addr × PyData)), vs = [.ref a] ∧ H a = some (SetDO w a L) ∧ (∀ q ∈ L, Da H (.ref q.1) q.2 ∧ isT q.2) ∧ Mix (L.map Prod.snd) ∧
  ∀ (p : Addr) (L2 : List (Addr × PyData)), L2.Perm L → ascD (L2.map Prod.snd) → H p = none → Q (.ref p) (upd H p (.lst (L2.map fun q => V.ref q.1)))
theorem cr_sortD (hc : X.calm = true) (hu : X.A.units + 12 < cLine) : CallR X (.builtin "sorted") (rSortD X.w) := by
  intro pk s τ H vs us Q I r h
  obtain ⟨a, L, rfl, ha, hz, hm, q⟩ := h
  have R : SetM X.w s.heap a (L.map fun q => (q.1, nk q.2)) := (I.hok a _ ha).1
  rw [Vals.ref1 r]
  obtain ⟨es, ep, t, S⟩ := R.n fun y hy => by
    obtain ⟨q0, m0, rfl⟩ := List.mem_map.mp hy
    obtain ⟨h1, h2, h3, _⟩ := hz q0 m0
    exact ⟨(da_key I _ _ _ h2 h1 rfl).1, by rw [nk_depth _ h2]; exact h3⟩
  have low := S.low
  rw [List.length_map] at low
  refine sort_set S (I.ok.hd hc) hm (fun q0 m0 => (da_key I _ _ _ (hz q0 m0).2.1 (hz q0 m0).1 rfl).2) (fun q0 m0 => by have := (hz q0 m0).2.2.1; omega) fun s' p out c L2 k g o hp hg eo pm as => ?_
  have hlen : (L2.map fun q : Addr × PyData => V.ref q.1).length ≤ sizeLine := by rw [List.length_map, pm.length_eq, sizeLine_eq]; omega
  have hn : H p = none := I.hok.fresh hp
  have rv : Vals (L2.map fun q : Addr × PyData => V.ref q.1) out := by rw [eo]; exact refs_vals L2
  have J : Inv X pk τ (upd H p (.lst (L2.map fun q => V.ref q.1))) { s with heap := s'.heap, gens := s'.gens, drawn := s'.drawn, toks := s'.toks } :=
    I.call (ch := []) (Un.laid k hp hn) (I.hok.laid k hp ⟨hlen, out, c, rv, hg⟩) (by rw [g]; exact I.bare) (fun _ z => nomatch z)
  have e : s' = { s with heap := s'.heap, gens := s'.gens, drawn := s'.drawn, toks := s'.toks } := by
    cases s'
    cases s
    cases o
    rfl
  rw [e]
  exact ⟨.ref p, _, J, rfl, q p L2 pm as hn⟩
/-- sorted(xs), xs a list -/
def rSortQ (K : PySem.W.Frag) : List V → Hp → VK → Prop := fun vs H Q => ∃ (l : Addr) (zq : List (Addr × PyData)), vs = [.ref l] ∧ SqL K H l (zq.map fun q => V.ref q.1) ∧ (∀ q ∈ zq, Da H (.ref q.1) q.2 ∧ isT q.2) ∧ Mix (zq.map Prod.snd) ∧ zq.length ≤ 4000 ∧
  ∀ (p : Addr) (L2 : List (Addr × PyData)), L2.Perm zq → ascD (L2.map Prod.snd) → H p = none → Q (.ref p) (upd H p (.lst (L2.map fun q => V.ref q.1)))
theorem cr_sortQ (hu : X.A.units + 12 < cLine) : CallR X (.builtin "sorted") (rSortQ X.K) := by
  intro pk s τ H vs us Q I r h
  obtain ⟨l, zq, rfl, hl, hz, hm, low, q⟩ := h
  rw [Vals.ref1 r]
  obtain ⟨its, rv, pl, _⟩ := I.list hl
  have ei := vals_refs rv
  subst ei
  have each : ∀ l : List (Addr × PyData), (∀ q ∈ l, q ∈ zq) → PySem.W.EachIs (fun v (q : Addr × PyData) => v = Value.ref q.1 ∧ ∃ as, Reads s.heap v q.2 as) (l.map fun q => Value.ref q.1) l := by
    intro l
    induction l with
    | nil => intro _; exact .nil
    | cons q l ih =>
      intro hq
      have m := hq q List.mem_cons_self
      exact .cons ⟨rfl, (da_key I _ _ _ (hz q m).2.1 (hz q m).1 rfl).2⟩ (ih fun y hy => hq y (List.mem_cons_of_mem _ hy))
  have e := each zq fun q hq => hq
  refine sort_mix (R := fun v (q : Addr × PyData) => v = Value.ref q.1) (enc := Prod.snd) pl.isList (e.mono fun _ _ z => z.1) (e.mono fun _ _ z => z.2) hm (fun q m => by have := (hz q m).2.2.1; omega) (by rw [List.length_map, sizeLine_eq]; omega) fun out eo => ?_
  have out_eq : ∀ {us : List Value} {l : List (Addr × PyData)}, PySem.W.EachIs (fun v (q : Addr × PyData) => v = Value.ref q.1) us l → us = l.map fun q => Value.ref q.1 := by
    intro us l z
    induction z with
    | nil => rfl
    | cons h _ ih => rw [List.map_cons, h, ih]
  have eo := out_eq eo
  have pm := List.mergeSort_perm zq (PySem.W.dataLe false Prod.snd)
  obtain ⟨c, hc⟩ := sortedAll_at s.heap (zq.map fun q => Value.ref q.1) out.toArray
  have hlen : ((zq.mergeSort (PySem.W.dataLe false Prod.snd)).map fun q : Addr × PyData => V.ref q.1).length ≤ sizeLine := by rw [List.length_map, pm.length_eq, sizeLine_eq]; omega
  have rv2 : Vals ((zq.mergeSort (PySem.W.dataLe false Prod.snd)).map fun q : Addr × PyData => V.ref q.1) out := by rw [eo]; exact refs_vals _
  exact ⟨.ref _, _, I.laid (a := s.heap.objs.size + 1) (o := .lst ((zq.mergeSort (PySem.W.dataLe false Prod.snd)).map fun q => V.ref q.1)) (t' := s.toks) (fun b u g => sortedAll_old g) (Nat.le_succ _) ⟨hlen, out, c, rv2, hc⟩, rfl, q _ _ pm (ms_asc Prod.snd zq) (I.hok.fresh (Nat.le_succ _))⟩
end
end Own

namespace Own
open PySem PySem.Spec PyProof.Rows L2 Evl
/-! ### three sources in one comprehension -/
section
variable {prog : Program} {w : World} {A : Around} {elt t0 i0 t1 i1 t2 i2 : Expr} {q0 q1 q2 : List Expr} {scope : Scope} {pos : Pos} {acc : Value} {env : Env}
abbrev lc3E (elt t0 i0 t1 i1 t2 i2 : Expr) (q0 q1 q2 : List Expr) (scope : Scope) (pos : Pos) : Expr := .ListComp elt [⟨t0, i0, q0, 0⟩, ⟨t1, i1, q1, 0⟩, ⟨t2, i2, q2, 0⟩] scope pos
/-- what a turn of a clause's loop does once its tests are true -/
def Loops (prog : Program) (w : World) (A : Around) (e : Expr) (d : Nat) (tg : Expr) (ifs : List Expr) (acc : Value) (env : Env) (go : (Shared → Prop) → Shared → Prop) : Prop :=
  ∀ (it : Value) (R : Result → Shared → Prop) (I : Nat → Shared → Prop), (∀ n s, I n s → wpAny (model prog w) A (pyNext it) (fun r s1 => match r with
      | none => R (.ok .next) s1
      | some v => wpAny (model prog w) A (letOwnedTupleGo tg it v) (fun _ s2 => wpAny (model prog w) A (assign tg env v) (fun _ s3 =>
          wpAny (model prog w) A (forIn ifs true fun c r => if r = true then do let ok ← isTrue c env (eval c env); pure (ForInStep.yield ok) else pure (ForInStep.yield r)) (fun ok s4 =>
            if ok = true then go (fun s5 => ∃ m, m < n ∧ I m s5) s4 else ∃ m, m < n ∧ I m s4) (fun _ _ => False) s3) (fun _ _ => False) s2) (fun _ _ => False) s1) (fun _ _ => False) s) →
    ∀ n s, I n s → codeAny (model prog w) A (.compLoop e d it acc env) R s
/-- the next clause's loop -/
def goCl (prog : Program) (w : World) (A : Around) (e : Expr) (d : Nat) (src : Expr) (acc : Value) (env : Env) : (Shared → Prop) → Shared → Prop := fun Post s => wpAny (model prog w) A (eval src env) (fun x s1 => wpAny (model prog w) A (pyIter x) (fun it s2 =>
  codeAny (model prog w) A (.compStart e d it acc env) (fun r s3 => match r with
    | .ok _ => Post s3
    | .error _ => False) s2) (fun _ _ => False) s1) (fun _ _ => False) s
/-- the item put in -/
def goAp (prog : Program) (w : World) (A : Around) (elt : Expr) (acc : Value) (env : Env) : (Shared → Prop) → Shared → Prop := fun Post s => wpAny (model prog w) A (eval elt env) (fun x s1 => wpAny (model prog w) A (call (.builtin "list.append") [acc, x]) (fun _ s2 => Post s2) (fun _ _ => False) s1) (fun _ _ => False) s
theorem loops0 (hs : ∀ x, foldedSetIterable i1 env x = pure x) : Loops prog w A (lc3E elt t0 i0 t1 i1 t2 i2 q0 q1 q2 scope pos) 0 t0 q0 acc env (goCl prog w A (lc3E elt t0 i0 t1 i1 t2 i2 q0 q1 q2 scope pos) 1 i1 acc env) := by
  intro it R I turn n s h
  refine codeAny_loop rfl I (fun n s hI => ?_) n h
  show wpAny _ A ((compTurn (lc3E elt t0 i0 t1 i1 t2 i2 q0 q1 q2 scope pos) 0 it acc env).onRaise (fun x => do noteFrame x env; theTreesLotGoes x)) _ _ s
  refine wpAny_noted ?_
  have e : compTurn (lc3E elt t0 i0 t1 i1 t2 i2 q0 q1 q2 scope pos) 0 it acc env = (do
      standAt i0.pos
      match ← pyNext it with
      | none => pure (.done .next)
      | some v =>
        letOwnedTupleGo t0 it v
        assign t0 env v
        let mut ok := true
        for c in q0 do
          if ok then ok ← isTrue c env (eval c env)
        if ok then
          let x ← eval i1 env
          standAt i1.pos
          let x ← foldedSetIterable i1 env x
          let _ ← runOwn (.compStart (lc3E elt t0 i0 t1 i1 t2 i2 q0 q1 q2 scope pos) 1 (← holding [x] (pyIter x)) acc env) env
        again (.compLoop (lc3E elt t0 i0 t1 i1 t2 i2 q0 q1 q2 scope pos) 0 it acc env)) := by rfl
  rw [e]
  refine wpAny_bind (wpAny_standAt (wpAny_bind (thnF (turn n s hI) fun r s1 g1 => ?_)))
  cases r with
  | none => exact wpAny_pure g1
  | some v =>
    refine wpAny_bind (thnF g1 fun _ s2 g2 => wpAny_bind (thnF g2 fun _ s3 g3 => wpAny_bind (thnF g3 fun ok s4 g4 => ?_)))
    cases ok with
    | false => exact wpAny_pure ⟨rfl, g4⟩
    | true =>
      refine wpAny_bind (thnF g4 fun x s5 g5 => wpAny_bind (wpAny_standAt (wpAny_bind (wpAny_of_eq (hs x) (wpAny_bind (wpAny_holding (thnF g5 fun it1 s6 g6 => ?_)))))))
      refine wpAny_bind (wpAny_runOwn ?_)
      rw [Around.mark_none]
      refine codeAny_mono g6 fun r s7 hr => ?_
      cases r with
      | ok f =>
        first
          | exact wpAny_pure ⟨rfl, hr⟩
          | exact wpAny_bind (wpAny_pure (wpAny_pure ⟨rfl, hr⟩))
      | error e => exact hr.elim
theorem loops1 (hs : ∀ x, foldedSetIterable i2 env x = pure x) : Loops prog w A (lc3E elt t0 i0 t1 i1 t2 i2 q0 q1 q2 scope pos) 1 t1 q1 acc env (goCl prog w A (lc3E elt t0 i0 t1 i1 t2 i2 q0 q1 q2 scope pos) 2 i2 acc env) := by
  intro it R I turn n s h
  refine codeAny_loop rfl I (fun n s hI => ?_) n h
  show wpAny _ A ((compTurn (lc3E elt t0 i0 t1 i1 t2 i2 q0 q1 q2 scope pos) 1 it acc env).onRaise (fun x => do noteFrame x env; theTreesLotGoes x)) _ _ s
  refine wpAny_noted ?_
  have e : compTurn (lc3E elt t0 i0 t1 i1 t2 i2 q0 q1 q2 scope pos) 1 it acc env = (do
      standAt i1.pos
      match ← pyNext it with
      | none => pure (.done .next)
      | some v =>
        letOwnedTupleGo t1 it v
        assign t1 env v
        let mut ok := true
        for c in q1 do
          if ok then ok ← isTrue c env (eval c env)
        if ok then
          let x ← eval i2 env
          standAt i2.pos
          let x ← foldedSetIterable i2 env x
          let _ ← runOwn (.compStart (lc3E elt t0 i0 t1 i1 t2 i2 q0 q1 q2 scope pos) 2 (← holding [x] (pyIter x)) acc env) env
        again (.compLoop (lc3E elt t0 i0 t1 i1 t2 i2 q0 q1 q2 scope pos) 1 it acc env)) := by rfl
  rw [e]
  refine wpAny_bind (wpAny_standAt (wpAny_bind (thnF (turn n s hI) fun r s1 g1 => ?_)))
  cases r with
  | none => exact wpAny_pure g1
  | some v =>
    refine wpAny_bind (thnF g1 fun _ s2 g2 => wpAny_bind (thnF g2 fun _ s3 g3 => wpAny_bind (thnF g3 fun ok s4 g4 => ?_)))
    cases ok with
    | false => exact wpAny_pure ⟨rfl, g4⟩
    | true =>
      refine wpAny_bind (thnF g4 fun x s5 g5 => wpAny_bind (wpAny_standAt (wpAny_bind (wpAny_of_eq (hs x) (wpAny_bind (wpAny_holding (thnF g5 fun it1 s6 g6 => ?_)))))))
      refine wpAny_bind (wpAny_runOwn ?_)
      rw [Around.mark_none]
      refine codeAny_mono g6 fun r s7 hr => ?_
      cases r with
      | ok f =>
        first
          | exact wpAny_pure ⟨rfl, hr⟩
          | exact wpAny_bind (wpAny_pure (wpAny_pure ⟨rfl, hr⟩))
      | error e => exact hr.elim
theorem loops2 : Loops prog w A (lc3E elt t0 i0 t1 i1 t2 i2 q0 q1 q2 scope pos) 2 t2 q2 acc env (goAp prog w A elt acc env) := by
  intro it R I turn n s h
  refine codeAny_loop rfl I (fun n s hI => ?_) n h
  show wpAny _ A ((compTurn (lc3E elt t0 i0 t1 i1 t2 i2 q0 q1 q2 scope pos) 2 it acc env).onRaise (fun x => do noteFrame x env; theTreesLotGoes x)) _ _ s
  refine wpAny_noted ?_
  have e : compTurn (lc3E elt t0 i0 t1 i1 t2 i2 q0 q1 q2 scope pos) 2 it acc env = (do
      standAt i2.pos
      match ← pyNext it with
      | none => pure (.done .next)
      | some v =>
        letOwnedTupleGo t2 it v
        assign t2 env v
        let mut ok := true
        for c in q2 do
          if ok then ok ← isTrue c env (eval c env)
        if ok then
          (do let _ ← call (.builtin "list.append") [acc, ← eval elt env])
        again (.compLoop (lc3E elt t0 i0 t1 i1 t2 i2 q0 q1 q2 scope pos) 2 it acc env)) := by rfl
  rw [e]
  refine wpAny_bind (wpAny_standAt (wpAny_bind (thnF (turn n s hI) fun r s1 g1 => ?_)))
  cases r with
  | none => exact wpAny_pure g1
  | some v =>
    refine wpAny_bind (thnF g1 fun _ s2 g2 => wpAny_bind (thnF g2 fun _ s3 g3 => wpAny_bind (thnF g3 fun ok s4 g4 => ?_)))
    cases ok with
    | false => exact wpAny_pure ⟨rfl, g4⟩
    | true => exact wpAny_bind (wpAny_bind (thnF g4 fun x s5 g5 => wpAny_bind (thnF g5 fun _ s6 g6 => wpAny_pure (wpAny_pure ⟨rfl, g6⟩))))
/-- a clause's start -/
def Starts (prog : Program) (w : World) (A : Around) (e : Expr) (d : Nat) (acc : Value) (env : Env) : Prop := ∀ (it : Value) (R : Result → Shared → Prop) (s : Shared), codeAny (model prog w) A (.compLoop e d it acc env) R s →
  wpAny (model prog w) A (pyIter it) (fun it' s' => codeAny (model prog w) A (.compLoop e d it' acc env) R s') (notedBy (model prog w) A env fun x s' => R (.error x) s') s → codeAny (model prog w) A (.compStart e d it acc env) R s
theorem starts1 : Starts prog w A (lc3E elt t0 i0 t1 i1 t2 i2 q0 q1 q2 scope pos) 1 acc env := by
  intro it R s g0 g
  refine codeAny_of_tree ?_
  show wpAny _ _ ((compStart (lc3E elt t0 i0 t1 i1 t2 i2 q0 q1 q2 scope pos) 1 it acc env).onRaise (fun x => do noteFrame x env; standAt theWindowsPlace)) _ _ s
  refine wpAny_notedAt ?_
  unfold compStart
  show wpAny _ _ (ask >>= _) _ _ s
  refine wpAny_bind (wpAny_askSetting (wpAny_ite ?_))
  split
  · first
      | exact wpAny_bind (wpAny_pure (wpAny_pure (And.intro rfl g0)))
      | exact wpAny_pure (And.intro rfl g0)
  · first
      | exact wpAny_bind (wpAny_rule (wpAny_bind (wpAny_standAt (wpAny_bind (wpAny_mono g (fun it' s' g' => wpAny_pure (And.intro rfl g')) fun _ _ x => x)))))
      | (refine wpAny_bind (wpAny_rule ?_); show wpAny _ _ (standAt i1.pos >>= _) _ _ s; exact wpAny_bind (wpAny_standAt (wpAny_bind (wpAny_mono g (fun it' s' g' => wpAny_pure (And.intro rfl g')) fun _ _ x => x))))
theorem starts2 : Starts prog w A (lc3E elt t0 i0 t1 i1 t2 i2 q0 q1 q2 scope pos) 2 acc env := by
  intro it R s g0 g
  refine codeAny_of_tree ?_
  show wpAny _ _ ((compStart (lc3E elt t0 i0 t1 i1 t2 i2 q0 q1 q2 scope pos) 2 it acc env).onRaise (fun x => do noteFrame x env; standAt theWindowsPlace)) _ _ s
  refine wpAny_notedAt ?_
  unfold compStart
  show wpAny _ _ (ask >>= _) _ _ s
  refine wpAny_bind (wpAny_askSetting (wpAny_ite ?_))
  split
  · first
      | exact wpAny_bind (wpAny_pure (wpAny_pure (And.intro rfl g0)))
      | exact wpAny_pure (And.intro rfl g0)
  · first
      | exact wpAny_bind (wpAny_rule (wpAny_bind (wpAny_standAt (wpAny_bind (wpAny_mono g (fun it' s' g' => wpAny_pure (And.intro rfl g')) fun _ _ x => x)))))
      | (refine wpAny_bind (wpAny_rule ?_); show wpAny _ _ (standAt i2.pos >>= _) _ _ s; exact wpAny_bind (wpAny_standAt (wpAny_bind (wpAny_mono g (fun it' s' g' => wpAny_pure (And.intro rfl g')) fun _ _ x => x))))
end
end Own

namespace Own
open PySem PySem.Spec PyProof.Rows L2 Evl
/-- what a clause's inside must reach, told of slots and heap -/
abbrev TB : Type := (Hp → Prop) → L2.St → Hp → Prop
def tbAp (te : TE) (D : Addr) : TB := fun Nx σ H => te σ H fun y H1 => ∃ acc, H1 D = some (.lst acc) ∧ acc.length < sizeLine ∧ Nx (upd H1 D (.lst (acc ++ [y])))
def ClRest (g : TG) (tt : TT) (tb : TB) (vs : List Nat) (Nx : Hp → Prop) (σ : L2.St) : It → Hp → Prop := fun J H4 => ∃ W1 : Nat → Nat → Hp → Prop, (∃ m, W1 0 m H4) ∧ ∀ j k H, W1 j k H →
  (J.stop j H ∧ Nx H) ∨ (J.go j H ∧ ∃ Nx1 : Hp → Prop, (∀ H', Nx1 H' → ∃ k', k' < k ∧ W1 (j + 1) k' H') ∧ ∀ x H', J.yld j H x H' → g x (wipe σ vs) H' fun σ3 H5 => wipe σ3 vs = wipe σ vs ∧ tt σ3 H5 fun b H6 => if b = true then tb Nx1 σ3 H6 else Nx1 H6)
def tbCl (wi : TI) (g : TG) (tt : TT) (tb : TB) (vs : List Nat) : TB := fun Nx σ H => wi σ H (ClRest g tt tb vs Nx σ)
def BodyOf (X : Cx) (own : List Nat) (go : (Shared → Prop) → Shared → Prop) (tb : TB) : Prop := ∀ (pk : List (Addr × Obj)) (s : Shared) (σ : L2.St) (H : Hp) (Nx : Hp → Prop), Inv X pk σ H s → tb Nx σ H →
  go (fun s' => ∃ (σ' : L2.St) (H' : Hp), Inv X pk σ' H' s' ∧ σ'.length = σ.length ∧ (∀ (j : Nat) v, j ∉ own → σ[j]? = some (some v) → σ'[j]? = some (some v)) ∧ Nx H') s
section
variable {X : Cx} {s0 : Shared} {G0 : Hp} {scope : Scope} {ce : Env} {fp : List Addr} {own : List Nat} {D : Addr}
theorem body_ap {elt : Expr} {te : TE} (pe : PE (X.blk s0 G0 scope ce fp) elt te) : BodyOf (X.blk s0 G0 scope ce fp) own (goAp X.prog X.w X.A elt (.ref D) ce) (tbAp te D) := by
  intro pk s σ H Nx I h
  refine thnF (pe.run pk s σ H _ I h) fun z s1 ⟨y, H1, I1, r1, acc, d1, z1, nx⟩ => ?_
  exact app_ok (X := X.blk s0 G0 scope ce fp) I1 d1 z1 r1 fun s2 I2 => ⟨σ, _, I2, rfl, fun _ _ _ e => e, nx⟩
def Mono (go : (Shared → Prop) → Shared → Prop) : Prop := ∀ (P Q : Shared → Prop) (s : Shared), (∀ s, P s → Q s) → go P s → go Q s
theorem mono_ap {prog : Program} {w : World} {A : Around} {elt : Expr} {acc : Value} {env : Env} : Mono (goAp prog w A elt acc env) := fun P Q s h g => thn g fun _ s1 g1 => thn g1 fun _ s2 g2 => h s2 g2
theorem mono_cl {prog : Program} {w : World} {A : Around} {e src : Expr} {d : Nat} {acc : Value} {env : Env} : Mono (goCl prog w A e d src acc env) := fun P Q s h g => thn g fun _ s1 g1 => thn g1 fun _ s2 g2 => codeAny_mono g2 fun r s3 hr => by
  cases r with
  | ok f => exact h s3 hr
  | error e => exact hr
theorem body_cl {tg src e : Expr} {ifs : List Expr} {d : Nat} {wi : TI} {g : TG} {tt : TT} {tb : TB} {vs : List Nat} {go : (Shared → Prop) → Shared → Prop} (hc : X.calm = true) (hv : ∀ i ∈ own, i ∈ vs) (gm : Mono go) (pi : PI (X.blk s0 G0 scope ce fp) tg src wi) (pg : PG (X.blk s0 G0 scope ce fp) tg g) (pt : PTs (X.blk s0 G0 scope ce fp) ifs tt)
    (inner : BodyOf (X.blk s0 G0 scope ce fp) own go tb) (lo : Loops X.prog X.w X.A e d tg ifs (.ref D) ce go) (st : Starts X.prog X.w X.A e d (.ref D) ce) : BodyOf (X.blk s0 G0 scope ce fp) vs (goCl X.prog X.w X.A e d src (.ref D) ce) (tbCl wi g tt tb vs) := by
  intro pk s σ H Nx I h
  refine thnF (pi.run pk s σ H _ I h) fun xv s1 hx => thnF hx fun itv s2 h2 => ?_
  obtain ⟨it, fp1, tn1, J1, H2, e1, I2, T1, st2, f2, W1, ⟨m1, w1⟩, turn1⟩ := h2
  subst e1
  have stat1 : ∀ {H' : Hp}, (∀ b ∈ fp1, H' b = none) → ∀ b ∈ fp1, FpOk (X.blk s0 G0 scope ce fp) pk H' b := fun hn b hb => ⟨hn b hb, (f2 b hb).2⟩
  have loop1 : codeAny (model X.prog X.w) X.A (.compLoop e d (.ref it) (.ref D) ce) (fun r s' => match r with
      | .ok _ => ∃ (σ' : L2.St) (H' : Hp), Inv (X.blk s0 G0 scope ce fp) pk σ' H' s' ∧ σ'.length = σ.length ∧ (∀ (j : Nat) v, j ∉ vs → σ[j]? = some (some v) → σ'[j]? = some (some v)) ∧ Nx H'
      | .error _ => False) s2 := by
    refine lo (.ref it) _ (fun k s' => ∃ j H', Inv (X.blk s0 G0 scope ce fp) pk (wipe σ vs) H' s' ∧ tn1 j s'.heap ∧ (∀ b ∈ fp1, H' b = none) ∧ W1 j k H') ?_ m1 s2 ⟨0, H2, I2.weak (wipe_length _ _) (fun j v e => (wipe_some e).1), st2, fun b hb => (f2 b hb).1, w1⟩
    rintro k s3 ⟨j, H3, I3, st3, n3, w3⟩
    rcases turn1 j k H3 w3 with ⟨stop1, nx1⟩ | ⟨go1, Nx1, hNx1, step1⟩
    · refine thnF (T1.done (X.blk s0 G0 scope ce fp) rfl rfl rfl hc j _ s3 (wipe σ vs) H3 (fun _ _ => False) I3 (stat1 n3) st3 stop1) fun r s4 ⟨hr, I4⟩ => ?_
      subst hr
      exact ⟨_, H3, I4, wipe_length _ _, fun i v hi ev => by rw [wipe_out hi]; exact ev, nx1⟩
    · refine thnF (T1.item (X.blk s0 G0 scope ce fp) rfl rfl rfl hc j _ s3 (wipe σ vs) H3 (fun _ _ => False) I3 (stat1 n3) st3 go1) fun r s4 ⟨u1, hr, h4⟩ => ?_
      subst hr
      refine thnF h4 fun _ s5 ⟨x1, H5, I5, r5, y5, st5, n5⟩ => ?_
      have I5' := I5.pinned (stat1 n5) (T1.obj _ _ st5)
      refine thnF (pg.run _ s5 (wipe σ vs) H5 x1 u1 _ I5' r5 (step1 x1 H5 y5)) fun _ s6 ⟨σ6, H6, I6, hw6, q6⟩ => ?_
      refine thnF (pt.run _ s6 σ6 H6 _ I6 q6) fun b1 s7 ⟨H7, I7, q7⟩ => ?_
      have fin1 : ∀ {σ' : L2.St} {s' : Shared} {H' : Hp}, Inv (X.blk s0 G0 scope ce fp) (pk ++ pinsAt fp1 s5.heap) σ' H' s' → σ'.length = σ6.length → (∀ (i : Nat) v, i ∉ own → σ6[i]? = some (some v) → σ'[i]? = some (some v)) → Nx1 H' →
          ∃ m, m < k ∧ ∃ j H', Inv (X.blk s0 G0 scope ce fp) pk (wipe σ vs) H' s' ∧ tn1 j s'.heap ∧ (∀ b ∈ fp1, H' b = none) ∧ W1 j m H' := fun {σ' s' H'} I' hl hk nx => by
        obtain ⟨m', hm, w'⟩ := hNx1 H' nx
        have pin' : ∀ b ∈ fp1, ∀ o, s5.heap.get? b = some o → s'.heap.get? b = some o ∧ H' b = none := fun b hb o eo =>
          let z := I'.pin (b, o) (List.mem_append_right _ (List.mem_append_right _ (mem_pinsAt hb eo)))
          ⟨z.1, z.2.1⟩
        refine ⟨m', hm, j + 1, H', ?_, T1.keep _ _ _ st5 fun b hb o eo => (pin' b hb o eo).1, fun b hb => ?_, w'⟩
        · refine I'.unpinned.weak ?_ fun i v ev => ?_
          · rw [← hw6, wipe_length, hl]
          · rw [← hw6] at ev
            obtain ⟨e1, e2⟩ := wipe_some ev
            exact hk i v (fun z => e2 (hv i z)) e1
        · obtain ⟨o, eo, _⟩ := T1.obj _ _ st5 b hb
          exact (pin' b hb o eo).2
      cases b1 with
      | false =>
        simp only [Bool.false_eq_true, if_false] at q7 ⊢
        exact fin1 I7 rfl (fun _ _ _ ev => ev) q7
      | true =>
        simp only [if_true] at q7 ⊢
        exact gm _ _ _ (fun s' ⟨σ', H', I', hl, hk, nx⟩ => fin1 I' hl hk nx) (inner _ s7 σ6 H7 Nx1 I7 q7)
  exact st (.ref it) _ s2 loop1 (T1.self X.A 0 _ _ _ st2 loop1)
end
end Own

namespace Own
open PySem PySem.Spec PyProof.Rows L2 Evl
def Lc3Rest (g : TG) (tt : TT) (tb : Addr → TB) (vs : List Nat) (σ : L2.St) (Q : VK) : It → Hp → Prop := fun J H1 => ∀ D, H1 D = none → ∃ W : Nat → Nat → Hp → Prop, (∃ m, W 0 m (upd H1 D (.lst []))) ∧ ∀ i m H, W i m H →
  (J.stop i H ∧ Q (.ref D) H) ∨ (J.go i H ∧ ∃ Nx : Hp → Prop, (∀ H', Nx H' → ∃ m', m' < m ∧ W (i + 1) m' H') ∧ ∀ x H', J.yld i H x H' → g x (wipe σ vs) H' fun σ2 H2 => wipe σ2 vs = wipe σ vs ∧ tt σ2 H2 fun b H3 => if b = true then tb D Nx σ2 H3 else Nx H3)
def tLc3 (wi : TI) (g : TG) (tt : TT) (wi1 : TI) (g1 : TG) (tt1 : TT) (wi2 : TI) (g2 : TG) (tt2 : TT) (te : TE) (vs vs1 vs2 : List Nat) : TE := fun σ H Q => wi σ H (Lc3Rest g tt (fun D => tbCl wi1 g1 tt1 (tbCl wi2 g2 tt2 (tbAp te D) vs2) vs1) vs σ Q)
section
variable {X : Cx}
theorem pe_lc3 {elt t0 i0 t1 i1 t2 i2 : Expr} {q0 q1 q2 : List Expr} {scope : Scope} {own : List (Str × Nat)} {vs1 vs2 : List Nat} {pos : Pos} {wi wi1 wi2 : TI} {g g1 g2 : TG} {tt tt1 tt2 : TT} {te : TE} (hc : X.calm = true) (hN : X.N.Nodup) (hi : PI X t0 i0 wi) (ok : BlkOk X.N X.env.scope scope own)
    (hv1 : ∀ i ∈ vs1, i ∈ own.map (·.2)) (hv2 : ∀ i ∈ vs2, i ∈ vs1)
    (hg : ∀ (s : Shared) (H : Hp) (C : Addr) (cl : List (Str × Addr)) (fp : List Addr), PG (X.blk s H scope (compEnvC scope cl C X.env) fp) t0 g) (ht : ∀ (s : Shared) (H : Hp) (C : Addr) (cl : List (Str × Addr)) (fp : List Addr), PTs (X.blk s H scope (compEnvC scope cl C X.env) fp) q0 tt)
    (hi1 : ∀ (s : Shared) (H : Hp) (C : Addr) (cl : List (Str × Addr)) (fp : List Addr), PI (X.blk s H scope (compEnvC scope cl C X.env) fp) t1 i1 wi1)
    (hg1 : ∀ (s : Shared) (H : Hp) (C : Addr) (cl : List (Str × Addr)) (fp : List Addr), PG (X.blk s H scope (compEnvC scope cl C X.env) fp) t1 g1) (ht1 : ∀ (s : Shared) (H : Hp) (C : Addr) (cl : List (Str × Addr)) (fp : List Addr), PTs (X.blk s H scope (compEnvC scope cl C X.env) fp) q1 tt1)
    (hi2 : ∀ (s : Shared) (H : Hp) (C : Addr) (cl : List (Str × Addr)) (fp : List Addr), PI (X.blk s H scope (compEnvC scope cl C X.env) fp) t2 i2 wi2)
    (hg2 : ∀ (s : Shared) (H : Hp) (C : Addr) (cl : List (Str × Addr)) (fp : List Addr), PG (X.blk s H scope (compEnvC scope cl C X.env) fp) t2 g2) (ht2 : ∀ (s : Shared) (H : Hp) (C : Addr) (cl : List (Str × Addr)) (fp : List Addr), PTs (X.blk s H scope (compEnvC scope cl C X.env) fp) q2 tt2)
    (he : ∀ (s : Shared) (H : Hp) (C : Addr) (cl : List (Str × Addr)) (fp : List Addr), PE (X.blk s H scope (compEnvC scope cl C X.env) fp) elt te) (hs : ∀ x, foldedSetIterable i0 X.env x = pure x := by intro _; rfl) (hs1 : ∀ env x, foldedSetIterable i1 env x = pure x := by intro _ _; rfl) (hs2 : ∀ env x, foldedSetIterable i2 env x = pure x := by intro _ _; rfl) :
    PE X (.ListComp elt [⟨t0, i0, q0, 0⟩, ⟨t1, i1, q1, 0⟩, ⟨t2, i2, q2, 0⟩] scope pos) (tLc3 wi g tt wi1 g1 tt1 wi2 g2 tt2 te (own.map (·.2)) vs1 vs2) := by
  refine ⟨fun pk s σ H Q I h => ?_⟩
  rw [eval_ListComp]
  have cells : ∀ y ∈ scope.names, y.2 = .free → ∃ c, X.env.cells.lookup y.1 = some c := fun y hy e => by
    rcases ok.free y hy e with z | z
    · exact I.ok.has _ (.inl z)
    · exact I.ok.has _ (.inr z)
  refine wpAny_comprehension_free (use := none) rfl hs (closure_ok cells) ok.kind (fun y hy e => by rw [ok.uniq y hy, e]) (thn (hi.run pk s σ H _ I h) fun xv s1 hx => thn hx fun itv s2 h2 => ?_)
  obtain ⟨it, fp, tn, J, H2, e, I2, T, st2, f2, q⟩ := h2
  subst e
  refine wpAny_newObj_type (newEnv_comp ?_) (by show 0 ≤ sizeLine; decide)
  generalize hD : s2.heap.objs.size = D
  have Dn : H2 D = none := I2.hok.fresh (Nat.le_of_eq hD)
  obtain ⟨W, ⟨m0, w0⟩, turn⟩ := q D Dn
  generalize hs3 : ({ s2 with heap := s2.heap.push { cls := .type "list", data := .seq ([] : List Value).toArray } } : Shared) = s3
  have I3 : Inv X pk σ (upd H2 D (.lst [])) s3 := by
    rw [← hs3]
    refine I2.laid (t' := s2.toks) (fun b o e => Heap.get?_push_of_some _ e) (Nat.le_of_eq hD) ⟨Nat.zero_le _, [], 0, .nil, ?_⟩
    rw [← hD]
    exact Heap.get?_push_size _ rfl
  have h3 : s3.heap = s2.heap.push { cls := .type "list", data := .seq ([] : List Value).toArray } := by rw [← hs3]
  have f3 : ∀ b ∈ fp, FpOk X pk (upd H2 D (.lst [])) b ∧ b < s3.heap.objs.size := fun b hb => by
    obtain ⟨o, e, _⟩ := T.obj _ _ st2 b hb
    have lt := Heap.lt_size e
    refine ⟨⟨?_, (f2 b hb).2⟩, by rw [h3, Heap.size_push]; exact Nat.lt_succ_of_lt lt⟩
    rw [upd_ne (by rw [← hD]; exact Nat.ne_of_lt lt)]
    exact (f2 b hb).1
  have st3 : tn 0 s3.heap := T.keep _ _ _ st2 fun b _ o e => by rw [h3]; exact Heap.get?_push_of_some _ e
  have I4 := block_start I3 ok hN f3
  generalize hcl : cellsFrom (s3.heap.objs.size + 1) scope.names (cloFrom X.env.cells scope.names []) = cl at I4
  have pg := hg s3 (upd H2 D (.lst [])) s3.heap.objs.size cl fp
  have pt := ht s3 (upd H2 D (.lst [])) s3.heap.objs.size cl fp
  have pe := he s3 (upd H2 D (.lst [])) s3.heap.objs.size cl fp
  have pi1 := hi1 s3 (upd H2 D (.lst [])) s3.heap.objs.size cl fp
  have pg1 := hg1 s3 (upd H2 D (.lst [])) s3.heap.objs.size cl fp
  have pt1 := ht1 s3 (upd H2 D (.lst [])) s3.heap.objs.size cl fp
  have pi2 := hi2 s3 (upd H2 D (.lst [])) s3.heap.objs.size cl fp
  have pg2 := hg2 s3 (upd H2 D (.lst [])) s3.heap.objs.size cl fp
  have pt2 := ht2 s3 (upd H2 D (.lst [])) s3.heap.objs.size cl fp
  show codeAny _ _ (.compStart (lc3E elt t0 i0 t1 i1 t2 i2 q0 q1 q2 scope pos) 0 (.ref it) (.ref D) (compEnvC scope cl s3.heap.objs.size X.env)) (compPost (model X.prog X.w) X.A X.xe none _ (.ref D) s3.heap.objs.size) { s3 with heap := pushCells (s3.heap.push { cls := .type "dict", data := .dict #[] }) scope.names }
  have nfp : ∀ b ∈ fp, (upd H2 D (.lst [])) b = none := fun b hb => (f3 b hb).1.1
  generalize hce : compEnvC scope cl s3.heap.objs.size X.env = ce at I4 pg pt pe pi1 pg1 pt1 pi2 pg2 pt2 ⊢
  have cL : ce.locals = s3.heap.objs.size := by subst hce; rfl
  generalize hH3 : upd H2 D (.lst []) = H3 at I3 I4 pg pt pe pi1 pg1 pt1 pi2 pg2 pt2 w0 nfp f3
  generalize hs4 : ({ s3 with heap := pushCells (s3.heap.push { cls := .type "dict", data := .dict #[] }) scope.names } : Shared) = s4 at I4 ⊢
  have st4 : tn 0 s4.heap := T.keep _ _ _ st3 fun b _ o e => by rw [← hs4]; exact pushCells_keeps _ _ _ _ (Heap.get?_push_of_some _ e)
  have stat : ∀ {σ' : L2.St} {H' : Hp} {s' : Shared}, Inv (X.blk s3 H3 scope ce fp) [] σ' H' s' → (∀ b ∈ fp, H' b = none) → ∀ b ∈ fp, FpOk (X.blk s3 H3 scope ce fp) [] H' b := fun {σ' H' s'} I' hn b hb =>
    ⟨hn b hb, (I'.ok.exf b hb).1, I'.ok.exfs b hb, .inl hb, fun x c e => (I'.ok.exf b hb).2 x c e, fun p hp => absurd (show p ∈ ([] : List (Addr × Obj)) ++ [] from hp) (by simp)⟩
  have B2 : BodyOf (X.blk s3 H3 scope ce fp) vs2 (goCl X.prog X.w X.A (lc3E elt t0 i0 t1 i1 t2 i2 q0 q1 q2 scope pos) 2 i2 (.ref D) ce) (tbCl wi2 g2 tt2 (tbAp te D) vs2) := body_cl (own := []) hc (fun i hi => by cases hi) mono_ap pi2 pg2 pt2 (body_ap pe) loops2 starts2
  have B1 : BodyOf (X.blk s3 H3 scope ce fp) vs1 (goCl X.prog X.w X.A (lc3E elt t0 i0 t1 i1 t2 i2 q0 q1 q2 scope pos) 1 i1 (.ref D) ce) (tbCl wi1 g1 tt1 (tbCl wi2 g2 tt2 (tbAp te D) vs2) vs1) := body_cl hc hv2 mono_cl pi1 pg1 pt1 B2 (loops1 (hs2 ce)) starts1
  have loop : codeAny (model X.prog X.w) X.A (.compLoop (lc3E elt t0 i0 t1 i1 t2 i2 q0 q1 q2 scope pos) 0 (.ref it) (.ref D) ce) (compPost (model X.prog X.w) X.A X.xe none (EP X pk σ Q) (.ref D) s3.heap.objs.size) s4 := by
    refine loops0 (hs1 ce) (.ref it) _ (fun n s' => ∃ i H', Inv (X.blk s3 H3 scope ce fp) [] (wipe σ (own.map (·.2))) H' s' ∧ tn i s'.heap ∧ (∀ b ∈ fp, H' b = none) ∧ W i n H') ?_ m0 s4 ⟨0, H3, I4, st4, nfp, w0⟩
    rintro n s5 ⟨i, H5, I5, st5, n5, w5⟩
    rcases turn i n H5 w5 with ⟨stop, qq⟩ | ⟨go, Nx, hNx, step⟩
    · refine thnF (T.done (X.blk s3 H3 scope ce fp) rfl rfl rfl hc i [] s5 _ H5 (fun _ _ => False) I5 (stat I5 n5) st5 stop) fun r s6 ⟨hr, I6⟩ => ?_
      subst hr
      have I7 : Inv X pk σ H5 s6 := I3.call' (ch := fp) I6.os I6.base I6.hok I6.bare fun b hb => ⟨(f3 b hb).1.2.2.2.1, (f3 b hb).1.2.1, (f3 b hb).1.2.2.2.2.1, (f3 b hb).1.2.2.2.2.2⟩
      have nC : H5 s3.heap.objs.size = none := by
        have z : H5 ce.locals = none := I6.free
        rw [cL] at z
        exact z
      obtain ⟨m, hn, _⟩ := I6.loc
      have hn : s6.heap.Ns ce.locals m := hn
      rw [cL] at hn
      obtain ⟨y0, y1, y2, y3, y4, y5⟩ := I3.fpOk (Nat.le_refl _) nC
      exact ⟨m, hn, fun h'' sb => ⟨.ref D, H5, I7.turned (t' := s6.toks) (fun b o hb e => (sb.2 b hb).trans e) y0 y1 y3 y4 y5, rfl, qq⟩⟩
    · refine thnF (T.item (X.blk s3 H3 scope ce fp) rfl rfl rfl hc i [] s5 _ H5 (fun _ _ => False) I5 (stat I5 n5) st5 go) fun r s6 ⟨u, hr, h6⟩ => ?_
      subst hr
      refine thnF h6 fun _ s7 ⟨x, H7, I7, r7, y7, st7, n7⟩ => ?_
      have I7' := I7.pinned (stat I7 n7) (T.obj _ _ st7)
      refine thnF (pg.run _ s7 _ H7 x u _ I7' r7 (step x H7 y7)) fun _ s8 ⟨σ8, H8, I8, hw8, q8⟩ => ?_
      refine thnF (pt.run _ s8 σ8 H8 _ I8 q8) fun b s9 ⟨H9, I9, q9⟩ => ?_
      have fin : ∀ {σ9 : L2.St} {s' : Shared} {H' : Hp}, Inv (X.blk s3 H3 scope ce fp) ([] ++ pinsAt fp s7.heap) σ9 H' s' → σ9.length = σ8.length → (∀ (j : Nat) v, j ∉ vs1 → σ8[j]? = some (some v) → σ9[j]? = some (some v)) → Nx H' →
          ∃ m, m < n ∧ ∃ i H', Inv (X.blk s3 H3 scope ce fp) [] (wipe σ (own.map (·.2))) H' s' ∧ tn i s'.heap ∧ (∀ b ∈ fp, H' b = none) ∧ W i m H' := fun {σ9 s' H'} I' hl hk nx => by
        obtain ⟨m', hm, w'⟩ := hNx H' nx
        have pin' : ∀ b ∈ fp, ∀ o, s7.heap.get? b = some o → s'.heap.get? b = some o ∧ H' b = none := fun b hb o eo =>
          let z := I'.pin (b, o) (List.mem_append_right _ (List.mem_append_right _ (mem_pinsAt hb eo)))
          ⟨z.1, z.2.1⟩
        refine ⟨m', hm, i + 1, H', (I'.unpinned (pins := [])).weak ?_ fun j v ev => ?_, T.keep _ _ _ st7 fun b hb o eo => (pin' b hb o eo).1, fun b hb => ?_, w'⟩
        · rw [← hw8, wipe_length, hl]
        · rw [← hw8] at ev
          obtain ⟨e1, e2⟩ := wipe_some ev
          exact hk j v (fun z => e2 (hv1 j z)) e1
        · obtain ⟨o, eo, _⟩ := T.obj _ _ st7 b hb
          exact (pin' b hb o eo).2
      cases b with
      | false =>
        simp only [Bool.false_eq_true, if_false] at q9 ⊢
        exact fin I9 rfl (fun _ _ _ ev => ev) q9
      | true =>
        simp only [if_true] at q9 ⊢
        exact mono_cl _ _ _ (fun s' ⟨σ', H', I', hl, hk, nx⟩ => fin I' hl hk nx) (B1 _ s9 σ8 H9 Nx I9 q9)
  exact codeAny_compStart_list loop (T.self X.A 0 _ _ _ st4 loop)
end
end Own

namespace Own
open PySem PySem.Spec PyProof.Rows L2 Evl
/-- the loop of a clause that is not the first: D the list so far -/
theorem clG {J1 : It} {n1 : Nat} {G1 : Hp → Prop} {Y1 : Nat → Hp → V → Hp → Prop} (w1 : Walk J1 n1 G1 Y1) {D : Addr} {Nx : Hp → Prop} {g1 : TG} {tt1 : TT} {tb : TB} {vs1 : List Nat} {σ2 : L2.St} {H1 H4 : Hp} {ys : List V}
    (hD : H1 D = none) (e0 : Ex H1 H4) (hd : H4 D = some (.lst ys)) (hG1 : ∀ H, Ex H1 H → TEx H4 H → G1 H) (hY1 : ∀ i H x H', Y1 i H x H' → Ex H H') (Pb : Nat → List V → Hp → Prop) (hm : ∀ j zs H H', TEx H H' → Pb j zs H → Pb j zs H') (p0 : Pb 0 ys H4)
    (hs : ∀ j x H5 H6 zs, j < n1 → Ex H1 H6 → TEx H4 H6 → Y1 j H5 x H6 → Pb j zs H6 → H6 D = some (.lst zs) → ∀ (N : Hp → Prop), (∀ zs' H7, Ex H1 H7 → TEx H6 H7 → H7 D = some (.lst zs') → Pb (j + 1) zs' H7 → N H7) →
      g1 x (wipe σ2 vs1) H6 fun σ3 H7 => wipe σ3 vs1 = wipe σ2 vs1 ∧ tt1 σ3 H7 fun b H8 => if b = true then tb N σ3 H8 else N H8)
    (hend : ∀ zs H, Ex H1 H → TEx H4 H → H D = some (.lst zs) → Pb n1 zs H → Nx H) : ClRest g1 tt1 tb vs1 Nx σ2 J1 H4 := by
  refine ⟨fun j k H => k = n1 - j ∧ j ≤ n1 ∧ ∃ zs, Ex H1 H ∧ TEx H4 H ∧ H D = some (.lst zs) ∧ Pb j zs H, ⟨n1, by simp, Nat.zero_le _, ys, e0, TEx.refl _, hd, p0⟩, ?_⟩
  rintro j k H ⟨rfl, hj, zs, e, t, d, p⟩
  have hg := hG1 H e t
  by_cases hlt : j < n1
  · refine .inr ⟨w1.goes j H hlt hg, fun H' => ∃ zs, Ex H1 H' ∧ TEx H4 H' ∧ H' D = some (.lst zs) ∧ Pb (j + 1) zs H', fun H' q => ⟨n1 - (j + 1), by omega, rfl, hlt, q⟩, fun x H' y => ?_⟩
    have hy := w1.yields j H x H' hlt hg y
    have e' := hY1 _ _ _ _ hy
    have t' := t.trans (TEx.of e')
    exact hs j x H H' zs hlt (e.trans e') t' hy (hm _ _ _ _ (TEx.of e') p) (e' _ _ d) _ fun zs' H7 e7 t7 d7 p7 => ⟨zs', e7, t'.trans t7, d7, p7⟩
  · have ej : j = n1 := by omega
    subst ej
    exact .inl ⟨w1.stops H hg, hend zs H e t d p⟩
/-- the item put in -/
theorem apG {te : TE} {D : Addr} {σ : L2.St} {H : Hp} {N : Hp → Prop} (h : te σ H fun y H1 => ∃ acc, H1 D = some (.lst acc) ∧ acc.length < sizeLine ∧ N (upd H1 D (.lst (acc ++ [y])))) : tbAp te D N σ H := h
/-- a comprehension's first clause, the others behind it -/
theorem lc3G {J : It} {n : Nat} {G : Hp → Prop} {Y : Nat → Hp → V → Hp → Prop} (w : Walk J n G Y) {g : TG} {tt : TT} {tb : Addr → TB} {vs : List Nat} {σ : L2.St} {H1 : Hp} {Q : VK} (hG0 : G H1) (hGm : ∀ H H', Ex H H' → G H → G H') (hY : ∀ i H x H', Y i H x H' → Ex H H')
    (Pa : Nat → List V → Hp → Prop) (hm : ∀ i ys H H', TEx H H' → Pa i ys H → Pa i ys H') (p0 : Pa 0 [] H1)
    (hs : ∀ i x H H' ys, i < n → Ex H1 H' → Y i H x H' → Pa i ys H' → ∀ (D : Addr) (Nx : Hp → Prop), H1 D = none → H' D = some (.lst ys) → (∀ zs H3, Ex H1 H3 → TEx H' H3 → H3 D = some (.lst zs) → Pa (i + 1) zs H3 → Nx H3) →
      g x (wipe σ vs) H' fun σ2 H2 => wipe σ2 vs = wipe σ vs ∧ tt σ2 H2 fun b H3 => if b = true then tb D Nx σ2 H3 else Nx H3)
    (k : ∀ D H2 ys, H1 D = none → Ex H1 H2 → H2 D = some (.lst ys) → Pa n ys H2 → Q (.ref D) H2) : Lc3Rest g tt tb vs σ Q J H1 := by
  intro D hD
  refine ⟨fun i m H => m = n - i ∧ i ≤ n ∧ ∃ ys, Ex H1 H ∧ H D = some (.lst ys) ∧ Pa i ys H, ⟨n, by simp, Nat.zero_le _, [], Ex.new hD, upd_same, hm _ _ _ _ (TEx.of (Ex.new hD)) p0⟩, ?_⟩
  rintro i m H ⟨rfl, hi, ys, e, d, p⟩
  have hg := hGm _ _ e hG0
  by_cases hlt : i < n
  · refine .inr ⟨w.goes i H hlt hg, fun H' => ∃ ys, Ex H1 H' ∧ H' D = some (.lst ys) ∧ Pa (i + 1) ys H', fun H' q => ⟨n - (i + 1), by omega, rfl, hlt, q⟩, fun x H' y => ?_⟩
    have hy := w.yields i H x H' hlt hg y
    have e' := hY _ _ _ _ hy
    exact hs i x H H' ys hlt (e.trans e') hy (hm _ _ _ _ (TEx.of e') p) D _ hD (e' _ _ d) fun zs H3 e3 t3 d3 p3 => ⟨zs, e3, d3, p3⟩
  · have ej : i = n := by omega
    subst ej
    exact .inl ⟨w.stops H hg, k D H ys hD e d p⟩
end Own

namespace Own
open PySem PySem.Spec PyProof.Rows L2 Evl
mutual
theorem eqv_ky : ∀ (d d' : PyData), kyD d = true → kyD d' = true → PyData.eqv d d' = true → PySem.W.alike d d' = true → d = d'
  | .int i, d', _, h, e, al => by
    cases d' with
    | int j => simpa [PyData.eqv] using e
    | _ => simp [PySem.W.alike] at al
  | .str z, d', _, h, e, al => by
    cases d' with
    | str y => simpa [PyData.eqv] using e
    | _ => simp [PySem.W.alike] at al
  | .tuple ds, d', k, h, e, al => by
    cases d' with
    | tuple ds' =>
      rw [kyD] at k h
      rw [eqvs_ky ds ds' k h (by simpa [PyData.eqv] using e) (by simpa [PySem.W.alike] using al)]
    | _ => simp [PySem.W.alike] at al
  | .none, _, k, _, _, _ => by cases k
  | .bool _, _, k, _, _, _ => by cases k
  | .list _, _, k, _, _, _ => by cases k
  | .dict _, _, k, _, _, _ => by cases k
theorem eqvs_ky : ∀ (ds ds' : List PyData), kyDs ds = true → kyDs ds' = true → PyData.eqvAll ds ds' = true → PySem.W.alikeAll ds ds' = true → ds = ds'
  | [], [], _, _, _, _ => rfl
  | [], _ :: _, _, _, e, _ => by simp [PyData.eqvAll] at e
  | _ :: _, [], _, _, e, _ => by simp [PyData.eqvAll] at e
  | d :: ds, d' :: ds', k, h, e, al => by
    rw [kyDs_cons, Bool.and_eq_true] at k h
    rw [PySem.W.eqv_all_cons, Bool.and_eq_true] at e
    obtain ⟨a1, a2⟩ := PySem.W.alike_all_cons al
    rw [eqv_ky d d' k.1 h.1 e.1 a1, eqvs_ky ds ds' k.2 h.2 e.2 a2]
end
theorem toks_one {r r' : List PyData} (k : kyDs r = true) (k' : kyDs r' = true) (al : PySem.W.alikeAll r r' = true) (e : PySem.W.keyToksAll r = PySem.W.keyToksAll r') : r = r' := by
  cases hv : PyData.eqvAll r r' with
  | true => exact eqvs_ky r r' k k' hv al
  | false =>
    have z := (PySem.W.toksAll_eqv r r' al).2 hv [] [.inl 0]
    rw [e, PySem.W.lex_pre, PyProof.Rows.lex_irrefl] at z
    exact absurd z (by simp [PyProof.Rows.lexLt])
theorem mix_anti {ds : List PyData} (m : Mix ds) {d d' : PyData} (h : d ∈ ds) (h' : d' ∈ ds) (l1 : PySem.W.dataLt d d' = false) (l2 : PySem.W.dataLt d' d = false) : d = d' := by
  have e : PySem.W.keyToks d = PySem.W.keyToks d' := (listOrd itemOrd).total _ _ l1 l2
  obtain ⟨z, r, rfl⟩ := m.hd d h
  obtain ⟨z', r', rfl⟩ := m.hd d' h'
  have e : PySem.W.keyToksAll (.str z :: r) = PySem.W.keyToksAll (.str z' :: r') := e
  rw [PySem.W.toks_all_cons, PySem.W.toks_all_cons] at e
  injection e with _ e
  have e : Sum.inr z.cps.toList :: PySem.W.keyToksAll r = (Sum.inr z'.cps.toList :: PySem.W.keyToksAll r' : List (Int ⊕ List Nat)) := e
  injection e with e1 e2
  have ez := PySem.W.str_of_cps (Sum.inr.inj e1)
  subst ez
  have k := m.ky _ h
  have k' := m.ky _ h'
  rw [kyD, kyDs_cons, Bool.and_eq_true] at k k'
  rw [toks_one k.2 k'.2 (m.al z r r' h h') e2]
/-- two ascending lists of the same, each once, are one -/
theorem asc_one {ds : List PyData} (m : Mix ds) : ∀ (xs ys : List PyData), (∀ d ∈ xs, d ∈ ds) → ascD xs → ascD ys → xs.Nodup → ys.Nodup → (∀ d, d ∈ xs ↔ d ∈ ys) → xs = ys
  | [], [], _, _, _, _, _, _ => rfl
  | [], y :: ys, _, _, _, _, _, q => by cases (q y).mpr List.mem_cons_self
  | x :: xs, [], _, _, _, _, _, q => by cases (q x).mp List.mem_cons_self
  | x :: xs, y :: ys, s, ax, ay, nx, ny, q => by
    obtain ⟨ax1, ax2⟩ := List.pairwise_cons.mp ax
    obtain ⟨ay1, ay2⟩ := List.pairwise_cons.mp ay
    obtain ⟨nx1, nx2⟩ := List.nodup_cons.mp nx
    obtain ⟨ny1, ny2⟩ := List.nodup_cons.mp ny
    have e : x = y := by
      have mx := (q x).mp List.mem_cons_self
      have my := (q y).mpr List.mem_cons_self
      rcases List.mem_cons.mp mx with e | mx
      · exact e
      · rcases List.mem_cons.mp my with e | my
        · exact e.symm
        · exact mix_anti m (s x List.mem_cons_self) (s y (List.mem_cons_of_mem _ my)) (ay1 x mx) (ax1 y my)
    subst e
    rw [asc_one m xs ys (fun d hd => s d (List.mem_cons_of_mem _ hd)) ax2 ay2 nx2 ny2 fun d => ?_]
    have z := q d
    rw [List.mem_cons, List.mem_cons] at z
    exact ⟨fun hd => (z.mp (.inr hd)).resolve_left fun e => nx1 (e ▸ hd), fun hd => (z.mpr (.inr hd)).resolve_left fun e => ny1 (e ▸ hd)⟩
section
variable {X : Cx} {k : Nat}
theorem cr_setDr (hc : X.calm = true) (hr : Room k X.A) : CallR X (.type "set") (rSetD X.K X.w) := cr_setD hc (by have := hr.un; omega)
theorem cr_sortDr (hc : X.calm = true) (hr : Room k X.A) : CallR X (.builtin "sorted") (rSortD X.w) := cr_sortD hc (by have := hr.un; omega)
theorem cr_sortQr (hr : Room k X.A) : CallR X (.builtin "sorted") (rSortQ X.K) := cr_sortQ (by have := hr.un; omega)
end
end Own

namespace Own
open PySem PySem.Spec PyProof.Rows L2 Evl
/-- all but D stays -/
def ExO (D : Addr) (H H' : Hp) : Prop := ∀ a o, a ≠ D → H a = some o → H' a = some o
theorem ExO.refl (D : Addr) (H : Hp) : ExO D H H := fun _ _ _ h => h
theorem ExO.of {D : Addr} {H H' : Hp} (e : Ex H H') : ExO D H H' := fun a o _ h => e a o h
theorem ExO.trans {D : Addr} {H H' H'' : Hp} (e : ExO D H H') (e' : ExO D H' H'') : ExO D H H'' := fun a o n h => e' a o n (e a o n h)
theorem ExO.set {D : Addr} {H : Hp} {o : HO} : ExO D H (upd H D o) := fun a u n h => by rw [upd_ne n]; exact h
/-- the second source's loop, its source made in the turn -/
theorem inGB {J1 : It} {n1 : Nat} {G1 : Hp → Prop} {Y1 : Nat → Hp → V → Hp → Prop} (w1 : Walk J1 n1 G1 Y1) {D : Addr} {Nx : Hp → Prop} {g1 : TG} {tt1 : TT} {te : TE} {vs1 : List Nat} {σ2 : L2.St} {H1 H4 : Hp} {ys : List V}
    (hD : H1 D = none) (e0 : Ex H1 H4) (hd : H4 D = some (.lst ys)) (hG1 : ∀ H, Ex H1 H → ExO D H4 H → G1 H) (hY1 : ∀ i H x H', Y1 i H x H' → Ex H H') (Pb : Nat → List V → Hp → Prop) (hm : ∀ j zs H H', TEx H H' → Pb j zs H → Pb j zs H') (hl : ∀ j zs H, Pb j zs H → zs.length ≤ 40000) (p0 : Pb 0 ys H4)
    (hs : ∀ j x H5 H6 zs, j < n1 → Ex H1 H6 → ExO D H4 H6 → Y1 j H5 x H6 → Pb j zs H6 → ∀ (N : V → Hp → Prop) (N1 : Hp → Prop), (∀ y H7, Ex H6 H7 → Pb (j + 1) (zs ++ [y]) H7 → N y H7) → (∀ H7, Ex H6 H7 → Pb (j + 1) zs H7 → N1 H7) →
      g1 x (wipe σ2 vs1) H6 fun σ3 H7 => wipe σ3 vs1 = wipe σ2 vs1 ∧ tt1 σ3 H7 fun b H8 => if b = true then te σ3 H8 N else N1 H8)
    (hend : ∀ zs H, Ex H1 H → ExO D H4 H → H D = some (.lst zs) → Pb n1 zs H → Nx H) : InRest D Nx g1 tt1 te vs1 σ2 J1 H4 := by
  refine ⟨fun j k H => k = n1 - j ∧ j ≤ n1 ∧ ∃ zs, Ex H1 H ∧ ExO D H4 H ∧ H D = some (.lst zs) ∧ Pb j zs H, ⟨n1, by simp, Nat.zero_le _, ys, e0, ExO.refl _ _, hd, p0⟩, ?_⟩
  rintro j k H ⟨rfl, hj, zs, e, t, d, p⟩
  have hg := hG1 H e t
  by_cases hlt : j < n1
  · refine .inr ⟨w1.goes j H hlt hg, fun H' => ∃ zs, Ex H1 H' ∧ ExO D H4 H' ∧ H' D = some (.lst zs) ∧ Pb (j + 1) zs H', fun H' q => ⟨n1 - (j + 1), by omega, rfl, hlt, q⟩, fun x H' y => ?_⟩
    have hy := w1.yields j H x H' hlt hg y
    have e' := hY1 _ _ _ _ hy
    refine hs j x H H' zs hlt (e.trans e') (t.trans (ExO.of e')) hy (hm _ _ _ _ (TEx.of e') p) _ _ (fun v H7 e7 p7 => ?_) (fun H7 e7 p7 => ?_)
    · have d7 := e7 _ _ (e' _ _ d)
      have b := hl _ _ _ p
      exact ⟨zs, d7, sz_lt (by omega), zs ++ [v], Ex.mut ((e.trans e').trans e7) hD, (t.trans (ExO.of (e'.trans e7))).trans ExO.set, upd_same, hm _ _ _ _ (TEx.lst d7) p7⟩
    · exact ⟨zs, (e.trans e').trans e7, t.trans (ExO.of (e'.trans e7)), e7 _ _ (e' _ _ d), p7⟩
  · have ej : j = n1 := by omega
    subst ej
    exact .inl ⟨w1.stops H hg, hend zs H e t d p⟩
theorem flat_step {α β : Type} {f : α → List β} {as : List α} {i : Nat} {a : α} (h : as[i]? = some a) : (as.take (i + 1)).flatMap f = (as.take i).flatMap f ++ f a := by
  rw [List.take_add_one, h, List.flatMap_append]
  simp
end Own

namespace Own
open PySem PySem.Spec PyProof.Rows L2 Evl
/-! ### dict(zip(texts, texts)) -/
theorem stored_new {K : Type} [DecidableEq K] {kvs : List (K × Value)} {k : K} {v : Value} (h : k ∉ kvs.map Prod.fst) : stored kvs k v = kvs ++ [(k, v)] := by
  have z : kvs.any (fun kv => decide (kv.1 = k)) = false := by
    rw [List.any_eq_false]
    intro kv hkv e
    exact h (List.mem_map.mpr ⟨kv, hkv, of_decide_eq_true e⟩)
  unfold stored
  rw [if_neg (by rw [z]; exact Bool.false_ne_true)]
theorem merged_new {K : Type} [DecidableEq K] : ∀ (more kvs : List (K × Value)), ((kvs ++ more).map Prod.fst).Nodup → merged kvs more = kvs ++ more
  | [], kvs, _ => by
    rw [List.append_nil]
    rfl
  | p :: more, kvs, h => by
    show merged (stored kvs p.1 p.2) more = _
    have h2 : (((kvs ++ [p]) ++ more).map Prod.fst).Nodup := by rw [List.append_assoc]; exact h
    rw [stored_new (fun hm => ?_), merged_new more (kvs ++ [p]) h2, List.append_assoc]
    · rfl
    · rw [List.map_append, List.map_cons] at h
      exact (List.nodup_append.mp h).2.2 _ hm _ List.mem_cons_self rfl
/-- the pairs of two lists of texts -/
def zkv (zs ws : List Str) : List (Key × V) := (zs.zip ws).map fun p => (Sum.inr p.1, .str p.2)
def tDZ (K : PySem.W.Frag) (ta : TA) : TE := fun σ H Q => ta σ H fun vs H1 => ∃ (a b : Addr) (zs ws : List Str), vs = [.ref a, .ref b] ∧ SqL K H1 a (zs.map V.str) ∧ SqL K H1 b (ws.map V.str) ∧ zs.Nodup ∧ zs.length = ws.length ∧ zs.length ≤ 4000 ∧
  ∀ d, H1 d = none → Q (.ref d) (upd H1 d (.dK (zkv zs ws)))
theorem str_get : ∀ {zs : List Str} {us : List Value} {i : Nat} {v : Value}, Vals (zs.map V.str) us → us[i]? = some v → ∃ z t, zs[i]? = some z ∧ v = .str z t
  | [], _, i, v, r, h => by
    cases r
    simp at h
  | z :: zs, _, 0, v, r, h => by
    cases r with
    | cons r1 r2 =>
      obtain ⟨t, rfl⟩ := r1
      cases h
      exact ⟨z, t, rfl, rfl⟩
  | z :: zs, _, i + 1, v, r, h => by
    cases r with
    | cons r1 r2 => exact str_get (zs := zs) (i := i) r2 (by simpa using h)
theorem kv_zip : ∀ {zs ws : List Str} {us : List Value}, Vals (ws.map V.str) us → KV (zkv zs ws) ((zs.zip us).map fun p => ((Sum.inr p.1 : Key), p.2))
  | [], _, _, _ => .nil
  | _ :: _, [], _, r => by
    cases r
    exact .nil
  | z :: zs, w :: ws, _, r => by
    cases r with
    | cons r1 r2 => exact .cons ⟨rfl, r1⟩ (kv_zip r2)
section
variable {X : Cx}
theorem pe_dictZip {a b : Expr} {ta : TA} {p p2 q pos : Pos} (hg : Gl X "dict") (hm : X.mg "dict" = none) (hg2 : Gl X "zip") (hm2 : X.mg "zip" = none) (ha : PA X [a, b] ta) (hc : X.calm = true := by rfl)
    (na : starEach [a, b] X.env = (false, eval a X.env) :: starEach [b] X.env := by rfl) (nb : (backTo q (starEach [b] X.env)).any (·.1) = false := by rfl)
    (nz : starEach [Expr.Call (.Name "zip" p2) [a, b] [] q] X.env = (false, eval (.Call (.Name "zip" p2) [a, b] [] q) X.env) :: starEach [] X.env := by rfl) :
    PE X (.Call (.Name "dict" p) [.Call (.Name "zip" p2) [a, b] [] q] [] pos) (tDZ X.K ta) := by
  refine ⟨fun pk s σ H Q I h => ?_⟩
  refine Call_ (ld_blt I hg hm PyProof.Rows.boot_dict ?_)
  refine PyProof.Rows.callWith_type1 (PyProof.Rows.args_cons ?_ nz) nz rfl
  refine Call_ (ld_blt I hg2 hm2 PyProof.Rows.boot_zip (PyProof.Rows.callWith_type1 (thn (ha.run q pk s σ H _ I h) fun us s1 ⟨vs, H1, I1, r1, q1⟩ => ?_) na nb))
  obtain ⟨l1, l2, zs, ws, rfl, h1, h2, nd, hl, small, q1⟩ := q1
  cases r1 with
  | cons r rr =>
    cases rr with
    | cons r' rr =>
      cases rr
      cases r
      cases r'
      obtain ⟨us1, rv1, p1, _⟩ := I1.list h1
      obtain ⟨us2, rv2, p2', _⟩ := I1.list h2
      have len1 : us1.length = zs.length := by rw [← rv1.length, List.length_map]
      have len2 : us2.length = ws.length := by rw [← rv2.length, List.length_map]
      refine call_zip_2 p1.isList p2'.isList fun h' hz hTI hTO hi1 hi2 hsz hk => ?_
      refine PyProof.Rows.args_nil ?_
      have D := PySem.W.ktu_apart s1.heap.objs.size l1 l2 p1.lt p2'.lt
      have have_ : PairsHave (mixKind X.prog X.w) (min us1.toArray.size us2.toArray.size) (fun i k v => us1.toArray[i]? = some k ∧ us2.toArray[i]? = some v) ((zs.zip us2).map fun p => ((Sum.inr p.1 : Key), p.2)) := by
        refine ⟨by rw [List.length_map, List.length_zip, List.size_toArray, List.size_toArray, len1], fun i key v hkv => ?_⟩
        obtain ⟨k1, k2⟩ := hkv
        have k1 : us1[i]? = some key := by simpa using k1
        have k2 : us2[i]? = some v := by simpa using k2
        obtain ⟨z, t, hz, rfl⟩ := str_get rv1 k1
        refine ⟨Sum.inr z, ?_, Froz.is_str (P := X.prog) (w := X.w) z t⟩
        rw [List.getElem?_map, show (zs.zip us2)[i]? = some (z, v) from List.getElem?_zip_eq_some.mpr ⟨hz, k2⟩]
        rfl
      have il1 : h'.IsList l1 us1.toArray := by
        obtain ⟨o, ho, r⟩ := p1.isList
        exact ⟨o, hk _ _ ho, r⟩
      have il2 : h'.IsList l2 us2.toArray := by
        obtain ⟨o, ho, r⟩ := p2'.isList
        exact ⟨o, hk _ _ ho, r⟩
      refine call_dict_pairs (s := { s1 with heap := h' }) (PairArg.zip _ _ _ _ _ l1 l2 D us1.toArray us2.toArray) (I1.ok.hd hc) ⟨hz, hTI, ⟨_, _, hTO⟩, hi1, hi2, il1, il2⟩ have_ (by rw [List.size_toArray, len1, sizeLine_eq]; omega) fun h'' tk hd hk2 => ?_
      have ndk : (([] ++ (zs.zip us2).map fun p : Str × Value => ((Sum.inr p.1 : Key), p.2)).map Prod.fst).Nodup := by
        rw [List.nil_append, List.map_map]
        have e : (zs.zip us2).map (Prod.fst ∘ fun p : Str × Value => ((Sum.inr p.1 : Key), p.2)) = ((zs.zip us2).map Prod.fst).map Sum.inr := by
          rw [List.map_map]
          rfl
        rw [e, List.map_fst_zip (by omega)]
        exact List.pairwise_map.mpr (nd.imp fun {x y} hne e => hne (Sum.inr.inj e))
      rw [merged_new _ _ ndk, List.nil_append] at hd
      have big := I1.big
      have le : s1.heap.objs.size ≤ h'.objs.size := by omega
      have kk : ∀ c o, s1.heap.get? c = some o → h''.get? c = some o := fun c o e => by
        have lt := Heap.lt_size e
        refine hk2 c o (fun hm => ?_) (hk c o e)
        simp only [List.mem_cons, List.not_mem_nil, or_false] at hm
        rcases hm with e1 | e1 | e1 | e1 <;> (have z : s1.heap.objs.size ≤ c := by rw [e1]; first | exact Nat.le_add_right _ _ | exact Nat.le_refl _) <;> exact absurd lt (Nat.not_lt_of_le z)
      have hlen : (zkv zs ws).length ≤ sizeLine := by
        unfold zkv
        rw [List.length_map, List.length_zip, sizeLine_eq]
        omega
      exact ⟨.ref _, _, I1.laid (a := h'.objs.size) (o := .dK (zkv zs ws)) (t' := tk) kk le ⟨hlen, beq_eq_false_iff_ne.mpr (Nat.ne_of_gt (Nat.lt_of_lt_of_le big le)), _, kv_zip rv2, hd⟩, rfl, q1 _ (I1.hok.fresh le)⟩
end
end Own

namespace Own
open PySem PySem.Spec PyProof.Rows L2 Evl
/-! ### y[i] of an object with an own __getitem__ that may raise -/
structure GetN (P : Program) (w : World) (K : PySem.W.Frag) (mg : Str → Option Value) (base : Heap) (k : Nat) (C : Addr) (sp : Sp) : Prop where
  cl : Cls K C
  ex : ∃ (f : Addr) (fd : FuncData) (ps : List Str), FnN P w K mg base k f fd ps sp ∧ Meth K C "__getitem__" f ∧ Binds K fd ps [] ∧ PySem.W.fnIn K f = true
def tIxN (C : Addr) (sp : Sp) (E : L2.St → XK) (ta tb : TE) : TE := fun σ H Q => ta σ H fun x H1 => tb σ H1 fun y H2 => ∃ a d fs, x = .ref a ∧ H2 a = some (.ins C d fs) ∧ sp [.ref a, y] H2 Q (E σ)
section
variable {X : Cx} {pk : List (Addr × Obj)} {τ : L2.St} {H : Hp} {s : Shared} {k j : Nat} {sp : Sp} {f C : Addr} {fd : FuncData} {ps : List Str} {Z : VK} {us : List Value} {vs : List V} {pos : Pos} {a b : Expr} {ta tb : TE} {E : L2.St → XK}
theorem run_fnN1 (F : FnN X.prog X.w X.K X.mg X.base k f fd ps sp) (hr : Room k X.A.in1) (hg : X.A.guards = some []) (hbd : Binds X.K fd ps []) (hx : PassesAt (L2N.CX X.prog X.w) X τ (E τ))
    (I : Inv X pk τ H s) (r : Vals vs us) (h : sp vs H Z (E τ)) : wpAny (model X.prog X.w) X.A.in1 (call (.ref f) us) (EP X pk τ Z) X.xe s := by
  have hlen : us.length = ps.length := by rw [← r.length]; exact F.len _ _ _ _ h
  refine wpAny_call (codeAny_mono (F.run X.A.in1 X.stack s H ⟨us, []⟩ us vs Z (E τ) hr hg I.env0.in1 (by have q := hbd s us I.kIn (by rw [List.append_nil]; exact hlen); rw [List.append_nil] at q; exact q) r h) fun r s' hsq => ?_)
  cases r with
  | error e => exact hx pk H s e s' I hsq
  | ok fl =>
    cases fl with
    | ret u => exact I.after hsq
    | next => exact False.elim hsq
    | brk => exact False.elim hsq
    | cont => exact False.elim hsq
theorem pe_ixN (c : GetN X.prog X.w X.K X.mg X.base k C sp) (hr : Room j X.A) (hg0 : X.A.guards = some []) (hkp : k + 1 ≤ j) (hx : ∀ σ, PassesAt (L2N.CX X.prog X.w) X σ (E σ)) (ha : PE X a ta) (hb : PE X b tb)
    (hsl : ∀ o i, subscripted b true o i = runValue (.builtin "lifetime.subscript" ⟨[o, i], []⟩) := by intro _ _; rfl) : PE X (.Subscript a b pos) (tIxN C sp E ta tb) := by
  obtain ⟨f, fd, ps, F, M, bd, fi⟩ := c.ex
  refine ⟨fun pins s σ H Q I h => ?_⟩
  refine Subscript_ (binT ha hb I h fun v u s2 x y H2 I2 rx ry q => ?_)
  obtain ⟨a, d, fs, rfl, hA, q⟩ := q
  cases rx
  obtain ⟨mA, J, _⟩ := ins_get I2.hok hA
  obtain ⟨od, J, _⟩ := J.look
  obtain ⟨m, hF⟩ := I2.fr
  have hr1 : Room k X.A.in1 := (show Room (k + 1) X.A from hr.mono hkp).in1
  exact PySem.W.sub_K hF I2.ok.mod.kin J M.at_ fi M.fn (run_fnN1 (us := [.ref a, u]) (vs := [.ref a, y]) F hr1 hg0 bd (hx σ) I2 (.cons rfl (.cons ry .nil)) q) (hsl _ _)
theorem passN0 : ∀ σ, PassesAt (L2N.CX X.prog X.w) X σ ((fun _ => E0) σ) := fun σ pins H s e s' I c => by
  obtain ⟨_, _, _, _, _, _, _, _, _, _, _, _, h⟩ := c
  exact (show False from h).elim
end
end Own

namespace Own
open PySem PySem.Spec PyProof.Rows L2 Evl
theorem stepT_kl {z : Str} {ds : List PyData} (h : stepT z ds = true) : z ∈ KL ∧ ds.length ≤ 3 ∧ ∀ d ∈ ds, pickD d = true ∨ nmD d = true := by
  unfold stepT at h
  simp only [Bool.and_eq_true, decide_eq_true_eq] at h
  obtain ⟨h1, h2, h3⟩ := h
  have hn := (nPk_le z).2
  have hp : ∀ d ∈ ds.take (nPk z), pickD d = true := fun d hd => by
    have := List.all_eq_true.mp h2 d hd
    unfold pickFor at this
    simp only [Bool.and_eq_true] at this
    exact this.1
  split at h3
  · simp only [Bool.and_eq_true, decide_eq_true_eq] at h3
    obtain ⟨h3, h4⟩ := h3
    refine ⟨h1, by omega, fun d hd => ?_⟩
    obtain ⟨i, hi, rfl⟩ := List.getElem_of_mem hd
    by_cases c : i < nPk z
    · exact .inl (hp _ (List.mem_take_iff_getElem.mpr ⟨i, by omega, rfl⟩))
    · have : i = nPk z := by omega
      subst this
      refine .inr ?_
      rw [List.getD_eq_getElem?_getD, List.getElem?_eq_getElem hi] at h4
      exact h4
  · simp only [decide_eq_true_eq] at h3
    refine ⟨h1, by omega, fun d hd => .inl (hp _ ?_)⟩
    rw [List.take_of_length_le (by omega)]
    exact hd
mutual
theorem Da.tn {H H' : Hp} (e : TEx H H') : ∀ (d : PyData) {v : V}, nlD d = true → Da H v d → Da H' v d
  | .none, _, _, h => by cases h; exact .non
  | .bool _, _, _, h => by cases h; exact .bl _
  | .int _, _, _, h => by cases h; exact .int _
  | .str _, _, _, h => by cases h; exact .str _
  | .list ds, _, k, h => by cases k
  | .tuple ds, _, k, h => by
    cases h with
    | tup h1 h2 => exact .tup (e _ _ h1) (DaAll.tn e ds k h2)
  | .dict _, _, k, h => by cases k
theorem DaAll.tn {H H' : Hp} (e : TEx H H') : ∀ (ds : List PyData) {vs : List V}, nlDs ds = true → DaAll H vs ds → DaAll H' vs ds
  | [], _, _, h => by cases h; exact .nil
  | d :: ds, _, k, h => by
    have k : (nlD d && nlDs ds) = true := k
    rw [Bool.and_eq_true] at k
    cases h with
    | cons h1 h2 => exact .cons (Da.tn e d k.1 h1) (DaAll.tn e ds k.2 h2)
end
theorem nl_step {d : PyData} (h : stepD d = true) : nlD d = true := by
  obtain ⟨z, ds, rfl⟩ : ∃ z ds, d = .tuple (.str z :: ds) := by
    match d, h with
    | .tuple (.str z :: ds), _ => exact ⟨z, ds, rfl⟩
  obtain ⟨_, _, hpn⟩ := stepT_kl (z := z) (ds := ds) h
  show (true && nlDs ds) = true
  rw [Bool.true_and]
  refine nlDs_iff.mpr fun x hx => ?_
  rcases hpn x hx with k | k
  · exact nl_pick k
  · cases x <;> first | rfl | cases k
abbrev s_Wrong___init__ : Stmt := inClass (top 2) 0
theorem sc_Wrong___init__ : FnScope ["self", "place"] ["self", "place"] (defScope s_Wrong___init__) := ⟨rfl, rfl, rfl, by decide +kernel, rfl, by decide +kernel, by decide +kernel⟩
abbrev s_BadStep___init__ : Stmt := inClass (top 3) 0
theorem sc_BadStep___init__ : FnScope ["self", "index"] ["self", "index"] (defScope s_BadStep___init__) := ⟨rfl, rfl, rfl, by decide +kernel, rfl, by decide +kernel, by decide +kernel⟩
abbrev s_NoStep___init__ : Stmt := inClass (top 4) 0
theorem sc_NoStep___init__ : FnScope ["self", "index"] ["self", "index"] (defScope s_NoStep___init__) := ⟨rfl, rfl, rfl, by decide +kernel, rfl, by decide +kernel, by decide +kernel⟩
/-- an own error's __init__ that keeps its argument -/
def spFI (C : Addr) (fl : Str) : Sp := fun vs H Q _ => ∃ (a : Addr) (v : V), vs = [.ref a, v] ∧ H a = some (exo a C none) ∧ ∀ dx, H dx = none → dx ≠ a → Q .non (upd (upd H dx (exd dx [(fl, v)])) a (exo a C (some dx)))
structure ErrF (P : Program) (w : World) (K : PySem.W.Frag) (mg : Str → Option Value) (base : Heap) (nm fl : Str) (C : Addr) : Prop where
  at_ : mg nm = some (.ref C)
  T : OexC K C
  ex : ∃ (fi : Addr) (fd : FuncData), PySem.W.findIn K (.ref C) "__init__" = some (some (.ref fi)) ∧ PySem.W.typeIn K (.ref fi) = some (.type "function") ∧ FnOk P w K mg base CX0 1 fi fd ["self", fl] (spFI C fl) ∧ Binds K fd ["self", fl] []
section
variable {P : Program} {w : World} {K : PySem.W.Frag} {mg : Str → Option Value} {base : Heap} {C f : Addr} {fd : FuncData}
theorem ok_i_Wrong (T : OexC K C) (hno : PySem.W.findIn K (.ref C) "place" = some none) (F : Fun K "__init__" "Wrong.__init__" s_Wrong___init__ f fd) : FnOk P w K mg base CX0 1 f fd ["self", "place"] (spFI C "place") := by
  refine F.ok sc_Wrong___init__ (fun vs H Q E h => ?_) (fun cdv A outer s H vs Q E hr h => ⟨_, pss_one (ps_ost (pv 0) (pv 1)), ?_⟩)
  · obtain ⟨a, v, rfl, _⟩ := h
    rfl
  · obtain ⟨a, v, rfl, ha, q⟩ := h
    exact ⟨_, rfl, _, rfl, a, C, rfl, T, hno, .inl ⟨ha, fun dx n1 n2 => q dx n1 n2⟩⟩
theorem ok_i_BadStep (T : OexC K C) (hno : PySem.W.findIn K (.ref C) "index" = some none) (F : Fun K "__init__" "BadStep.__init__" s_BadStep___init__ f fd) : FnOk P w K mg base CX0 1 f fd ["self", "index"] (spFI C "index") := by
  refine F.ok sc_BadStep___init__ (fun vs H Q E h => ?_) (fun cdv A outer s H vs Q E hr h => ⟨_, pss_one (ps_ost (pv 0) (pv 1)), ?_⟩)
  · obtain ⟨a, v, rfl, _⟩ := h
    rfl
  · obtain ⟨a, v, rfl, ha, q⟩ := h
    exact ⟨_, rfl, _, rfl, a, C, rfl, T, hno, .inl ⟨ha, fun dx n1 n2 => q dx n1 n2⟩⟩
theorem ok_i_NoStep (T : OexC K C) (hno : PySem.W.findIn K (.ref C) "index" = some none) (F : Fun K "__init__" "NoStep.__init__" s_NoStep___init__ f fd) : FnOk P w K mg base CX0 1 f fd ["self", "index"] (spFI C "index") := by
  refine F.ok sc_NoStep___init__ (fun vs H Q E h => ?_) (fun cdv A outer s H vs Q E hr h => ⟨_, pss_one (ps_ost (pv 0) (pv 1)), ?_⟩)
  · obtain ⟨a, v, rfl, _⟩ := h
    rfl
  · obtain ⟨a, v, rfl, ha, q⟩ := h
    exact ⟨_, rfl, _, rfl, a, C, rfl, T, hno, .inl ⟨ha, fun dx n1 n2 => q dx n1 n2⟩⟩
end
def tRF (C : Addr) (fl : Str) (Wx : WX) (ta : TA) : TS := fun _ σ H => tMkO C (spFI C fl) [] ta σ H fun cls d H' => Wx cls d σ H'
theorem ps_raiseF {X : Cx} {nm fl : Str} {C : Addr} {Wx : WX} {j : Nat} {e : Expr} {ta : TA} {p pos pos2 : Pos} (hc : X.calm = true) (c : ErrF X.prog X.w X.K X.mg X.base nm fl C) (hr : Room j X.A) (hj : 2 ≤ j) (tk : L2N.Takes X Wx) (hg : Gl X nm) (ha : PA X [e] ta) (hdb : (nm == ("__debug__" : Str)) = false := by decide)
    (he : starEach (e :: []) X.env = (false, eval e X.env) :: starEach [] X.env := by rfl) (hpl : (backTo pos (starEach [] X.env)).any (·.1) = false := by rfl) :
    PS X (.Raise (some (.Call (.Name nm p) [e] [] pos)) none pos2) (tRF C fl Wx ta) := by
  obtain ⟨fi, fd, iC, tI, F1, b⟩ := c.ex
  exact L2N.ps_raise hc tk (pmk_oexN c.T iC tI F1 (hr.mono hj) b pass0 hg c.at_ ha hdb he hpl)
theorem mkF {C a : Addr} {fl : Str} {v : V} {H1 : Hp} {K2 : VK} (k : ∀ dx, H1 dx = none → dx ≠ a → K2 .non (upd (upd (upd H1 a (exo a C none)) dx (exd dx [(fl, v)])) a (exo a C (some dx)))) :
    spFI C fl (.ref a :: ([v] ++ [])) (upd H1 a (exo a C none)) K2 (fun _ _ _ => False) := ⟨a, v, rfl, upd_same, fun dx h ne => k dx (by rw [upd_ne ne] at h; exact h) ne⟩
theorem exF {a dx : Addr} {H1 : Hp} {o1 o2 o3 o4 : HO} (ha : H1 a = none) (hd : H1 dx = none) : Ex H1 (upd (del (upd (upd (upd H1 a o1) dx o2) a o3) a) dx o4) := fun b o h => by
  have n1 : b ≠ a := fun e => by rw [e, ha] at h; cases h
  have n2 : b ≠ dx := fun e => by rw [e, hd] at h; cases h
  rw [upd_ne n2, del_ne n1, upd_ne n1, upd_ne n2, upd_ne n1]
  exact h
abbrev s_check_closes : Stmt := top 36
theorem sc_check_closes : FnScope ["steps", "index", "step"] ["steps"] (defScope s_check_closes) := ⟨rfl, rfl, rfl, by decide +kernel, rfl, by decide +kernel, by decide +kernel⟩
def isCl : PyData → Bool | .tuple (.str z :: _) => decide (z = "close") | _ => false
def fc (ds : List PyData) : Option Nat := ds.dropLast.findIdx? isCl
/-- steps in a list or a tuple -/
def SqS (H : Hp) (p : Addr) (xs : List V) : Prop := H p = some (.lst xs) ∨ H p = some (.tup xs)
theorem SqS.ex {H H' : Hp} {p : Addr} {xs : List V} (e : Ex H H') (h : SqS H p xs) : SqS H' p xs := h.imp (e _ _) (e _ _)
theorem sIx_m1 (n : Nat) : HT.sIx n n (some (-1)) = n - 1 := by
  unfold HT.sIx
  simp
  omega
theorem cut_init (xs : List V) : cutV xs none (some (-1)) = xs.dropLast := by
  unfold cutV
  rw [HT.sIx_none, sIx_m1, List.dropLast_eq_take]
  rfl
theorem sl_initG {K : PySem.W.Frag} {H : Hp} {Z : VK} {p : Addr} {xs : List V} (hp : SqS H p xs) (z : ∀ (t : Addr) (H' : Hp), Ex H H' → SqS H' t xs.dropLast → Z (.ref t) H') : rSlAny K (.ref p) none (some (-1)) H Z := by
  rcases hp with hp | hp
  · refine .inl ⟨p, xs, rfl, sq_of hp, fun l hl => ?_⟩
    generalize hq : upd H l _ = H2
    obtain ⟨e2, h2⟩ := gen1 hq hl
    rw [cut_init] at h2
    exact z l _ e2 (.inl h2)
  · refine .inr (.inl ⟨p, _, rfl, st_of hp, fun hz => ?_, fun hz t ht => ?_⟩)
    · have h1 := hz.2
      rw [sIx_m1] at h1
      have h0 : xs.length = 0 := by omega
      have := List.length_eq_zero_iff.mp h0
      subst this
      exact z p H (Ex.refl _) (.inr hp)
    · generalize hq2 : upd H t _ = H2
      obtain ⟨e2, h2⟩ := gen1 hq2 ht
      rw [cut_init] at h2
      exact z t _ e2 (.inr h2)
theorem fc_some : ∀ {l : List PyData} {i : Nat} {d : PyData}, (∀ d ∈ l.take i, isCl d = false) → l[i]? = some d → isCl d = true → l.findIdx? isCl = some i
  | [], _, _, _, h2, _ => by cases h2
  | x :: xs, 0, d, _, h2, h3 => by
    cases h2
    rw [List.findIdx?_cons, if_pos h3]
  | x :: xs, i + 1, d, h1, h2, h3 => by
    have hx : isCl x = false := h1 x List.mem_cons_self
    rw [List.findIdx?_cons, if_neg (by rw [hx]; decide), fc_some (l := xs) (fun d hd => h1 d (List.mem_cons_of_mem _ hd)) h2 h3]
    rfl
theorem fc_none {l : List PyData} (h : ∀ d ∈ l, isCl d = false) : l.findIdx? isCl = none := by
  rw [List.findIdx?_eq_none_iff]
  exact h
theorem stp_head {H : Hp} {v : V} {d : PyData} (h : Da H v d) (k : stepD d = true) : ∃ (p : Addr) (z : Str) (xs : List V), v = .ref p ∧ H p = some (.tup (.str z :: xs)) ∧ isCl d = decide (z = "close") := by
  have e : ∃ z ds, d = .tuple (.str z :: ds) := by
    match d, k with
    | .tuple (.str z :: ds), _ => exact ⟨z, ds, rfl⟩
  obtain ⟨z, ds, rfl⟩ := e
  obtain ⟨p, xs, rfl, hp, hA⟩ := h.tup_inv
  cases hA with
  | cons ha _ =>
    have := ha.str_inv
    subst this
    exact ⟨p, z, _, rfl, hp, rfl⟩
section
variable {P : Program} {w : World} {K : PySem.W.Frag} {mg : Str → Option Value} {base : Heap} {rel : Addr}
def spCC (C : Addr) : Sp := fun vs H Q E => ∃ (p : Addr) (xs : List V) (ds : List PyData), vs = [.ref p] ∧ SqS H p xs ∧ DaAll H xs ds ∧ (∀ d ∈ ds, stepD d = true) ∧ ds.length ≤ 30000 ∧
  (fc ds = none → ∀ H', Ex H H' → Q .non H') ∧ (∀ i, fc ds = some i → ∀ H' dd, Ex H H' → H' dd = some (.xd [("index", .int (i : Int))]) → E (.ref C) (some dd) H')
theorem ok_check_closes {C : Addr} (T : Txt0 mg) (T_enumerate : mg "enumerate" = none) (c_BadStep : ErrF P w K mg base "BadStep" "index" C) (D : Df K mg "check_closes" s_check_closes) : CalN P w K mg base 3 "check_closes" (spCC C) := by
  refine cal_mkN D sc_check_closes (fun _ _ _ _ _ _ us hl => match us, hl with | [_], _ => rfl) (fun vs H Q E h => ?_) (fun f cdv A outer s H vs Q E hr hG h => ?_)
  · obtain ⟨p, xs, ds, rfl, _⟩ := h
    rfl
  · obtain ⟨p, xs, ds, rfl, hp, hA, hst, hl, qt, qe⟩ := h
    refine ⟨_, (pss_one (ps_forO (ps_for (passes_of rfl) rfl (pi_enumA (by rfl) T_enumerate (pa_cons (pe_slice slAny (pv 0) po_none (po_some (pe_un un_neg pe_int))) pa_nil)) (pg_tup rfl (pgs_cons (pg_name (i := 1) sc_check_closes.nd rfl (Or.inl rfl)) (pgs_cons (pg_name (i := 2) sc_check_closes.nd rfl (Or.inl rfl)) pgs_nil)))
        (pss_one (ps_if (pt_cmpR (opEq hr) (pe_ix ixAny (pv 2) pe_int (fun _ _ => rfl)) pe_str (nomark _)) (pss_one (ps_raiseF rfl c_BadStep hr (by decide) (L2N.takes_of rfl rfl rfl rfl) rfl (pa_cons (pv 1) pa_nil))) pss_nil))))), ?_⟩
    have hlx := hA.len
    refine ⟨_, rfl, 1, rfl, -1, rfl, sl_initG hp fun t H1 e1 h1 => ?_⟩
    have hA1 : DaAll H1 xs.dropLast ds.dropLast := by
      rw [List.dropLast_eq_take, List.dropLast_eq_take, hlx]
      exact (DaAll.ex e1 _ hA).take _
    have hl1 : xs.dropLast.length = ds.dropLast.length := hA1.len
    rcases h1 with h1 | h1
    · refine .inl ⟨t, _, rfl, sq_of h1, ?_⟩
      refine frG (walk_enum (xs := xs.dropLast)) (fun i σ H' => ∃ x1 x2 : Option V, σ = [some (.ref p), x1, x2] ∧ Ex H1 H' ∧ ∀ d ∈ ds.dropLast.take i, isCl d = false) ⟨_, _, rfl, Ex.refl _, fun d hd => by cases hd⟩ (fun _ _ _ _ ⟨_, _, _, e, _⟩ => sq_of (e _ _ h1)) ?_ ?_
      · rintro i x σ H2 H2' hi ⟨x1, x2, rfl, e2, hn⟩ ⟨tp, u, w', rfl, ht, rfl, hu, hw⟩
        cases hu
        have e3 := e2.trans (Ex.new (o := .tup [V.int ((i : Nat) : Int), w']) ht)
        obtain ⟨d, hd1, hd2⟩ := (DaAll.ex e3 _ hA1).at hw
        obtain ⟨pz, z, zs, rfl, hpz, hcl⟩ := stp_head hd2 (hst d ((List.dropLast_sublist ds).subset (List.mem_of_getElem? hd1)))
        refine ⟨tp, _, rfl, st_of upd_same, rfl, _, _, rfl, _, _, rfl, rfl, ?_⟩
        refine ⟨_, rfl, .inr (.inl ⟨pz, _, 0, _, rfl, rfl, st_of hpz, atI_nat (j := 0) rfl, .inl ⟨rfl, _, rfl, ?_⟩⟩)⟩
        rw [str_dec, ← hcl]
        cases hc : isCl d with
        | true =>
          refine iteT ⟨_, rfl, by show 1 ≤ 1000; decide, fun a0 ha0 => mkF fun dx n1 n2 => ⟨rfl, dx, _, upd_same, by rw [upd_ne n2, upd_same], n1, ?_⟩⟩
          exact qe i (fc_some hn hd1 hc) _ dx ((e1.trans e3).trans (exF ha0 n1)) upd_same
        | false =>
          refine iteF ⟨_, _, rfl, e3, fun g hg => ?_⟩
          rw [tk hd1] at hg
          rcases List.mem_append.mp hg with hg | hg
          · exact hn g hg
          · rw [List.mem_singleton.mp hg]
            exact hc
      · rintro σ H2 ⟨x1, x2, rfl, e2, hn⟩
        refine qt (fc_none fun d hd => hn d ?_) _ (e1.trans e2)
        rw [hl1, List.take_length]
        exact hd
    · refine .inr ⟨t, _, rfl, st_of h1, ?_⟩
      refine frG (walk_enumT (xs := xs.dropLast)) (fun i σ H' => ∃ x1 x2 : Option V, σ = [some (.ref p), x1, x2] ∧ Ex H1 H' ∧ ∀ d ∈ ds.dropLast.take i, isCl d = false) ⟨_, _, rfl, Ex.refl _, fun d hd => by cases hd⟩ (fun _ _ _ _ ⟨_, _, _, e, _⟩ => st_of (e _ _ h1)) ?_ ?_
      · rintro i x σ H2 H2' hi ⟨x1, x2, rfl, e2, hn⟩ ⟨tp, u, w', rfl, ht, rfl, hu, hw⟩
        cases hu
        have e3 := e2.trans (Ex.new (o := .tup [V.int ((i : Nat) : Int), w']) ht)
        obtain ⟨d, hd1, hd2⟩ := (DaAll.ex e3 _ hA1).at hw
        obtain ⟨pz, z, zs, rfl, hpz, hcl⟩ := stp_head hd2 (hst d ((List.dropLast_sublist ds).subset (List.mem_of_getElem? hd1)))
        refine ⟨tp, _, rfl, st_of upd_same, rfl, _, _, rfl, _, _, rfl, rfl, ?_⟩
        refine ⟨_, rfl, .inr (.inl ⟨pz, _, 0, _, rfl, rfl, st_of hpz, atI_nat (j := 0) rfl, .inl ⟨rfl, _, rfl, ?_⟩⟩)⟩
        rw [str_dec, ← hcl]
        cases hc : isCl d with
        | true =>
          refine iteT ⟨_, rfl, by show 1 ≤ 1000; decide, fun a0 ha0 => mkF fun dx n1 n2 => ⟨rfl, dx, _, upd_same, by rw [upd_ne n2, upd_same], n1, ?_⟩⟩
          exact qe i (fc_some hn hd1 hc) _ dx ((e1.trans e3).trans (exF ha0 n1)) upd_same
        | false =>
          refine iteF ⟨_, _, rfl, e3, fun g hg => ?_⟩
          rw [tk hd1] at hg
          rcases List.mem_append.mp hg with hg | hg
          · exact hn g hg
          · rw [List.mem_singleton.mp hg]
            exact hc
      · rintro σ H2 ⟨x1, x2, rfl, e2, hn⟩
        refine qt (fc_none fun d hd => hn d ?_) _ (e1.trans e2)
        rw [hl1, List.take_length]
        exact hd
end
end Own

namespace Own
open PySem PySem.Spec PyProof.Rows L2 Evl
abbrev s_Script___init__ : Stmt := inClass (top 37) 0
theorem sc_Script___init__ : FnScope ["self", "steps", "step"] ["self", "steps"] (defScope s_Script___init__) := ⟨rfl, rfl, rfl, by decide +kernel, rfl, by decide +kernel, by decide +kernel⟩
abbrev s_Script_steps : Stmt := inClass (top 37) 7
theorem sc_Script_steps : FnScope ["self"] ["self"] (defScope s_Script_steps) := ⟨rfl, rfl, rfl, by decide +kernel, rfl, by decide +kernel, by decide +kernel⟩
structure ClsP (K : PySem.W.Frag) (C : Addr) : Prop where
  cl : Cls K C
  n1 : NoAttr K C "all_steps"
section
variable {P : Program} {w : World} {K : PySem.W.Frag} {mg : Str → Option Value} {base : Heap} {rel : Addr}
def ErrW (E : XK) (CW : Addr) (H : Hp) : Prop := ∀ H' dd, Ex H H' → H' dd = some (.xd [("place", .int 0)]) → E (.ref CW) (some dd) H'
def ErrB (E : XK) (CB : Addr) (i : Nat) (H : Hp) : Prop := ∀ H' dd, Ex H H' → H' dd = some (.xd [("index", .int (i : Int))]) → E (.ref CB) (some dd) H'
/-- a Script's __init__ -/
def spSI (K : PySem.W.Frag) (C CW CB : Addr) : Sp := fun vs H Q E => ∃ (y d : Addr) (v : V), vs = [.ref y, v] ∧ H y = some (.ins C d []) ∧
  ((∃ tyv, (∀ H', Ex H H' → TyX K H' v tyv) ∧ PySem.W.kitAny K tyv [.type "list", .type "tuple"] = some false ∧ ErrW E CW H) ∨
   ∃ (p : Addr) (xs : List V) (ds : List PyData), v = .ref p ∧ SqS H p xs ∧ DaAll H xs ds ∧ (∀ d ∈ ds, okD 40 16000000 d) ∧ ds.length ≤ 30000 ∧ (ds.all stepD = false → ErrW E CW H) ∧
     (ds.all stepD = true → (∀ i, fc ds = some i → ErrB E CB i H) ∧ (fc ds = none → ∀ H' l, ExB y H H' → H l = none → H' y = some (.ins C d [("all_steps", .ref l)]) → H' l = some (.lst xs) → Q .non H')))
theorem ok_sinit {C CW CB : Addr} (S : ClsP K C) {fi : Addr} {fdi : FuncData} (T : Txt0 mg) (TI : TxtI K mg rel) (c_Wrong : ErrF P w K mg base "Wrong" "place" CW) (F : Fun K "__init__" "Script.__init__" s_Script___init__ fi fdi) (c_is_step : CalG P w K mg base 6 "is_step" (spIs stepD)) (c_check_closes : CalN P w K mg base 3 "check_closes" (spCC CB)) :
    FnN P w K mg base 7 fi fdi ["self", "steps"] (spSI K C CW CB) := by
  refine fn_mkN F sc_Script___init__ (fun vs H Q E h => ?_) (fun cdv A outer s H vs Q E hr hG h => ?_)
  · obtain ⟨y, d, v, rfl, _⟩ := h
    rfl
  · obtain ⟨y, d, v, rfl, hy, h⟩ := h
    refine ⟨_, (pss_cons (ps_if (PW.pt (pw_or (pt_not (pt_val (pe_callB call_isiT (by rfl) TI.isinstance (by decide +kernel) (pa_cons (pv 1) (pa_cons (pe_tup (pa_cons (pe_bltn (v := .ty "list") (by rfl) T.list (by decide +kernel) rfl) (pa_cons (pe_bltn (v := .ty "tuple") (by rfl) T.tuple (by decide +kernel) rfl) pa_nil))) pa_nil))))) (pw_or1 (pt_not (pt_val (pe_callB (cr_all rfl) (by rfl) T.all (by decide +kernel) (pa_cons (pe_lcO (pe_lc (own := [("step", 2)]) rfl sc_Script___init__.nd (piAny (pv 1)) (blkOk_by (own := [("step", 2)]) (N := ["self", "steps", "step"]) (sc := defScope s_Script___init__) (by first | decide +kernel | kernel_rfl)) (fun _ _ _ _ _ => pg_name (i := 2) sc_Script___init__.nd rfl (Or.inl rfl)) (fun _ _ _ _ _ => pts_nil) (fun _ _ _ _ _ => pe_cG c_is_step hr hG (by decide) rfl (pa_cons (pv 2) pa_nil)))) pa_nil))))))) (pss_one (ps_raiseF rfl c_Wrong hr (by decide) (L2N.takes_of rfl rfl rfl rfl) rfl (pa_cons pe_int pa_nil))) pss_nil)
      (pss_cons (ps_expr (pe_cN c_check_closes hr hG (by decide) (fun σ => L2N.passAt (L2N.takes_of rfl rfl rfl rfl) σ) rfl (pa_cons (pv 1) pa_nil)))
      (pss_one (ps_fld (pv 0) (pe_callTy call_list_of (by rfl) T.list (by decide +kernel) (pa_cons (pv 1) pa_nil)) (by rfl))))), ?_⟩
    have boom : ∀ {H1 : Hp}, Ex H H1 → ErrW E CW H → tRF CW "place" (fun cls d _ H => E cls d H) (tCons (tC (.int 0)) tNil) { nx := fun _ H' => Q .non H', rt := Q } (L2.start ["self", "steps", "step"] [.ref y, v]) H1 := fun {H1} e1 hE => by
      refine ⟨by show 1 ≤ 1000; decide, fun a0 ha0 => mkF fun dx n1 n2 => ⟨rfl, dx, _, upd_same, by rw [upd_ne n2, upd_same], n1, ?_⟩⟩
      exact hE _ dx (e1.trans (exF ha0 n1)) upd_same
    refine ⟨_, rfl, by show 2 ≤ sizeLine; decide, fun t ht => ?_⟩
    generalize hq1 : upd H t _ = H1
    obtain ⟨e1, h1⟩ := gen1 hq1 ht
    rcases h with ⟨tyv, hty, hkit, hE⟩ | ⟨p, xs, ds, rfl, hp, hA, hok, hl, hbad, hgood⟩
    · exact ⟨v, t, _, tyv, _, false, rfl, h1, .cons (.ty _) (.cons (.ty _) .nil), hty _ e1, hkit, _, rfl, iteT (boom e1 hE)⟩
    · obtain ⟨tyv, hty, hkit⟩ : ∃ tyv, TyX K H1 (.ref p) tyv ∧ PySem.W.kitAny K tyv [.type "list", .type "tuple"] = some true := by
        rcases hp with hp | hp
        · exact ⟨_, .base (.lst (e1 _ _ hp)), by exact kitAny_cons (kit_ty (r := true) (by decide +kernel)) (fun z => by cases z) (fun _ => rfl)⟩
        · exact ⟨_, .base (.tup (e1 _ _ hp)), by exact kitAny_cons (kit_ty (r := false) (by decide +kernel)) (fun _ => kitAny_cons (kit_ty (r := true) (by decide +kernel)) (fun z => by cases z) (fun _ => rfl)) (fun z => by cases z)⟩
      refine ⟨.ref p, t, _, tyv, _, true, rfl, h1, .cons (.ty _) (.cons (.ty _) .nil), hty, hkit, _, rfl, iteF ?_⟩
      have hlx := hA.len
      have hA1 := DaAll.ex e1 _ hA
      rcases hp with hpl | hpt
      · have hp : SqS H p xs := .inl hpl
        refine .inl ⟨_, rfl, p, rfl, ⟨_, sq_of (e1 _ _ hpl)⟩, ?_⟩
        refine lcG (walk_list (xs := xs)) (by omega) (sq_of (e1 _ _ hpl)) (fun _ _ e h => ex_l e h) yAt_ex (fun i ys _ => ys = ((ds.take i).map stepD).map V.bl) (fun _ _ _ _ _ h => h) rfl ?_ ?_
        · rintro i x H2 H3 ys hi e2 ⟨rfl, hx⟩ rfl N N0 kN kN0
          obtain ⟨g, hg1, hg2⟩ := (DaAll.ex e2 _ hA1).at hx
          refine ⟨rfl, ?_⟩
          refine ⟨_, rfl, x, g, rfl, hg2, hok g (List.mem_of_getElem? hg1), fun H4 e4 => kN _ _ e4 ?_⟩
          rw [tk hg1, List.map_append, List.map_append]
          rfl
        · rintro l H2 ys hln e2 h2 _ rfl
          rw [hlx, List.take_length] at h2
          refine ⟨l, ds.map stepD, rfl, sq_of h2, ?_⟩
          rw [show (ds.map stepD).all id = ds.all stepD from by rw [List.all_map]; rfl]
          refine ⟨_, rfl, ?_⟩
          have e02 := e1.trans e2
          cases hall : ds.all stepD with
          | false => exact iteT (boom e02 (hbad hall))
          | true =>
            obtain ⟨hb, hq⟩ := hgood hall
            have hp2 := hp.ex e02
            refine iteF ⟨_, rfl, p, xs, ds, rfl, hp2, DaAll.ex e02 _ hA, fun d hd => List.all_eq_true.mp hall d hd, hl, fun hfc H3 e3 => ?_, fun i hfc H3 dd e3 hdd => hb i hfc _ dd (e02.trans e3) hdd⟩
            have e03 := e02.trans e3
            have hp3 := hp2.ex e3
            refine ⟨_, rfl, p, xs, rfl, hp3.imp (fun z => sq_of z) (fun z => st_of z), fun l4 n4 => ?_⟩
            generalize hq4 : upd H3 l4 _ = H4
            obtain ⟨e4, h4⟩ := gen1 hq4 n4
            have e04 := e03.trans e4
            refine ⟨_, rfl, y, C, d, _, rfl, e04 _ _ hy, S.cl, S.n1, by decide, ?_⟩
            have ne : l4 ≠ y := fun z => by rw [z, e03 _ _ hy] at n4; cases n4
            exact hq hfc _ l4 (ExB.set fun a o _ h => e04 a o h) (none_of e03 n4) upd_same (by rw [upd_ne ne]; exact h4)
      · have hp : SqS H p xs := .inr hpt
        refine .inr (.inl ⟨_, rfl, p, rfl, ⟨_, st_of (e1 _ _ hpt)⟩, ?_⟩)
        refine lcG (walk_tup (xs := xs)) (by omega) (st_of (e1 _ _ hpt)) (fun _ _ e h => ex_t e h) yAt_ex (fun i ys _ => ys = ((ds.take i).map stepD).map V.bl) (fun _ _ _ _ _ h => h) rfl ?_ ?_
        · rintro i x H2 H3 ys hi e2 ⟨rfl, hx⟩ rfl N N0 kN kN0
          obtain ⟨g, hg1, hg2⟩ := (DaAll.ex e2 _ hA1).at hx
          refine ⟨rfl, ?_⟩
          refine ⟨_, rfl, x, g, rfl, hg2, hok g (List.mem_of_getElem? hg1), fun H4 e4 => kN _ _ e4 ?_⟩
          rw [tk hg1, List.map_append, List.map_append]
          rfl
        · rintro l H2 ys hln e2 h2 _ rfl
          rw [hlx, List.take_length] at h2
          refine ⟨l, ds.map stepD, rfl, sq_of h2, ?_⟩
          rw [show (ds.map stepD).all id = ds.all stepD from by rw [List.all_map]; rfl]
          refine ⟨_, rfl, ?_⟩
          have e02 := e1.trans e2
          cases hall : ds.all stepD with
          | false => exact iteT (boom e02 (hbad hall))
          | true =>
            obtain ⟨hb, hq⟩ := hgood hall
            have hp2 := hp.ex e02
            refine iteF ⟨_, rfl, p, xs, ds, rfl, hp2, DaAll.ex e02 _ hA, fun d hd => List.all_eq_true.mp hall d hd, hl, fun hfc H3 e3 => ?_, fun i hfc H3 dd e3 hdd => hb i hfc _ dd (e02.trans e3) hdd⟩
            have e03 := e02.trans e3
            have hp3 := hp2.ex e3
            refine ⟨_, rfl, p, xs, rfl, hp3.imp (fun z => sq_of z) (fun z => st_of z), fun l4 n4 => ?_⟩
            generalize hq4 : upd H3 l4 _ = H4
            obtain ⟨e4, h4⟩ := gen1 hq4 n4
            have e04 := e03.trans e4
            refine ⟨_, rfl, y, C, d, _, rfl, e04 _ _ hy, S.cl, S.n1, by decide, ?_⟩
            have ne : l4 ≠ y := fun z => by rw [z, e03 _ _ hy] at n4; cases n4
            exact hq hfc _ l4 (ExB.set fun a o _ h => e04 a o h) (none_of e03 n4) upd_same (by rw [upd_ne ne]; exact h4)
/-- steps() -/
def spSt (C : Addr) : Sp := fun vs H Q _ => ∃ (y d l : Addr) (xs : List V), vs = [.ref y] ∧ H y = some (.ins C d [("all_steps", .ref l)]) ∧ H l = some (.lst xs) ∧ ∀ H' l', Ex H H' → H' l' = some (.lst xs) → Q (.ref l') H'
theorem ok_steps {C : Addr} (S : ClsP K C) {fi : Addr} {fdi : FuncData} (T : Txt0 mg) (F : Fun K "steps" "Script.steps" s_Script_steps fi fdi) : FnG P w K mg base 1 fi fdi ["self"] (spSt C) := by
  refine fn_mkQ F sc_Script_steps (fun vs H Q E h => ?_) (fun cdv A outer s H vs Q E hr hG h => ?_)
  · obtain ⟨y, d, l, xs, rfl, _⟩ := h
    rfl
  · obtain ⟨y, d, l, xs, rfl, hy, hl, q⟩ := h
    refine ⟨_, (pss_one (ps_ret (pe_callTy call_list_of (by rfl) T.list (by decide +kernel) (pa_cons (pe_fld (pv 0) (by rfl)) pa_nil)))), ?_⟩
    refine ⟨_, rfl, y, C, d, _, _, rfl, hy, S.cl, S.n1, by rfl, l, xs, rfl, .inl (sq_of hl), fun l2 n2 => ?_⟩
    exact q _ l2 (Ex.new n2) upd_same
end
end Own

namespace Own
open PySem PySem.Spec PyProof.Rows L2 Evl
structure TxtZ (mg : Str → Option Value) : Prop where
  sorted : mg "sorted" = none
  set : mg "set" = none
  enumerate : mg "enumerate" = none
/-! ### what a Script's picks are -/
def bareP : PyData → PyData
  | .tuple [.str z, b] => if z = "book" then b else .tuple [.str z, b]
  | d => d
def wdP (d : PyData) : Str := match bareP d with | .tuple (.str w :: _) => w | _ => ""
def agP (d : PyData) : PyData := match bareP d with | .tuple [_, b] => b | _ => .none
def agOk (w : Str) (a : PyData) : Prop := (w = "last" ∧ a = .none) ∨ ((w = "name" ∧ nmD a = true) ∨ (w = "at" ∧ natD a = true) ∨ ((w = "like" ∨ w = "all") ∧ patD a = true))
theorem bare_P {H : Hp} {v : V} {d : PyData} (h : Da H v d) (k : bareD d = true) : ∃ w a u, (d = .tuple [.str w] ∧ a = .none ∨ d = .tuple [.str w, a]) ∧ w ≠ "book" ∧ View H v false v w u ∧ Da H u a ∧ agOk w a := by
  rcases bare_inv k with rfl | ⟨w, b, rfl, k2⟩
  · obtain ⟨p, xs, rfl, hp, hA⟩ := h.tup_inv
    obtain ⟨x, a, rfl, e, ha⟩ := one hA rfl
    cases e
    have := ha.str_inv
    subst this
    exact ⟨"last", .none, .non, .inl ⟨rfl, rfl⟩, by decide +kernel, ⟨⟨p, [], rfl, hp, .inl ⟨rfl, rfl, rfl⟩⟩, .inr ⟨rfl, rfl⟩⟩, .non, .inl ⟨rfl, rfl⟩⟩
  · obtain ⟨p, xs, rfl, hp, hA⟩ := h.tup_inv
    obtain ⟨x, y, a, c, rfl, e, ha, hc⟩ := two hA rfl
    cases e
    have := ha.str_inv
    subst this
    exact ⟨w, b, y, .inr rfl, by rcases arg_word k2 with rfl | rfl | rfl | rfl <;> decide +kernel, ⟨⟨p, [y], rfl, hp, .inr ⟨arg_word k2, rfl⟩⟩, .inr ⟨rfl, rfl⟩⟩, hc, .inr k2⟩
theorem bareP_bare {d a : PyData} {w : Str} (e : d = .tuple [.str w] ∧ a = .none ∨ d = .tuple [.str w, a]) (h : w ≠ "book") : bareP d = d ∧ wdP d = w ∧ agP d = a := by
  rcases e with ⟨rfl, rfl⟩ | rfl
  · exact ⟨rfl, rfl, rfl⟩
  · have z : bareP (.tuple [.str w, a]) = .tuple [.str w, a] := if_neg h
    refine ⟨z, ?_, ?_⟩
    · unfold wdP
      rw [z]
    · unfold agP
      rw [z]
theorem pick_P {H : Hp} {v : V} {d : PyData} (h : Da H v d) (k : pickD d = true) : ∃ bk own u, View H v bk own (wdP d) u ∧ Da H u (agP d) ∧ agOk (wdP d) (agP d) := by
  rcases pick_inv k with k | ⟨b, rfl, k⟩
  · obtain ⟨w, a, u, e, hb, hv, hu, ho⟩ := bare_P h k
    obtain ⟨_, e1, e2⟩ := bareP_bare e hb
    exact ⟨false, v, u, by rw [e1]; exact hv, by rw [e2]; exact hu, by rw [e1, e2]; exact ho⟩
  · obtain ⟨p, xs, rfl, hp, hA⟩ := h.tup_inv
    obtain ⟨x, y, a, c, rfl, e, ha, hc⟩ := two hA rfl
    cases e
    have := ha.str_inv
    subst this
    obtain ⟨w, a, u, e, hb, hv, hu, ho⟩ := bare_P hc k
    obtain ⟨e0, e1, e2⟩ := bareP_bare e hb
    have z : bareP (.tuple [.str "book", b]) = b := by
      show (if ("book" : Str) = "book" then b else .tuple [.str "book", b]) = b
      exact if_pos rfl
    have e3 : wdP (.tuple [.str "book", b]) = w := by
      rw [← e1]
      unfold wdP
      rw [z, e0]
    have e4 : agP (.tuple [.str "book", b]) = a := by
      rw [← e2]
      unfold agP
      rw [z, e0]
    exact ⟨true, y, u, by rw [e3]; exact ⟨hv.bare, .inl ⟨rfl, p, rfl, hp⟩⟩, by rw [e4]; exact hu, by rw [e3, e4]; exact ho⟩
def pksD : PyData → List PyData
  | .tuple (.str z :: es) => es.take (nPk z)
  | _ => []
def nmP (d : PyData) : Option Str := if wdP d = "name" then (match agP d with | .str z => some z | _ => none) else none
def paP (d : PyData) : Option PyData := if wdP d = "like" ∨ wdP d = "all" then some (agP d) else none
def plcS (i : Nat) (ps : List PyData) : List (Nat × Nat) := ((List.range ps.length).filter fun j => decide (wdP (ps.getD j .none) = "at")).map fun j => (i, j)
def plcD (ds : List PyData) : List (Nat × Nat) := (List.range ds.length).flatMap fun i => plcS i (pksD (ds.getD i .none))
def nmsD (ds : List PyData) : List Str := (ds.flatMap pksD).filterMap nmP
def pasD (ds : List PyData) : List PyData := (ds.flatMap pksD).filterMap paP
def OkS (ds : List PyData) : Prop := (∀ s ∈ ds, stepD s = true ∧ okD 4 45000 s) ∧ ds.length ≤ 25
theorem step_of {d : PyData} (h : stepD d = true) : ∃ z es, d = .tuple (.str z :: es) ∧ stepT z es = true := by
  match d, h with
  | .tuple (.str z :: es), h => exact ⟨z, es, rfl, h⟩
theorem pks_pick {s p : PyData} (h : stepD s = true) (hp : p ∈ pksD s) : pickD p = true := by
  obtain ⟨z, es, rfl, hs⟩ := step_of h
  unfold stepT at hs
  simp only [Bool.and_eq_true] at hs
  have q := List.all_eq_true.mp hs.2.1 p hp
  unfold pickFor at q
  rw [Bool.and_eq_true] at q
  exact q.1
theorem pks_len {s : PyData} (h : stepD s = true) : (pksD s).length ≤ 2 ∧ 1 ≤ (pksD s).length := by
  obtain ⟨z, es, rfl, hs⟩ := step_of h
  have n := nPk_le z
  have l := stepT_np hs
  show (es.take (nPk z)).length ≤ 2 ∧ 1 ≤ (es.take (nPk z)).length
  rw [List.length_take]
  omega
theorem flat_len2 {ds : List PyData} (h : ∀ s ∈ ds, stepD s = true) : (ds.flatMap pksD).length ≤ 2 * ds.length := by
  induction ds with
  | nil => exact Nat.le_refl _
  | cons s ds ih =>
    have h1 := (pks_len (h s List.mem_cons_self)).1
    have h2 := ih fun x hx => h x (List.mem_cons_of_mem _ hx)
    rw [List.flatMap_cons, List.length_append, List.length_cons]
    omega
theorem flat_pick {ds : List PyData} (h : ∀ s ∈ ds, stepD s = true) : ∀ p ∈ ds.flatMap pksD, pickD p = true := fun p hp => by
  obtain ⟨s, hs, hp⟩ := List.mem_flatMap.mp hp
  exact pks_pick (h s hs) hp
theorem nls_picks {ps : List PyData} (h : ∀ p ∈ ps, pickD p = true) : nlDs ps = true := nlDs_iff.mpr fun p hp => nl_pick (h p hp)
/-- a Script of these steps -/
def ScAt (C : Addr) (H : Hp) (y : Addr) (ds : List PyData) : Prop := ∃ d l xs, H y = some (.ins C d [("all_steps", .ref l)]) ∧ H l = some (.lst xs) ∧ DaAll H xs ds
theorem ScAt.ex {C : Addr} {H H' : Hp} {y : Addr} {ds : List PyData} (e : Ex H H') (h : ScAt C H y ds) : ScAt C H' y ds := by
  obtain ⟨d, l, xs, h1, h2, h3⟩ := h
  exact ⟨d, l, xs, e _ _ h1, e _ _ h2, DaAll.ex e _ h3⟩
abbrev s_Script_picks_in_order : Stmt := inClass (top 37) 11
theorem sc_Script_picks_in_order : FnScope ["self", "step", "pick"] ["self"] (defScope s_Script_picks_in_order) := ⟨rfl, rfl, rfl, by decide +kernel, rfl, by decide +kernel, by decide +kernel⟩
section
variable {P : Program} {w : World} {K : PySem.W.Frag} {mg : Str → Option Value} {base : Heap} {rel : Addr}
def spPio (C : Addr) : Sp := fun vs H Q _ => ∃ (y : Addr) (ds : List PyData), vs = [.ref y] ∧ ScAt C H y ds ∧ OkS ds ∧ ∀ H' l us, Ex H H' → H l = none → H' l = some (.lst us) → DaAll H' us (ds.flatMap pksD) → Q (.ref l) H'
theorem ok_pio {C : Addr} (S : ClsP K C) {fi : Addr} {fdi : FuncData} (T : Txt0 mg) (c_picks_of : CalG P w K mg base 2 "picks_of" (spPk1 K)) (F : Fun K "picks_in_order" "Script.picks_in_order" s_Script_picks_in_order fi fdi) : FnG P w K mg base 3 fi fdi ["self"] (spPio C) := by
  refine fn_mkQ F sc_Script_picks_in_order (fun vs H Q E h => ?_) (fun cdv A outer s H vs Q E hr hG h => ?_)
  · obtain ⟨y, ds, rfl, _⟩ := h
    rfl
  · obtain ⟨y, ds, rfl, ⟨d, l, xs, hy, hl, hA⟩, hok, q⟩ := h
    refine ⟨_, (pss_one (ps_ret (pe_lc2O (pe_lc2 (own := [("step", 1), ("pick", 2)]) (vs1 := [2]) rfl sc_Script_picks_in_order.nd (piAny (pe_fld (pv 0) (by rfl))) (blkOk_by (own := [("step", 1), ("pick", 2)]) (N := ["self", "step", "pick"]) (sc := defScope s_Script_picks_in_order) (by first | decide +kernel | kernel_rfl)) (by decide) (fun _ _ _ _ _ => pg_name (i := 1) sc_Script_picks_in_order.nd rfl (Or.inl rfl)) (fun _ _ _ _ _ => pts_nil) (fun _ _ _ _ _ => (piAnyB (pe_cG c_picks_of hr hG (by decide) rfl (pa_cons (pv 1) pa_nil)))) (fun _ _ _ _ _ => pg_name (i := 2) sc_Script_picks_in_order.nd rfl (Or.inl rfl)) (fun _ _ _ _ _ => pts_nil) (fun _ _ _ _ _ => pv 2))))), ?_⟩
    have hxl := hA.len
    have hn := hok.2
    have hst : ∀ s ∈ ds, stepD s = true := fun s hs => (hok.1 s hs).1
    refine .inl ⟨_, rfl, y, C, d, _, _, rfl, hy, S.cl, S.n1, by rfl, l, rfl, ⟨_, sq_of hl⟩, ?_⟩
    refine lc2G (σ := [some (.ref y), none, none]) (walk_list (xs := xs)) (sq_of hl) (fun _ _ e h => ex_l e h) yAt_ex (fun i ys H' => DaAll H' ys ((ds.take i).flatMap pksD)) (fun i _ _ _ e h => DaAll.tn e _ (nls_picks (flat_pick fun s hs => hst s (List.mem_of_mem_take hs))) h) .nil ?_ ?_
    · rintro i x H1 H2 ys hi e1 ⟨rfl, hx⟩ hY D0 Nx hD0 hd0 kN
      obtain ⟨s, hs, hda⟩ := (DaAll.ex e1 _ hA).at hx
      have ms := List.mem_of_getElem? hs
      obtain ⟨z, es, rfl, hz⟩ := step_of (hst s ms)
      obtain ⟨p, zs, rfl, hp, hB⟩ := hda.tup_inv
      cases hB with
      | @cons v0 zs _ _ h0 hB =>
        have := h0.str_inv
        subst this
        refine ⟨rfl, ?_⟩
        refine .inl ⟨_, rfl, p, z, zs, es, rfl, hp, hB, hz, fun H3 l3 e3 n3 h3 => ⟨l3, rfl, ⟨_, sq_of h3⟩, ?_⟩⟩
        have hlD : l3 ≠ D0 := fun e => by rw [e, hd0] at n3; cases n3
        have hC : DaAll H3 (zs.take (nPk z)) (es.take (nPk z)) := (DaAll.ex e3 _ hB).take _
        have hlen := hC.len
        have hpk : ∀ p ∈ es.take (nPk z), pickD p = true := fun p hp => pks_pick (s := .tuple (.str z :: es)) (hst _ ms) hp
        have le2 := (pks_len (hst _ ms)).1
        have le2 : (es.take (nPk z)).length ≤ 2 := le2
        have before : ((ds.take i).flatMap pksD).length ≤ 80 := by
          have := flat_len2 (ds := ds.take i) fun s hs => hst s (List.mem_of_mem_take hs)
          rw [List.length_take] at this
          omega
        have npre : nlDs ((ds.take i).flatMap pksD) = true := nls_picks (flat_pick fun s hs => hst s (List.mem_of_mem_take hs))
        refine inGB (σ2 := [some (.ref y), some (.ref p), none]) (walk_list (xs := zs.take (nPk z))) hD0 (e1.trans e3) (e3 _ _ hd0) (fun H' _ t' => sq_of (t' _ _ hlD h3)) yAt_ex (fun j vs H' => DaAll H' vs ((ds.take i).flatMap pksD ++ (es.take (nPk z)).take j)) (fun j _ _ _ e h => DaAll.tn e _ (nls_picks fun p hp => ?_) h) (fun j vs H' h => ?_) ?_ ?_ ?_
        · rcases List.mem_append.mp hp with hp | hp
          · exact flat_pick (fun s hs => hst s (List.mem_of_mem_take hs)) p hp
          · exact hpk p (List.mem_of_mem_take hp)
        · rw [h.len, List.length_append, List.length_take]
          omega
        · have z := DaAll.tn (TEx.of e3) _ npre hY
          simpa using z
        · rintro j v H5 H6 vs hj e6 t6 ⟨rfl, hv⟩ hV N N1 kN2 kN3
          have t36 : TEx H3 H6 := fun c zs' h => t6 c _ (fun hc => by rw [hc, e3 _ _ hd0] at h; cases h) h
          obtain ⟨b, hb1, hb⟩ := (DaAll.tn t36 _ (nls_picks hpk) hC).at hv
          refine ⟨rfl, ?_⟩
          refine ⟨_, rfl, kN2 _ _ (Ex.refl _) ?_⟩
          have nx : (es.take (nPk z)).take (j + 1) = (es.take (nPk z)).take j ++ [b] := by
            rw [List.take_add_one, hb1]
            rfl
          rw [nx, ← List.append_assoc]
          exact DaAll.snoc hV hb
        · intro vs H5 e5 t5 d5 hV
          refine kN vs H5 e5 d5 ?_
          rw [flat_step hs]
          rw [show (es.take (nPk z)).take (zs.take (nPk z)).length = es.take (nPk z) from List.take_of_length_le (by rw [hlen]; exact Nat.le_refl _)] at hV
          exact hV
    · intro l1 H1 ys hl1 e1 h1 hY
      rw [hxl, List.take_length] at hY
      exact q _ l1 ys e1 hl1 h1 hY
end
end Own

namespace Own
open PySem PySem.Spec PyProof.Rows L2 Evl
abbrev s_Script_names : Stmt := inClass (top 37) 12
theorem sc_Script_names : FnScope ["self", "found", "pick", "name"] ["self"] (defScope s_Script_names) := ⟨rfl, rfl, rfl, by decide +kernel, rfl, by decide +kernel, by decide +kernel⟩
abbrev s_Script_patterns : Stmt := inClass (top 37) 13
theorem sc_Script_patterns : FnScope ["self", "found", "pick", "pattern"] ["self"] (defScope s_Script_patterns) := ⟨rfl, rfl, rfl, by decide +kernel, rfl, by decide +kernel, by decide +kernel⟩
def vOp : Option Str → V
  | none => .non
  | some z => .str z
theorem nmP_of {H : Hp} {d : PyData} {u : V} (hu : Da H u (agP d)) (ho : agOk (wdP d) (agP d)) : (if decide (wdP d = "name") = true then u else V.non) = vOp (nmP d) := by
  unfold nmP
  by_cases h : wdP d = "name"
  · rw [decide_eq_true h, if_pos rfl, if_pos h]
    have nm : nmD (agP d) = true := by
      rcases ho with ⟨e, _⟩ | ⟨_, k⟩ | ⟨e, _⟩ | ⟨e | e, _⟩
      · rw [e] at h; exact absurd h (by decide +kernel)
      · exact k
      · rw [e] at h; exact absurd h (by decide +kernel)
      · rw [e] at h; exact absurd h (by decide +kernel)
      · rw [e] at h; exact absurd h (by decide +kernel)
    cases ha : agP d with
    | str z =>
      rw [ha] at hu
      rw [hu.str_inv]
      rfl
    | none => rw [ha] at nm; cases nm
    | bool b => rw [ha] at nm; cases nm
    | int b => rw [ha] at nm; cases nm
    | list b => rw [ha] at nm; cases nm
    | tuple b => rw [ha] at nm; cases nm
    | dict b => rw [ha] at nm; cases nm
  · rw [decide_eq_false h, if_neg (by decide), if_neg h]
    rfl
theorem srt_same {zs l ys : List Str} (s : Srt l ys) (m : ∀ z, z ∈ l ↔ z ∈ zs) : Srt zs ys := ⟨s.so, s.nd, fun z => (s.me z).trans (m z)⟩
/-! ### patterns, sorted -/
theorem pat_str {d : PyData} (h : patD d = true) : ∃ a b c : Str, d = .tuple [.str a, .str b, .str c] := by
  obtain ⟨a, b, c, rfl, h1, h2, h3⟩ := pat_inv h
  have sb : ∀ {d : PyData}, blankD d = true → ∃ z, d = .str z := fun {d} h => by cases d <;> first | exact ⟨_, rfl⟩ | cases h
  have sr : ∀ {d : PyData}, relD d = true → ∃ z, d = .str z := fun {d} h => by cases d <;> first | exact ⟨_, rfl⟩ | cases h
  have sn : ∀ {d : PyData}, nmD d = true → ∃ z, d = .str z := fun {d} h => by cases d <;> first | exact ⟨_, rfl⟩ | cases h
  have sp : ∀ {d : PyData}, partD d = true → ∃ z, d = .str z := fun {d} h => by
    unfold partD at h
    rw [Bool.or_eq_true] at h
    exact h.elim sb sn
  rw [Bool.or_eq_true] at h1
  obtain ⟨x, rfl⟩ := h1.elim sb sr
  obtain ⟨y, rfl⟩ := sp h2
  obtain ⟨z, rfl⟩ := sp h3
  exact ⟨x, y, z, rfl⟩
theorem pat_isT {d : PyData} (h : patD d = true) : isT d := by
  obtain ⟨a, b, c, rfl⟩ := pat_str h
  exact ⟨rfl, by simp [PyData.depth, PyData.depthAll], _, rfl⟩
theorem pat_mix {ds : List PyData} (h : ∀ d ∈ ds, patD d = true) : Mix ds := by
  refine ⟨fun d hd => ?_, fun d hd => ?_, fun z r r' k k' => ?_⟩
  · exact (pat_isT (h d hd)).1
  · obtain ⟨a, b, c, rfl⟩ := pat_str (h d hd)
    exact ⟨_, _, rfl⟩
  · obtain ⟨a, b, c, e⟩ := pat_str (h _ k)
    obtain ⟨a', b', c', e'⟩ := pat_str (h _ k')
    injection e with e
    injection e' with e'
    injection e with _ e
    injection e' with _ e'
    rw [e, e']
    simp [PySem.W.alikeAll, PySem.W.alike]
theorem nl_pat {d : PyData} (h : patD d = true) : nlD d = true := by
  obtain ⟨a, b, c, rfl⟩ := pat_str h
  rfl
def OptD (H : Hp) (v : V) : Option PyData → Prop
  | none => v = .non
  | some d => ∃ a, v = .ref a ∧ Da H (.ref a) d
theorem paP_of {H : Hp} {d : PyData} {u : V} (hu : Da H u (agP d)) (ho : agOk (wdP d) (agP d)) : OptD H (if (decide (wdP d = "like") || decide (wdP d = "all")) = true then u else V.non) (paP d) := by
  unfold paP
  by_cases h : wdP d = "like" ∨ wdP d = "all"
  · have z : (decide (wdP d = "like") || decide (wdP d = "all")) = true := by
      rw [Bool.or_eq_true, decide_eq_true_eq, decide_eq_true_eq]
      exact h
    rw [z, if_pos rfl, if_pos h]
    have pt : patD (agP d) = true := by
      rcases ho with ⟨e, _⟩ | ⟨e, k⟩ | ⟨e, _⟩ | ⟨_, k⟩
      · rw [e] at h; exact absurd h (by decide +kernel)
      · rw [e] at h; exact absurd h (by decide +kernel)
      · rw [e] at h; exact absurd h (by decide +kernel)
      · exact k
    obtain ⟨a, b, c, e⟩ := pat_str pt
    rw [e] at hu ⊢
    obtain ⟨p, xs, rfl, _, _⟩ := hu.tup_inv
    exact ⟨p, rfl, hu⟩
  · have z : (decide (wdP d = "like") || decide (wdP d = "all")) = false := by
      rw [Bool.eq_false_iff, ne_eq, Bool.or_eq_true, decide_eq_true_eq, decide_eq_true_eq]
      exact h
    rw [z, if_neg (by decide), if_neg h]
    exact rfl
theorem paP_pat {d p : PyData} (k : pickD d = true) (h : paP d = some p) : patD p = true := by
  have ho : agOk (wdP d) (agP d) := by
    have nb : ∀ {b : PyData} {w : Str}, ((w = "name" ∧ nmD b = true) ∨ (w = "at" ∧ natD b = true) ∨ ((w = "like" ∨ w = "all") ∧ patD b = true)) → w ≠ "book" := fun k2 => by
      rcases arg_word k2 with rfl | rfl | rfl | rfl <;> decide +kernel
    have bare : ∀ {d : PyData}, bareD d = true → bareP d = d ∧ agOk (wdP d) (agP d) := fun {d} k => by
      rcases bare_inv k with rfl | ⟨w, b, rfl, k2⟩
      · exact ⟨rfl, .inl ⟨rfl, rfl⟩⟩
      · obtain ⟨e0, e1, e2⟩ := bareP_bare (.inr rfl : (PyData.tuple [.str w, b] = .tuple [.str w] ∧ b = .none) ∨ PyData.tuple [.str w, b] = .tuple [.str w, b]) (nb k2)
        exact ⟨e0, by rw [e1, e2]; exact .inr k2⟩
    rcases pick_inv k with k | ⟨b, rfl, k⟩
    · exact (bare k).2
    · obtain ⟨e0, hb⟩ := bare k
      have z : bareP (.tuple [.str "book", b]) = b := by
        show (if ("book" : Str) = "book" then b else .tuple [.str "book", b]) = b
        exact if_pos rfl
      have e3 : wdP (.tuple [.str "book", b]) = wdP b := by
        unfold wdP
        rw [z, e0]
      have e4 : agP (.tuple [.str "book", b]) = agP b := by
        unfold agP
        rw [z, e0]
      rw [e3, e4]
      exact hb
  unfold paP at h
  split at h
  · next hw =>
    cases h
    rcases ho with ⟨e, _⟩ | ⟨e, k⟩ | ⟨e, _⟩ | ⟨_, k⟩
    · rw [e] at hw; exact absurd hw (by decide +kernel)
    · rw [e] at hw; exact absurd hw (by decide +kernel)
    · rw [e] at hw; exact absurd hw (by decide +kernel)
    · exact k
  · cases h
theorem pas_pat {ps : List PyData} (hpk : ∀ p ∈ ps, pickD p = true) {d : PyData} (h : d ∈ ps.filterMap paP) : patD d = true := by
  obtain ⟨p, hp, e⟩ := List.mem_filterMap.mp h
  exact paP_pat (hpk p hp) e
def PaAll (H : Hp) : List V → List PyData → Prop
  | [], [] => True
  | v :: vs, p :: ps => OptD H v (paP p) ∧ PaAll H vs ps
  | _, _ => False
theorem PaAll.mv {H H' : Hp} : ∀ {vs : List V} {ps : List PyData}, (∀ p ∈ ps, pickD p = true) → (∀ (v : V) (d : PyData), nlD d = true → Da H v d → Da H' v d) → PaAll H vs ps → PaAll H' vs ps
  | [], [], _, _, _ => trivial
  | v :: vs, p :: ps, hp, f, h => by
    refine ⟨?_, PaAll.mv (fun x hx => hp x (List.mem_cons_of_mem _ hx)) f h.2⟩
    have h1 := h.1
    cases e : paP p with
    | none => rw [e] at h1; exact h1
    | some d =>
      rw [e] at h1
      obtain ⟨a, ea, ha⟩ := h1
      exact ⟨a, ea, f _ _ (nl_pat (paP_pat (hp p List.mem_cons_self) e)) ha⟩
  | [], _ :: _, _, _, h => h.elim
  | _ :: _, [], _, _, h => h.elim
theorem PaAll.tn {H H' : Hp} (e : TEx H H') {vs : List V} {ps : List PyData} (hp : ∀ p ∈ ps, pickD p = true) (h : PaAll H vs ps) : PaAll H' vs ps := PaAll.mv hp (fun _ _ k h => Da.tn e _ k h) h
theorem PaAll.ex {H H' : Hp} (e : Ex H H') : ∀ {vs : List V} {ps : List PyData}, PaAll H vs ps → PaAll H' vs ps
  | [], [], _ => trivial
  | v :: vs, p :: ps, h => by
    refine ⟨?_, PaAll.ex e h.2⟩
    have h1 := h.1
    cases e2 : paP p with
    | none => rw [e2] at h1; exact h1
    | some d =>
      rw [e2] at h1
      obtain ⟨a, ea, ha⟩ := h1
      exact ⟨a, ea, Da.ex e _ ha⟩
  | [], _ :: _, h => h.elim
  | _ :: _, [], h => h.elim
theorem PaAll.snoc {H : Hp} {v : V} {p : PyData} : ∀ {vs : List V} {ps : List PyData}, PaAll H vs ps → OptD H v (paP p) → PaAll H (vs ++ [v]) (ps ++ [p])
  | [], [], _, hv => ⟨hv, trivial⟩
  | _ :: _, _ :: _, h, hv => ⟨h.1, PaAll.snoc h.2 hv⟩
  | [], _ :: _, h, _ => h.elim
  | _ :: _, [], h, _ => h.elim
theorem PaAll.len {H : Hp} : ∀ {vs : List V} {ps : List PyData}, PaAll H vs ps → vs.length = ps.length
  | [], [], _ => rfl
  | _ :: _, _ :: _, h => by rw [List.length_cons, List.length_cons, PaAll.len h.2]
  | [], _ :: _, h => h.elim
  | _ :: _, [], h => h.elim
theorem PaAll.at {H : Hp} : ∀ {vs : List V} {ps : List PyData} {i : Nat} {v : V}, PaAll H vs ps → vs[i]? = some v → ∃ p, ps[i]? = some p ∧ OptD H v (paP p)
  | [], [], _, _, _, h => by simp at h
  | _ :: _, p :: _, 0, _, h, e => by
    cases e
    exact ⟨p, rfl, h.1⟩
  | _ :: _, _ :: _, i + 1, _, h, e => PaAll.at (i := i) h.2 e
  | [], _ :: _, _, _, h, _ => h.elim
  | _ :: _, [], _, _, h, _ => h.elim
structure SrtD (zs L : List PyData) : Prop where
  as : ascD L
  nd : L.Nodup
  me : ∀ d, d ∈ L ↔ d ∈ zs
theorem SrtD.one {zs L M : List PyData} (hp : ∀ d ∈ zs, patD d = true) (a : SrtD zs L) (b : SrtD zs M) : L = M :=
  asc_one (pat_mix hp) L M (fun d hd => (a.me d).mp hd) a.as b.as a.nd b.nd fun d => (a.me d).trans (b.me d).symm
section
variable {P : Program} {w : World} {K : PySem.W.Frag} {mg : Str → Option Value} {base : Heap} {rel : Addr}
def spNm (C : Addr) : Sp := fun vs H Q _ => ∃ (y : Addr) (ds : List PyData), vs = [.ref y] ∧ ScAt C H y ds ∧ OkS ds ∧ ∀ H' l ys, Ex H H' → H l = none → H' l = some (.lst (ys.map V.str)) → Srt (nmsD ds) ys → Q (.ref l) H'
theorem ok_names32 {C : Addr} (S : ClsP K C) {fi : Addr} {fdi : FuncData} (T : Txt0 mg) (TZ : TxtZ mg) (c_name_of : CalG P w K mg base 2 "name_of" (spV fName)) (M_picks_in_order : MetG P w K mg base 3 C "picks_in_order" (spPio C)) (F : Fun K "names" "Script.names" s_Script_names fi fdi) : FnG P w K mg base 4 fi fdi ["self"] (spNm C) := by
  refine fn_mkQ F sc_Script_names (fun vs H Q E h => ?_) (fun cdv A outer s H vs Q E hr hG h => ?_)
  · obtain ⟨y, ds, rfl, _⟩ := h
    rfl
  · obtain ⟨y, ds, rfl, hs, hok, q⟩ := h
    refine ⟨_, (pss_cons (ps_setLcO (ps_setLc (i := 1) (own := [("pick", 2)]) rfl sc_Script_names.nd rfl rfl (sw_true rfl rfl rfl (by decide +kernel)) (piAny (pe_mtG0 M_picks_in_order (pv 0) hr hG (by decide))) (blkOk_by (own := [("pick", 2)]) (N := ["self", "found", "pick", "name"]) (sc := defScope s_Script_names) (by first | decide +kernel | kernel_rfl)) (fun _ _ _ _ _ => pg_name (i := 2) sc_Script_names.nd rfl (Or.inl rfl)) (fun _ _ _ _ _ => pts_nil) (fun _ _ _ _ _ => pe_cG c_name_of hr hG (by decide) rfl (pa_cons (pv 2) pa_nil))))
      (pss_one (ps_ret (pe_callB (cr_sortX rfl) (by rfl) TZ.sorted (by decide +kernel) (pa_cons (pe_callTy (cr_setX rfl) (by rfl) TZ.set (by decide +kernel) (pa_cons (pe_lcO (pe_lc (own := [("name", 3)]) rfl sc_Script_names.nd (piAny (pv 1)) (blkOk_by (own := [("name", 3)]) (N := ["self", "found", "pick", "name"]) (sc := defScope s_Script_names) (by first | decide +kernel | kernel_rfl)) (fun _ _ _ _ _ => pg_name (i := 3) sc_Script_names.nd rfl (Or.inl rfl)) (fun _ _ _ _ _ => pts_one (pt_cmpR op_notN (pv 3) pe_non (nomark _))) (fun _ _ _ _ _ => pv 3))) pa_nil)) pa_nil))))), ?_⟩
    obtain ⟨d, l, xs, hy, hl, hA⟩ := id hs
    have hst : ∀ s ∈ ds, stepD s = true := fun s hs => (hok.1 s hs).1
    have hl80 : (ds.flatMap pksD).length ≤ 80 := by
      have := flat_len2 hst
      have := hok.2
      omega
    refine .inl ⟨_, rfl, y, d, _, rfl, hy, rfl, y, ds, rfl, hs, hok, fun H1 l1 us e1 n1 h1 hU => ⟨l1, rfl, ⟨_, sq_of h1⟩, ?_⟩⟩
    have hul := hU.len
    refine lcG (walk_list (xs := us)) (by omega) (sq_of h1) (fun _ _ e h => ex_l e h) yAt_ex (fun i ys _ => ys = ((ds.flatMap pksD).take i).map fun p => vOp (nmP p)) (fun _ _ _ _ _ h => h) rfl ?_ ?_
    · rintro i x H2 H3 ys hi e2 ⟨rfl, hx⟩ rfl N N0 kN kN0
      obtain ⟨p, hp, hda⟩ := (DaAll.ex e2 _ hU).at hx
      obtain ⟨bk, own, u, hv, hu, ho⟩ := pick_P hda (flat_pick hst p (List.mem_of_getElem? hp))
      refine ⟨rfl, ?_⟩
      refine ⟨_, rfl, x, bk, own, wdP p, u, rfl, hv, fun H4 e4 => ?_⟩
      refine kN _ _ e4 ?_
      rw [List.take_add_one, hp, List.map_append]
      show _ = _ ++ [vOp (nmP p)]
      rw [← nmP_of hu ho]
      rfl
    · rintro l2 H2 ys n2 e2 h2 _ rfl
      rw [hul, List.take_length] at h2
      have e02 := e1.trans e2
      refine .inl ⟨_, rfl, l2, rfl, ⟨_, sq_of h2⟩, ?_⟩
      refine lcG (walk_list (xs := (ds.flatMap pksD).map fun p => vOp (nmP p))) (by rw [List.length_map]; omega) (sq_of h2) (fun _ _ e h => ex_l e h) yAt_ex (fun i ys _ => ys = (((ds.flatMap pksD).take i).filterMap nmP).map V.str) (fun _ _ _ _ _ h => h) rfl ?_ ?_
      · rintro i x H3 H4 ys hi e3 ⟨rfl, hx⟩ rfl N N0 kN kN0
        have hx : ((ds.flatMap pksD).map fun p => vOp (nmP p))[i]? = some x := hx
        rw [List.getElem?_map] at hx
        obtain ⟨p, hp, rfl⟩ := Option.map_eq_some_iff.mp hx
        refine ⟨rfl, ?_⟩
        refine ⟨_, rfl, rfl, _, rfl, ?_⟩
        have nx : ((ds.flatMap pksD).take (i + 1)).filterMap nmP = ((ds.flatMap pksD).take i).filterMap nmP ++ (nmP p).toList := by
          rw [List.take_add_one, hp, List.filterMap_append]
          cases hn : nmP p <;> simp [hn]
        cases hn : nmP p with
        | none =>
          refine iteF (kN0 _ (Ex.refl _) ?_)
          rw [nx, hn]
          simp
        | some z =>
          refine iteT ⟨_, rfl, kN _ _ (Ex.refl _) ?_⟩
          rw [nx, hn]
          simp [vOp]
      · rintro l3 H3 ys n3 e3 h3 _ rfl
        rw [List.length_map, List.take_length] at h3
        have ln : (nmsD ds).length ≤ 80 := Nat.le_trans (List.length_filterMap_le _ _) hl80
        refine ⟨l3, nmsD ds, rfl, sq_of h3, by omega, fun a L hL mL na => ?_⟩
        generalize hq4 : upd H3 a _ = H4
        obtain ⟨e4, h4⟩ := gen1 hq4 na
        refine ⟨a, L, rfl, h4, by omega, fun p ys sr _ np => ?_⟩
        have e03 := e02.trans e3
        exact q _ p ys ((e03.trans e4).trans (Ex.new np)) (none_of (e03.trans e4) np) upd_same (srt_same sr mL)
def spPa (C : Addr) : Sp := fun vs H Q _ => ∃ (y : Addr) (ds : List PyData), vs = [.ref y] ∧ ScAt C H y ds ∧ OkS ds ∧ ∀ H' l (zp : List (Addr × PyData)), Ex H H' → H l = none → H' l = some (.lst (zp.map fun q => V.ref q.1)) → (∀ q ∈ zp, Da H' (.ref q.1) q.2) → SrtD (pasD ds) (zp.map Prod.snd) → Q (.ref l) H'
theorem ok_patterns32 {C : Addr} (S : ClsP K C) {fi : Addr} {fdi : FuncData} (T : Txt0 mg) (TZ : TxtZ mg) (c_pattern_of : CalG P w K mg base 2 "pattern_of" (spV fPat)) (M_picks_in_order : MetG P w K mg base 3 C "picks_in_order" (spPio C)) (F : Fun K "patterns" "Script.patterns" s_Script_patterns fi fdi) : FnG P w K mg base 4 fi fdi ["self"] (spPa C) := by
  refine fn_mkQ F sc_Script_patterns (fun vs H Q E h => ?_) (fun cdv A outer s H vs Q E hr hG h => ?_)
  · obtain ⟨y, ds, rfl, _⟩ := h
    rfl
  · obtain ⟨y, ds, rfl, hs, hok, q⟩ := h
    refine ⟨_, (pss_cons (ps_setLcO (ps_setLc (i := 1) (own := [("pick", 2)]) rfl sc_Script_patterns.nd rfl rfl (sw_true rfl rfl rfl (by decide +kernel)) (piAny (pe_mtG0 M_picks_in_order (pv 0) hr hG (by decide))) (blkOk_by (own := [("pick", 2)]) (N := ["self", "found", "pick", "pattern"]) (sc := defScope s_Script_patterns) (by first | decide +kernel | kernel_rfl)) (fun _ _ _ _ _ => pg_name (i := 2) sc_Script_patterns.nd rfl (Or.inl rfl)) (fun _ _ _ _ _ => pts_nil) (fun _ _ _ _ _ => pe_cG c_pattern_of hr hG (by decide) rfl (pa_cons (pv 2) pa_nil))))
      (pss_one (ps_ret (pe_callB (cr_sortDr rfl hr) (by rfl) TZ.sorted (by decide +kernel) (pa_cons (pe_callTy (cr_setDr rfl hr) (by rfl) TZ.set (by decide +kernel) (pa_cons (pe_lcO (pe_lc (own := [("pattern", 3)]) rfl sc_Script_patterns.nd (piAny (pv 1)) (blkOk_by (own := [("pattern", 3)]) (N := ["self", "found", "pick", "pattern"]) (sc := defScope s_Script_patterns) (by first | decide +kernel | kernel_rfl)) (fun _ _ _ _ _ => pg_name (i := 3) sc_Script_patterns.nd rfl (Or.inl rfl)) (fun _ _ _ _ _ => pts_one (pt_cmpR op_notN (pv 3) pe_non (nomark _))) (fun _ _ _ _ _ => pv 3))) pa_nil)) pa_nil))))), ?_⟩
    obtain ⟨d, l, xs, hy, hl, hA⟩ := id hs
    have hst : ∀ s ∈ ds, stepD s = true := fun s hs => (hok.1 s hs).1
    have hpk := flat_pick hst
    have hl80 : (ds.flatMap pksD).length ≤ 80 := by
      have := flat_len2 hst
      have := hok.2
      omega
    refine .inl ⟨_, rfl, y, d, _, rfl, hy, rfl, y, ds, rfl, hs, hok, fun H1 l1 us e1 n1 h1 hU => ⟨l1, rfl, ⟨_, sq_of h1⟩, ?_⟩⟩
    have hul := hU.len
    refine lcG (walk_list (xs := us)) (by omega) (sq_of h1) (fun _ _ e h => ex_l e h) yAt_ex (fun i ys H' => PaAll H' ys ((ds.flatMap pksD).take i)) (fun i _ _ _ e h => PaAll.tn e (fun p hp => hpk p (List.mem_of_mem_take hp)) h) trivial ?_ ?_
    · rintro i x H2 H3 ys hi e2 ⟨rfl, hx⟩ hY N N0 kN kN0
      obtain ⟨p, hp, hda⟩ := (DaAll.ex e2 _ hU).at hx
      have kp := hpk p (List.mem_of_getElem? hp)
      obtain ⟨bk, own, u, hv, hu, ho⟩ := pick_P hda kp
      refine ⟨rfl, ?_⟩
      refine ⟨_, rfl, x, bk, own, wdP p, u, rfl, hv, fun H4 e4 => ?_⟩
      refine kN _ _ e4 ?_
      rw [List.take_add_one, hp]
      refine PaAll.snoc (PaAll.tn (TEx.of e4) (fun p hp => hpk p (List.mem_of_mem_take hp)) hY) ?_
      exact paP_of (Da.ex e4 _ hu) ho
    · rintro l2 H2 ys n2 e2 h2 _ hY
      rw [hul, List.take_length] at hY
      have e02 := e1.trans e2
      have hyl := hY.len
      refine .inl ⟨_, rfl, l2, rfl, ⟨_, sq_of h2⟩, ?_⟩
      refine lcG (walk_list (xs := ys)) (by omega) (sq_of h2) (fun _ _ e h => ex_l e h) yAt_ex (fun i zs H' => ∃ zp : List (Addr × PyData), zs = (zp.map fun q => V.ref q.1) ∧ zp.map Prod.snd = ((ds.flatMap pksD).take i).filterMap paP ∧ ∀ q ∈ zp, Da H' (.ref q.1) q.2)
        (fun i _ _ _ e ⟨zp, h1, h2, h3⟩ => ⟨zp, h1, h2, fun q hq => Da.tn e _ (nl_pat (pas_pat (hpk := fun p hp => hpk p (List.mem_of_mem_take hp)) (h2 ▸ List.mem_map.mpr ⟨q, hq, rfl⟩))) (h3 q hq)⟩) ⟨[], rfl, rfl, fun q hq => by cases hq⟩ ?_ ?_
      · rintro i x H3 H4 zs hi e3 ⟨rfl, hx⟩ ⟨zp, rfl, hz2, hz3⟩ N N0 kN kN0
        obtain ⟨p, hp, hda⟩ := (PaAll.ex e3 hY).at hx
        have nx : ((ds.flatMap pksD).take (i + 1)).filterMap paP = ((ds.flatMap pksD).take i).filterMap paP ++ (paP p).toList := by
          rw [List.take_add_one, hp, List.filterMap_append]
          cases hn : paP p <;> simp [hn]
        refine ⟨rfl, ?_⟩
        refine ⟨_, rfl, rfl, _, rfl, ?_⟩
        cases hn : paP p with
        | none =>
          rw [hn] at hda
          have hda : x = .non := hda
          subst hda
          refine iteF (kN0 _ (Ex.refl _) ⟨zp, rfl, ?_, hz3⟩)
          rw [nx, hn, hz2]
          simp
        | some z =>
          rw [hn] at hda
          obtain ⟨a, rfl, hda⟩ := hda
          refine iteT ⟨_, rfl, kN _ _ (Ex.refl _) ⟨zp ++ [(a, z)], by rw [List.map_append]; rfl, ?_, fun q hq => ?_⟩⟩
          · rw [nx, hn, List.map_append, hz2]
            rfl
          · rcases List.mem_append.mp hq with hq | hq
            · exact hz3 q hq
            · rw [List.mem_singleton.mp hq]
              exact hda
      · rintro l3 H3 zs n3 e3 h3 _ ⟨zp, rfl, hz2, hz3⟩
        rw [hyl, List.take_length] at hz2
        have hz2 : zp.map Prod.snd = pasD ds := hz2
        have ln : zp.length ≤ 80 := by
          have z := congrArg List.length hz2
          rw [List.length_map] at z
          rw [z]
          exact Nat.le_trans (List.length_filterMap_le _ _) hl80
        have hpt : ∀ q ∈ zp, patD q.2 = true := fun q hq => pas_pat (hpk := hpk) (show q.2 ∈ pasD ds from hz2 ▸ List.mem_map.mpr ⟨q, hq, rfl⟩)
        have ln50 : zp.length < 64 := by
          have z := congrArg List.length hz2
          rw [List.length_map] at z
          rw [z]
          have := flat_len2 hst
          have := hok.2
          exact Nat.lt_of_le_of_lt (List.length_filterMap_le _ _) (by omega)
        refine ⟨l3, zp, rfl, sq_of h3, fun q hq => ⟨hz3 q hq, pat_isT (hpt q hq)⟩, ln50, fun a L DL na => ?_⟩
        generalize hq4 : upd H3 a _ = H4
        obtain ⟨e4, h4⟩ := gen1 hq4 na
        refine ⟨a, L, rfl, h4, fun q hq => ⟨Da.ex e4 _ (hz3 q (DL.of q hq)), pat_isT (hpt q (DL.of q hq))⟩, pat_mix (fun d hd => ?_), fun p L5 pm as5 n5 => ?_⟩
        · obtain ⟨q, hq, rfl⟩ := List.mem_map.mp hd
          exact hpt q (DL.of q hq)
        have e03 := e02.trans e3
        refine q _ p L5 ((e03.trans e4).trans (Ex.new n5)) (none_of (e03.trans e4) n5) upd_same (fun q hq => Da.ex (e4.trans (Ex.new n5)) _ (hz3 q (DL.of q (pm.mem_iff.mp hq)))) ⟨as5, (pm.map Prod.snd).nodup_iff.mpr DL.nd, fun d => ?_⟩
        rw [(pm.map Prod.snd).mem_iff, ← hz2]
        constructor
        · intro hd
          obtain ⟨q, hq, rfl⟩ := List.mem_map.mp hd
          exact List.mem_map.mpr ⟨q, DL.of q hq, rfl⟩
        · intro hd
          obtain ⟨q, hq, rfl⟩ := List.mem_map.mp hd
          exact DL.on q hq
end
end Own

namespace Own
open PySem PySem.Spec PyProof.Rows L2 Evl
/-! ### enumerate as the second source -/
theorem pi_enumB {X : Cx} {s : Shared} {H : Hp} {sc : Scope} {ce : Env} {fp : List Addr} {e : Expr} {ta : TA} {p pos tpos : Pos} {elts : List Expr} {kk : Nat} (hg : Gl (X.blk s H sc ce fp) "enumerate") (hm : X.mg "enumerate" = none) (ha : PA (X.blk s H sc ce fp) [e] ta) (hs : starEach [e] (X.blk s H sc ce fp).env = [(false, eval e (X.blk s H sc ce fp).env)] := by rfl) :
    PI (X.blk s H sc ce fp) (.Tuple elts kk tpos) (.Call (.Name "enumerate" p) [e] [] pos) (iEnum X.K ta) := pi_enum hg hm ha hs
end Own

namespace Own
open PySem PySem.Spec PyProof.Rows L2 Evl
abbrev s_is_index : Stmt := top 12
theorem sc_is_index : FnScope ["thing", "many"] ["thing", "many"] (defScope s_is_index) := ⟨rfl, rfl, rfl, by decide +kernel, rfl, by decide +kernel, by decide +kernel⟩
abbrev s_Script_places : Stmt := inClass (top 37) 14
theorem sc_Script_places : FnScope ["self", "index", "step", "number", "pick"] ["self"] (defScope s_Script_places) := ⟨rfl, rfl, rfl, by decide +kernel, rfl, by decide +kernel, by decide +kernel⟩
abbrev s_Script___len__ : Stmt := inClass (top 37) 2
theorem sc_Script___len__ : FnScope ["self"] ["self"] (defScope s_Script___len__) := ⟨rfl, rfl, rfl, by decide +kernel, rfl, by decide +kernel, by decide +kernel⟩
abbrev s_Script_check_index : Stmt := inClass (top 37) 6
theorem sc_Script_check_index : FnScope ["self", "index"] ["self", "index"] (defScope s_Script_check_index) := ⟨rfl, rfl, rfl, by decide +kernel, rfl, by decide +kernel, by decide +kernel⟩
abbrev s_Script___getitem__ : Stmt := inClass (top 37) 3
theorem sc_Script___getitem__ : FnScope ["self", "at"] ["self", "at"] (defScope s_Script___getitem__) := ⟨rfl, rfl, rfl, by decide +kernel, rfl, by decide +kernel, by decide +kernel⟩
abbrev s_Script___eq__ : Stmt := inClass (top 37) 1
theorem sc_Script___eq__ : FnScope ["self", "other"] ["self", "other"] (defScope s_Script___eq__) := ⟨rfl, rfl, rfl, by decide +kernel, rfl, by decide +kernel, by decide +kernel⟩
def idx (d : PyData) (n : Nat) : Option Nat := match d with | .int i => if 0 ≤ i ∧ i < (n : Int) then some i.toNat else none | _ => none
theorem idx_inv {d : PyData} {n i : Nat} (h : idx d n = some i) : d = .int (i : Int) ∧ i < n := by
  cases d with
  | int j =>
    have h : (if 0 ≤ j ∧ j < (n : Int) then some j.toNat else none) = some i := h
    split at h
    · rename_i q
      have z := Option.some.inj h
      exact ⟨by congr 1; omega, by omega⟩
    · cases h
  | _ => cases h
theorem fin_kl {z : Str} (h : z ∈ KL) : fin 0 82 (.str z) := by
  have t : (KL.all fun z => (PyData.str z).canLay0 && ((PyData.str z).showable && (decide ((PyData.str z).depth ≤ 0) && decide (wt (.str z) ≤ 82)))) = true := by decide +kernel
  have := List.all_eq_true.mp t z h
  simp only [Bool.and_eq_true, decide_eq_true_eq] at this
  exact ⟨this.1, this.2.1, this.2.2.1, this.2.2.2⟩
theorem fin_pick {d : PyData} (h : pickD d = true) (g : gD d = true) : fin 3 9000 d := by
  rcases pick_inv h with k | ⟨b, rfl, k⟩
  · exact (fin_bare k g).mono (by decide) (by decide)
  · refine (fin_tup (n := 2) (W := 4000) (m := 2) (fun d hd => ?_) (Nat.le_refl _)).mono (by decide) (by decide)
    simp only [List.mem_cons, List.not_mem_nil, or_false] at hd
    rcases hd with rfl | rfl
    · exact (fin_word (by simp)).mono (by decide) (by decide)
    · exact fin_bare k (gD_two g)
theorem fin_stp {z : Str} {ds : List PyData} (hz : z ∈ KL) (hl : ds.length ≤ 6) (h : ∀ d ∈ ds, fin 3 9000 d) : fin 4 64000 (.tuple (.str z :: ds)) := by
  refine (fin_tup (n := 3) (W := 9000) (m := 7) (fun d hd => ?_) (by rw [List.length_cons]; omega)).mono (by decide) (by decide)
  rcases List.mem_cons.mp hd with rfl | hd
  · exact (fin_kl hz).mono (by decide) (by decide)
  · exact h d hd
theorem fin_pn {d : PyData} (h : pickD d = true ∨ nmD d = true) (g : gD d = true) : fin 3 9000 d := by
  rcases h with h | h
  · exact fin_pick h g
  · exact (fin_nm h).mono (by decide) (by decide)
theorem fin_step {d : PyData} (h : stepD d = true) (g : gD d = true) : fin 4 64000 d := by
  obtain ⟨z, ds, rfl⟩ : ∃ z ds, d = .tuple (.str z :: ds) := by
    match d, h with
    | .tuple (.str z :: ds), _ => exact ⟨z, ds, rfl⟩
  obtain ⟨hkl, hl, hpn⟩ := stepT_kl (z := z) (ds := ds) h
  refine fin_stp hkl (by omega) fun x hx => fin_pn (hpn x hx) ?_
  have g1 : gDs (PyData.str z :: ds) = true := g
  exact gDs_iff.mp g1 x (List.mem_cons_of_mem _ hx)
theorem fineS {ds : List PyData} (h : OkS ds) : fine (.list ds) :=
  (fin_list (n := 4) (W := 64000) (m := 25) (fun d hd => fin_step (h.1 d hd).1 (h.1 d hd).2.1) h.2).fine (by decide) (by decide)
theorem plcS_step (i : Nat) {ps : List PyData} {j : Nat} {p : PyData} (h : ps[j]? = some p) : ((List.range (j + 1)).filter fun j => decide (wdP (ps.getD j .none) = "at")).map (fun j => (i, j)) = ((List.range j).filter fun j => decide (wdP (ps.getD j .none) = "at")).map (fun j => (i, j)) ++ (if wdP p = "at" then [(i, j)] else []) := by
  rw [List.range_succ, List.filter_append, List.map_append, List.filter_cons, List.getD_eq_getElem?_getD, h]
  show _ ++ List.map _ (if decide (wdP p = "at") = true then _ else _) = _
  by_cases hw : wdP p = "at"
  · rw [if_pos (decide_eq_true hw), if_pos hw]
    rfl
  · rw [if_neg (by simpa using hw), if_neg hw]
    rfl
theorem plc_le (i : Nat) (ps : List PyData) : (plcS i ps).length ≤ ps.length := by
  unfold plcS
  rw [List.length_map]
  exact Nat.le_trans (List.length_filter_le _ _) (by rw [List.length_range]; exact Nat.le_refl _)
/-- places told -/
def PlAt (H : Hp) (vs : List V) (L : List (Nat × Nat)) : Prop := ∃ zp : List (Addr × (Nat × Nat)), vs = (zp.map fun q => V.ref q.1) ∧ zp.map Prod.snd = L ∧ ∀ q ∈ zp, H q.1 = some (.tup [.int (q.2.1 : Int), .int (q.2.2 : Int)])
theorem PlAt.tn {H H' : Hp} {vs : List V} {L : List (Nat × Nat)} (e : TEx H H') (h : PlAt H vs L) : PlAt H' vs L := by
  obtain ⟨zp, h1, h2, h3⟩ := h
  exact ⟨zp, h1, h2, fun q hq => e _ _ (h3 q hq)⟩
theorem PlAt.snoc {H : Hp} {vs : List V} {L : List (Nat × Nat)} {t i j : Nat} (h : PlAt H vs L) (ht : H t = some (.tup [.int (i : Int), .int (j : Int)])) : PlAt H (vs ++ [.ref t]) (L ++ [(i, j)]) := by
  obtain ⟨zp, h1, h2, h3⟩ := h
  refine ⟨zp ++ [(t, (i, j))], by rw [h1, List.map_append]; rfl, by rw [List.map_append, h2]; rfl, fun q hq => ?_⟩
  rcases List.mem_append.mp hq with hq | hq
  · exact h3 q hq
  · rw [List.mem_singleton.mp hq]
    exact ht
theorem PlAt.len {H : Hp} {vs : List V} {L : List (Nat × Nat)} (h : PlAt H vs L) : vs.length = L.length := by
  obtain ⟨zp, h1, h2, h3⟩ := h
  rw [h1, ← h2, List.length_map, List.length_map]
theorem flat_range {f : Nat → List (Nat × Nat)} (n : Nat) : (List.range (n + 1)).flatMap f = (List.range n).flatMap f ++ f n := by
  rw [List.range_succ, List.flatMap_append]
  simp
section
variable {P : Program} {w : World} {K : PySem.W.Frag} {mg : Str → Option Value} {base : Heap} {rel : Addr}
def spIdx : Sp := fun vs H Q _ => ∃ (v : V) (d : PyData) (n : Nat), vs = [v, .int n] ∧ Da H v d ∧ okD 40 16000000 d ∧ ∀ H', Ex H H' → Q (.bl (idx d n).isSome) H'
theorem ok_is_index (D : Df K mg "is_index" s_is_index) (c_is_integer : CalG P w K mg base 1 "is_integer" (spIs intD)) : CalG P w K mg base 2 "is_index" spIdx := by
  refine cal_mk D sc_is_index (fun _ _ _ _ _ _ us hl => match us, hl with | [_, _], _ => rfl) (fun vs H Q E h => ?_) (fun f cdv A outer s H vs Q E hr hG h => ?_)
  · obtain ⟨v, d, n, rfl, _⟩ := h
    rfl
  · obtain ⟨v, d, n, rfl, hv, hok, q⟩ := h
    refine ⟨_, (pss_one (ps_ret (pe_and (pe_cG c_is_integer hr hG (by decide) rfl (pa_cons (pv 0) pa_nil)) (pe_one (pe_chain opLeA opLt pe_int (pv 0) (pv 1)))))), ?_⟩
    refine ⟨_, rfl, v, d, rfl, hv, hok, fun H1 e1 => ⟨_, rfl, ?_⟩⟩
    cases hi : intD d with
    | false =>
      refine iteF ?_
      have e : (idx d n).isSome = false := by cases d <;> first | rfl | cases hi
      rw [← e]
      exact q _ e1
    | true =>
      obtain ⟨i, rfl⟩ : ∃ i, d = .int i := by cases d <;> first | exact ⟨_, rfl⟩ | cases hi
      have := hv.int_inv
      subst this
      refine iteT ?_
      have fin : ∀ b : Bool, b = (idx (.int i) n).isSome → Q (.bl b) H1 := fun b hb => by
        rw [hb]
        exact q _ e1
      have e : (idx (.int i) n).isSome = (decide (0 ≤ i) && decide (i < (n : Int))) := by
        show (if 0 ≤ i ∧ i < (n : Int) then some i.toNat else none).isSome = _
        by_cases h1 : 0 ≤ i <;> by_cases h2 : i < (n : Int) <;> simp [h1, h2]
      refine ⟨_, rfl, .inl ⟨_, _, rfl, rfl, _, rfl, ite2 (fun h1 => ⟨_, rfl, _, _, rfl, rfl, fin _ ?_⟩) (fun h1 => fin _ ?_)⟩⟩
      · rw [e, h1, Bool.true_and]
      · rw [e, show decide (0 ≤ i) = false from by simpa using h1, Bool.false_and]
def spPl (C : Addr) : Sp := fun vs H Q _ => ∃ (y : Addr) (ds : List PyData), vs = [.ref y] ∧ ScAt C H y ds ∧ OkS ds ∧ ∀ H' l us, Ex H H' → H l = none → H' l = some (.lst us) → PlAt H' us (plcD ds) → Q (.ref l) H'
theorem ok_places32 {C : Addr} (S : ClsP K C) {fi : Addr} {fdi : FuncData} (T : Txt0 mg) (TZ : TxtZ mg) (c_picks_of : CalG P w K mg base 2 "picks_of" (spPk1 K)) (c_place_of : CalG P w K mg base 2 "place_of" (spV fPlace)) (F : Fun K "places" "Script.places" s_Script_places fi fdi) : FnG P w K mg base 3 fi fdi ["self"] (spPl C) := by
  have T_enumerate := TZ.enumerate
  refine fn_mkQ F sc_Script_places (fun vs H Q E h => ?_) (fun cdv A outer s H vs Q E hr hG h => ?_)
  · obtain ⟨y, ds, rfl, _⟩ := h
    rfl
  · obtain ⟨y, ds, rfl, ⟨d, l, xs, hy, hl, hA⟩, hok, q⟩ := h
    refine ⟨_, (pss_one (ps_ret (pe_lc2O (pe_lc2 (own := [("index", 1), ("step", 2), ("number", 3), ("pick", 4)]) (vs1 := [3, 4]) rfl sc_Script_places.nd (pi_enum (by rfl) T_enumerate (pa_cons (pe_fld (pv 0) (by rfl)) pa_nil)) (blkOk_by (own := [("index", 1), ("step", 2), ("number", 3), ("pick", 4)]) (N := ["self", "index", "step", "number", "pick"]) (sc := defScope s_Script_places) (by first | decide +kernel | kernel_rfl)) (by decide) (fun _ _ _ _ _ => pg_tupB (n := 2) rfl (pgs_cons (pg_name (i := 1) sc_Script_places.nd rfl (Or.inl rfl) (hf := .inr rfl)) (pgs_cons (pg_name (i := 2) sc_Script_places.nd rfl (Or.inl rfl) (hf := .inr rfl)) pgs_nil))) (fun _ _ _ _ _ => pts_nil) (fun _ _ _ _ _ => (pi_enumB (by rfl) T_enumerate (pa_cons (pe_cG c_picks_of hr hG (by decide) rfl (pa_cons (pv 2) pa_nil)) pa_nil))) (fun _ _ _ _ _ => pg_tupB (n := 2) rfl (pgs_cons (pg_name (i := 3) sc_Script_places.nd rfl (Or.inl rfl) (hf := .inr rfl)) (pgs_cons (pg_name (i := 4) sc_Script_places.nd rfl (Or.inl rfl) (hf := .inr rfl)) pgs_nil))) (fun _ _ _ _ _ => pts_one (pt_cmpR op_notN (pe_cG c_place_of hr hG (by decide) rfl (pa_cons (pv 4) pa_nil)) pe_non (nomark _))) (fun _ _ _ _ _ => pe_tup (pa_cons (pv 1) (pa_cons (pv 3) pa_nil))))))), ?_⟩
    have hxl := hA.len
    have hn := hok.2
    have hst : ∀ s ∈ ds, stepD s = true := fun s hs => (hok.1 s hs).1
    refine ⟨_, rfl, y, C, d, _, _, rfl, hy, S.cl, S.n1, by rfl, l, xs, rfl, sq_of hl, ?_⟩
    refine lc2G (σ := [some (.ref y), none, none, none, none]) (walk_enum (xs := xs)) (sq_of hl) (fun _ _ e h => ex_l e h) yPair_ex (fun i ys H' => PlAt H' ys ((List.range i).flatMap fun i => plcS i (pksD (ds.getD i .none))) ∧ ys.length ≤ 2 * i) (fun i _ _ _ e h => ⟨h.1.tn e, h.2⟩) ⟨⟨[], rfl, rfl, fun q hq => by cases hq⟩, Nat.le_refl _⟩ ?_ ?_
    · rintro i x H1 H2 ys hi e1 ⟨t, u, w', rfl, ht, rfl, hu, hw⟩ ⟨hY, hYl⟩ D0 Nx hD0 hd0 kN
      cases hu
      obtain ⟨s, hs, hda⟩ := (DaAll.ex e1 _ hA).at hw
      have ms := List.mem_of_getElem? hs
      obtain ⟨z, es, rfl, hz⟩ := step_of (hst s ms)
      obtain ⟨p, zs, rfl, hp, hB⟩ := hda.tup_inv
      cases hB with
      | @cons v0 zs _ _ h0 hB =>
        have := h0.str_inv
        subst this
        refine ⟨t, _, rfl, st_of upd_same, rfl, _, _, rfl, _, _, rfl, rfl, rfl, ?_⟩
        generalize hq2 : upd H1 t _ = H2 at hY hd0 kN ⊢
        obtain ⟨e2, _⟩ := gen1 hq2 ht
        refine ⟨_, rfl, p, z, zs, es, rfl, e2 _ _ hp, DaAll.ex e2 _ hB, hz, fun H3 l3 e3 n3 h3 => ⟨l3, _, rfl, sq_of h3, ?_⟩⟩
        have hlD : l3 ≠ D0 := fun e => by rw [e, hd0] at n3; cases n3
        have hC : DaAll H3 (zs.take (nPk z)) (es.take (nPk z)) := (DaAll.ex (e2.trans e3) _ hB).take _
        have hlen := hC.len
        have hpk : ∀ p ∈ es.take (nPk z), pickD p = true := fun p hp => pks_pick (s := .tuple (.str z :: es)) (hst _ ms) hp
        have le2 : (es.take (nPk z)).length ≤ 2 := (pks_len (hst _ ms)).1
        have hps : pksD (ds.getD i .none) = es.take (nPk z) := by
          rw [List.getD_eq_getElem?_getD, hs]
          rfl
        refine inGB (σ2 := [some (.ref y), some (.int (i : Int)), some (.ref p), none, none]) (walk_enum (xs := zs.take (nPk z))) hD0 ((e1.trans e2).trans e3) (e3 _ _ hd0) (fun H' _ t' => sq_of (t' _ _ hlD h3)) yPair_ex
          (fun j vs H' => PlAt H' vs (((List.range i).flatMap fun i => plcS i (pksD (ds.getD i .none))) ++ ((List.range j).filter fun j => decide (wdP ((es.take (nPk z)).getD j .none) = "at")).map (fun j => (i, j))) ∧ vs.length ≤ 2 * i + j ∧ j ≤ 2) (fun j _ _ _ e h => ⟨h.1.tn e, h.2⟩) (fun j vs H' h => ?_) ?_ ?_ ?_
        · have := h.2
          omega
        · refine ⟨?_, hYl, by decide⟩
          have w := hY.tn (TEx.of e3)
          simpa using w
        · rintro j v H5 H6 vs hj e6 t6 ⟨t2, u2, w2, rfl, ht2, rfl, hu2, hw2⟩ ⟨hV, hVl, hj2⟩ N N1 kN2 kN3
          cases hu2
          refine ⟨t2, _, rfl, st_of upd_same, rfl, _, _, rfl, _, _, rfl, rfl, rfl, ?_⟩
          generalize hq7 : upd H5 t2 _ = H7 at hV e6 t6 kN2 kN3 ⊢
          obtain ⟨e7, _⟩ := gen1 hq7 ht2
          have t37 : TEx H3 H7 := fun c zs' h => t6 c _ (fun hc => by rw [hc, e3 _ _ hd0] at h; cases h) h
          obtain ⟨b, hb1, hb⟩ := (DaAll.tn t37 _ (nls_picks hpk) hC).at hw2
          have kb := hpk b (List.mem_of_getElem? hb1)
          obtain ⟨bk, own, u, hv, hu, ho⟩ := pick_P hb kb
          refine ⟨_, rfl, w2, bk, own, wdP b, u, rfl, hv, fun H8 e8 => ⟨rfl, _, rfl, ?_⟩⟩
          have st := plcS_step i hb1
          have jn : j + 1 ≤ 2 := by
            have : j < (zs.take (nPk z)).length := hj
            omega
          by_cases hw : wdP b = "at"
          · rw [if_pos hw] at st
            have un : fPlace bk own (wdP b) u ≠ .non := by
              unfold fPlace
              rw [decide_eq_true hw, if_pos rfl]
              rcases ho with ⟨e, _⟩ | ⟨e, _⟩ | ⟨_, k⟩ | ⟨e | e, _⟩
              · rw [e] at hw; exact absurd hw (by decide +kernel)
              · rw [e] at hw; exact absurd hw (by decide +kernel)
              · cases ha : agP b with
                | int m => rw [ha] at hu; rw [hu.int_inv]; intro h; cases h
                | str m => rw [ha] at k; cases k
                | none => rw [ha] at k; cases k
                | bool m => rw [ha] at k; cases k
                | list m => rw [ha] at k; cases k
                | tuple m => rw [ha] at k; cases k
                | dict m => rw [ha] at k; cases k
              · rw [e] at hw; exact absurd hw (by decide +kernel)
              · rw [e] at hw; exact absurd hw (by decide +kernel)
            rw [decide_eq_false un]
            refine iteT ⟨_, rfl, _, rfl, by show 2 ≤ sizeLine; decide, fun t9 n9 => ?_⟩
            have e9 := Ex.new (o := .tup [V.int (i : Int), .int (j : Int)]) n9
            refine kN2 _ _ (e8.trans e9) ⟨?_, by rw [List.length_append]; show vs.length + 1 ≤ _; omega, jn⟩
            rw [st, ← List.append_assoc]
            exact PlAt.snoc (hV.tn (TEx.of (e8.trans e9))) upd_same
          · rw [if_neg hw, List.append_nil] at st
            have un : fPlace bk own (wdP b) u = .non := by
              unfold fPlace
              rw [decide_eq_false hw]
              rfl
            rw [decide_eq_true un]
            refine iteF (kN3 _ e8 ⟨?_, by omega, jn⟩)
            rw [st]
            exact hV.tn (TEx.of e8)
        · intro vs H5 e5 t5 d5 hV
          refine kN vs H5 e5 d5 ⟨?_, ?_⟩
          · rw [flat_range, hps]
            unfold plcS
            rw [← hlen]
            exact hV.1
          · have := hV.2
            omega
    · intro l1 H1 ys hl1 e1 h1 hY
      rw [hxl] at hY
      exact q _ l1 ys e1 hl1 h1 hY.1
end
end Own

namespace Own
open PySem PySem.Spec PyProof.Rows L2 Evl
structure ClsI (K : PySem.W.Frag) (C : Addr) : Prop where
  ha : PySem.W.findIn K (.ref C) "__class__" = some (some (.builtin "object.__class__"))
  hn : PySem.W.specialIn K (.builtin "object.__class__") "__get__" = some (some (.builtin "getset_descriptor.__get__"))
  htk : PySem.W.takesIn K (.builtin "object.__class__") = some true
  hm : PySem.W.mroIn K C (.type "object") = some true
section
variable {P : Program} {w : World} {K : PySem.W.Frag} {mg : Str → Option Value} {base : Heap} {rel : Addr}
def spLen (C : Addr) : Sp := fun vs H Q _ => ∃ (y : Addr) (ds : List PyData), vs = [.ref y] ∧ ScAt C H y ds ∧ OkS ds ∧ ∀ H', Ex H H' → Q (.int (ds.length : Nat)) H'
theorem ok_len32 {C : Addr} (S : ClsP K C) {fi : Addr} {fdi : FuncData} (T : Txt0 mg) (F : Fun K "__len__" "Script.__len__" s_Script___len__ fi fdi) : FnG P w K mg base 1 fi fdi ["self"] (spLen C) := by
  refine fn_mkQ F sc_Script___len__ (fun vs H Q E h => ?_) (fun cdv A outer s H vs Q E hr hG h => ?_)
  · obtain ⟨y, ds, rfl, _⟩ := h
    rfl
  · obtain ⟨y, ds, rfl, ⟨d, l, xs, hy, hl, hA⟩, hok, q⟩ := h
    refine ⟨_, (pss_one (ps_ret (pe_callB callLen (by rfl) T.len PySem.boot_len (pa_cons (pe_fld (pv 0) (by rfl)) pa_nil)))), ?_⟩
    have hxl := hA.len
    refine ⟨_, rfl, y, C, d, _, _, rfl, hy, S.cl, S.n1, by rfl, .inl ⟨l, _, rfl, .inl (sq_of hl), ?_⟩⟩
    rw [hxl]
    exact q _ (Ex.refl _)
/-- an index's error -/
def ErrI (E : XK) (NS : Addr) (v : V) (H : Hp) : Prop := ∀ H' dd, Ex H H' → H' dd = some (.xd [("index", v)]) → E (.ref NS) (some dd) H'
def spCI (C NS : Addr) : Sp := fun vs H Q E => ∃ (y : Addr) (v : V) (ds : List PyData) (d : PyData), vs = [.ref y, v] ∧ ScAt C H y ds ∧ OkS ds ∧ Da H v d ∧ okD 40 16000000 d ∧
  (idx d ds.length = none → ErrI E NS v H) ∧ ((idx d ds.length).isSome = true → ∀ H', Ex H H' → Q .non H')
theorem ok_ci {C NS : Addr} (S : ClsP K C) {fi : Addr} {fdi : FuncData} (T : Txt0 mg) (c_NoStep : ErrF P w K mg base "NoStep" "index" NS) (c_is_index : CalG P w K mg base 2 "is_index" spIdx) (F : Fun K "check_index" "Script.check_index" s_Script_check_index fi fdi) : FnN P w K mg base 3 fi fdi ["self", "index"] (spCI C NS) := by
  refine fn_mkN F sc_Script_check_index (fun vs H Q E h => ?_) (fun cdv A outer s H vs Q E hr hG h => ?_)
  · obtain ⟨y, v, ds, d, rfl, _⟩ := h
    rfl
  · obtain ⟨y, v, ds, d, rfl, ⟨d0, l, xs, hy, hl, hA⟩, hok, hd, kd, qe, q⟩ := h
    refine ⟨_, (pss_one (ps_if (pt_not (pt_val (pe_cG c_is_index hr hG (by decide) rfl (pa_cons (pv 1) (pa_cons (pe_callB callLen (by rfl) T.len PySem.boot_len (pa_cons (pe_fld (pv 0) (by rfl)) pa_nil)) pa_nil))))) (pss_one (ps_raiseF rfl c_NoStep hr (by decide) (L2N.takes_of rfl rfl rfl rfl) rfl (pa_cons (pv 1) pa_nil))) pss_nil)), ?_⟩
    have hxl := hA.len
    refine ⟨_, rfl, _, rfl, y, C, d0, _, _, rfl, hy, S.cl, S.n1, by rfl, .inl ⟨l, _, rfl, .inl (sq_of hl), ?_⟩⟩
    refine ⟨v, d, xs.length, rfl, hd, kd, fun H1 e1 => ⟨_, rfl, ?_⟩⟩
    rw [hxl]
    cases hi : idx d ds.length with
    | none =>
      refine iteT ⟨_, rfl, ?_⟩
      refine ⟨by show 1 ≤ 1000; decide, fun a0 ha0 => mkF fun dx n1 n2 => ⟨rfl, dx, _, upd_same, by rw [upd_ne n2, upd_same], n1, ?_⟩⟩
      exact qe hi _ dx (e1.trans (exF ha0 n1)) upd_same
    | some i => exact iteF (q (by rw [hi]; rfl) _ e1)
def spGI (C NS : Addr) : Sp := fun vs H Q E => ∃ (y : Addr) (v : V) (ds : List PyData) (d : PyData), vs = [.ref y, v] ∧ ScAt C H y ds ∧ OkS ds ∧ Da H v d ∧ okD 40 16000000 d ∧
  (idx d ds.length = none → ErrI E NS v H) ∧ (∀ i s, idx d ds.length = some i → ds[i]? = some s → ∀ H' u, Ex H H' → Da H' u s → Q u H')
theorem ok_gi {C NS : Addr} (S : ClsP K C) {fi : Addr} {fdi : FuncData} (T : Txt0 mg) (M_check_index : MetN P w K mg base 3 C "check_index" (spCI C NS)) (F : Fun K "__getitem__" "Script.__getitem__" s_Script___getitem__ fi fdi) : FnN P w K mg base 4 fi fdi ["self", "at"] (spGI C NS) := by
  refine fn_mkN F sc_Script___getitem__ (fun vs H Q E h => ?_) (fun cdv A outer s H vs Q E hr hG h => ?_)
  · obtain ⟨y, v, ds, d, rfl, _⟩ := h
    rfl
  · obtain ⟨y, v, ds, d, rfl, hs, hok, hd, kd, qe, q⟩ := h
    refine ⟨_, (pss_cons (ps_expr (pe_mtN M_check_index (pv 0) hr hG (by decide) (fun σ => L2N.passAt (L2N.takes_of rfl rfl rfl rfl) σ) (pa_cons (pv 1) pa_nil)))
      (pss_one (ps_ret (pe_ix ixAny (pe_fld (pv 0) (by rfl)) (pv 1) (fun _ _ => rfl))))), ?_⟩
    obtain ⟨d0, l, xs, hy, hl, hA⟩ := id hs
    refine ⟨_, rfl, y, d0, _, rfl, hy, by rfl, _, rfl, y, v, ds, d, rfl, hs, hok, hd, kd, qe, fun hi H1 e1 => ?_⟩
    obtain ⟨i, hi⟩ := Option.isSome_iff_exists.mp hi
    obtain ⟨rfl, hin⟩ := idx_inv hi
    have := hd.int_inv
    subst this
    have hx : i < xs.length := by rw [hA.len]; exact hin
    obtain ⟨s0, hs0, hda⟩ := (DaAll.ex e1 _ hA).at (List.getElem?_eq_getElem hx)
    refine ⟨_, rfl, y, C, d0, _, _, rfl, e1 _ _ hy, S.cl, S.n1, by rfl, _, rfl, .inl ⟨l, xs, (i : Int), _, rfl, rfl, sq_of (e1 _ _ hl), atI_nat (j := i) (List.getElem?_eq_getElem hx), ?_⟩⟩
    exact q i s0 hi hs0 _ _ e1 hda
def spEq (K : PySem.W.Frag) (C : Addr) : Sp := fun vs H Q _ => ∃ (y : Addr) (v : V) (ds : List PyData), vs = [.ref y, v] ∧ ScAt C H y ds ∧ OkS ds ∧
  ((∃ (z : Addr) (es : List PyData), v = .ref z ∧ ScAt C H z es ∧ OkS es ∧ Q (.bl (PyData.eqv (.list ds) (.list es))) H) ∨ ∃ t, TyX K H v t ∧ PySem.W.kitOne K t (.ref C) = some false ∧ Q (.bl false) H)
theorem ok_eq32 {C : Addr} (S : ClsP K C) (SI : ClsI K C) {fi : Addr} {fdi : FuncData} (TI : TxtI K mg rel) (hC : mg "Script" = some (.ref C)) (F : Fun K "__eq__" "Script.__eq__" s_Script___eq__ fi fdi) : FnG P w K mg base 1 fi fdi ["self", "other"] (spEq K C) := by
  refine fn_mkQ F sc_Script___eq__ (fun vs H Q E h => ?_) (fun cdv A outer s H vs Q E hr hG h => ?_)
  · obtain ⟨y, v, ds, rfl, _⟩ := h
    rfl
  · obtain ⟨y, v, ds, rfl, ⟨d, l, xs, hy, hl, hA⟩, hok, hz⟩ := h
    refine ⟨_, (pss_one (ps_ret (pe_and (pe_callB call_isi (by rfl) TI.isinstance (by decide +kernel) (pa_cons (pv 1) (pa_cons (pe_glob (v := .ref C) rfl hC rfl) pa_nil))) (pe_one (pe_cmpR (opEq hr) (pe_fld (pv 0) (by rfl)) (pe_fld (pv 1) (by rfl)) (nomark _)))))), ?_⟩
    rcases hz with ⟨z, es, rfl, ⟨d1, l1, xs1, hy1, hl1, hA1⟩, ok1, q⟩ | ⟨t, hty, hk, q⟩
    · refine ⟨_, rfl, _, .ref C, _, .ref C, true, rfl, .own C, .base (.ins hy1 S.cl SI.ha SI.hn SI.htk SI.hm), by unfold PySem.W.kitOne; rw [if_pos (beq_self_eq_true _)], true, rfl, iteT ?_⟩
      have d0 : Da H (.ref l) (.list ds) := .lst hl hA
      have d2 : Da H (.ref l1) (.list es) := .lst hl1 hA1
      exact ⟨_, rfl, y, C, d, _, _, rfl, hy, S.cl, S.n1, by rfl, _, rfl, z, C, d1, _, _, rfl, hy1, S.cl, S.n1, by rfl, .inr ⟨_, _, d0.dp _ (fineS hok).1, d2.dp _ (fineS ok1).1, (fineS hok).shp, (fineS ok1).shp, q⟩⟩
    · exact ⟨_, rfl, _, .ref C, _, _, false, rfl, .own C, hty, hk, _, rfl, iteF q⟩
end
end Own

namespace Own
open PySem PySem.Spec PyProof.Rows L2 Evl
open L2H
abbrev s_l_error : Stmt := top 60
theorem sc_l_error : FnScope ["_law_e", "_law_sorts"] ["_law_e"] (defScope s_l_error) := ⟨rfl, rfl, rfl, by decide +kernel, rfl, by decide +kernel, by decide +kernel⟩
structure Er33 (P : Program) (w : World) (K : PySem.W.Frag) (mg : Str → Option Value) (base : Heap) (cl : Nat → Addr) (PE_ : Addr) : Prop where
  a0 : mg "NotPicked" = some (.ref (cl 0))
  a1 : mg "Stopped" = some (.ref (cl 1))
  a2 : mg "BadStep" = some (.ref (cl 2))
  a3 : mg "NoStep" = some (.ref (cl 3))
  a4 : mg "Wrong" = some (.ref (cl 4))
  a5 : mg "Stuck" = some (.ref (cl 5))
  eW : ErrF P w K mg base "Wrong" "place" (cl 4)
  eB : ErrF P w K mg base "BadStep" "index" (cl 2)
  eN : ErrF P w K mg base "NoStep" "index" (cl 3)
  gP : mg "PickError" = some (.ref PE_)
  xc : ∀ k, (k = 2 ∨ k = 3 ∨ k = 4) → ExcC K (cl k)
  no4 : PySem.W.findIn K (.ref (cl 4)) "place" = some none
  no2 : PySem.W.findIn K (.ref (cl 2)) "index" = some none
  no3 : PySem.W.findIn K (.ref (cl 3)) "index" = some none
  kit : ∀ k j, (k = 2 ∨ k = 3 ∨ k = 4) → j < 6 → PySem.W.kitOne K (.ref (cl k)) (.ref (cl j)) = some (decide (k = j))
  em : ∀ k, (k = 2 ∨ k = 3 ∨ k = 4) → PySem.W.exmOne K (.ref (cl k)) (.ref PE_) = some true
theorem opEqH {X : Cx} {k : Nat} (hr : RoomH k X.A) : OpR X (compareOp .Eq) (rEqA X.K) := OpR.or op_eq (op_eqD (by have := hr.un; omega))
/-- e.n, e the error in hand -/
def tXfQ (K : PySem.W.Frag) (ob : Addr × Obj) (n : Str) (te : TE) : TE := fun σ H Q => te σ H fun x H1 => x = .ref ob.1 ∧ ∃ (D dd : Addr) (fs : List (Str × V)) (v : V), ErO ob D (some dd) ∧ ExcC K D ∧ PySem.W.findIn K (.ref D) n = some none ∧ H1 dd = some (.xd fs) ∧ fs.lookup n = some v ∧ Q v H1
theorem pe_xfQ {X : Cx} {ob : Addr × Obj} {e : Expr} {te : TE} {pos : Pos} {n : Str} (hob : ob ∈ X.pn) (he : PE X e te)
    (hb : attributeBase e n X.env (eval e X.env) = eval e X.env := by rfl) : PE X (.Attribute e n pos) (tXfQ X.K ob n te) := by
  refine ⟨fun pk s τ H Q I h => ?_⟩
  refine attr_of hb (thn (he.run pk s τ H _ I h) fun u sA hh => ?_)
  obtain ⟨x, HA, IA, rx, ex, D, dd, fs, v, O, C, hno, ea, l, q⟩ := hh
  subst ex
  obtain rfl : u = Value.ref ob.1 := rx
  obtain ⟨hget, _⟩ := IA.pin ob (List.mem_append_left _ hob)
  obtain ⟨h1, h2, vs, h3⟩ := O
  have hx : ObjOk X.prog X.w HA sA.heap dd (.xd fs) := IA.hok dd _ ea
  obtain ⟨mA, hns, hr⟩ := hx
  obtain ⟨od, ho, hl⟩ := lookIn_ns hns
  obtain ⟨u, hu, ru⟩ := RelO.some_of (v := v) (o := mA n) (by rw [← l]; exact hr n)
  have J : PySem.W.InstAt sA.heap ob.1 ob.2 D (some od) := ⟨hget, h1, by unfold PySem.W.notCls; rw [h3] <;> rfl, by rw [h2]; exact ho⟩
  exact HandSPX.exc_get IA.kIn J C.hg C.hk C.hs (PySem.W.findObj_own C.hd hno rfl (by rw [hl, hu])) (handed_of ru) ⟨v, HA, IA.tok _, ru, q⟩
section
variable {P : Program} {w : World} {K : PySem.W.Frag} {mg : Str → Option Value} {base : Heap} {cl : Nat → Addr} {PE_ : Addr}
/-- the refusals: the class, the field, what is told -/
def flE (k : Nat) : Str := if k = 4 then "place" else "index"
def tlE (k : Nat) (d : PyData) : PyData := .tuple [.str (if k = 4 then "wrong" else if k = 3 then "no step" else "bad step"), d]
def spErr (cl : Nat → Addr) : SpP := fun ob vs H Q _ => ∃ (d : Addr) (k : Nat) (n : V) (g : PyData), vs = [.ref ob.1] ∧ (k = 2 ∨ k = 3 ∨ k = 4) ∧ ErO ob (cl k) (some d) ∧ H d = some (.xd [(flE k, n)]) ∧ Da H n g ∧ ∀ H' t, Ex H H' → Da H' (.ref t) (tlE k g) → Q (.ref t) H'
theorem ok_error (ES : Er33 P w K mg base cl PE_) (TI : mg "isinstance" = none) (D : Df K mg "_law_error" s_l_error) : CalP P w K mg base 1 "_law_error" (spErr cl) := by
  refine cal_mkP D sc_l_error (fun _ _ _ _ _ _ us hl => match us, hl with | [_], _ => rfl) (fun ob vs H Q E h => ?_) (fun f cdv A outer s H vs Q E ob hot hr h => ?_)
  · obtain ⟨d, k, n, g, rfl, _⟩ := h
    rfl
  · obtain ⟨d, k, n, g, rfl, hk, O, hd, hn, q⟩ := h
    have hob : ob ∈ [ob] := List.mem_cons_self
    refine ⟨_, (pss_cons (ps_set (i := 1) sc_l_error.nd rfl (Or.inl rfl) (pe_lst (pa_cons (pe_callB (call_isP (ES.xc k hk) hob O) (by rfl) TI (by decide +kernel) (pa_cons (pv 0) (pa_cons (pe_glob (v := .ref (cl 0)) rfl ES.a0 rfl) pa_nil))) (pa_cons (pe_callB (call_isP (ES.xc k hk) hob O) (by rfl) TI (by decide +kernel) (pa_cons (pv 0) (pa_cons (pe_glob (v := .ref (cl 1)) rfl ES.a1 rfl) pa_nil))) (pa_cons (pe_callB (call_isP (ES.xc k hk) hob O) (by rfl) TI (by decide +kernel) (pa_cons (pv 0) (pa_cons (pe_glob (v := .ref (cl 2)) rfl ES.a2 rfl) pa_nil))) (pa_cons (pe_callB (call_isP (ES.xc k hk) hob O) (by rfl) TI (by decide +kernel) (pa_cons (pv 0) (pa_cons (pe_glob (v := .ref (cl 3)) rfl ES.a3 rfl) pa_nil))) pa_nil))))))
      (pss_cons (ps_set (i := 1) sc_l_error.nd rfl (Or.inl rfl) (pe_op opAdd (pv 1) (pe_lst (pa_cons (pe_callB (call_isP (ES.xc k hk) hob O) (by rfl) TI (by decide +kernel) (pa_cons (pv 0) (pa_cons (pe_glob (v := .ref (cl 4)) rfl ES.a4 rfl) pa_nil))) (pa_cons (pe_callB (call_isP (ES.xc k hk) hob O) (by rfl) TI (by decide +kernel) (pa_cons (pv 0) (pa_cons (pe_glob (v := .ref (cl 5)) rfl ES.a5 rfl) pa_nil))) pa_nil)))))
      (pss_cons (ps_if (pt_cmpR op_ne (pe_bm PySem.F.plainAttrs_list PySem.F.slot_list_count PySem.F.type_list_count mt_countF (pv 1) (pa_cons pe_bl pa_nil)) pe_int (nomark _)) (pss_one (ps_ret (pe_tup (pa_cons pe_str (pa_cons pe_non pa_nil))))) pss_nil)
      (pss_cons (ps_if (pt_val (pe_ix ixAny (pv 1) pe_int (fun _ _ => rfl))) (pss_one (ps_ret (pe_tup (pa_cons pe_str (pa_cons (pe_xfQ hob (pv 0)) pa_nil))))) pss_nil)
      (pss_cons (ps_if (pt_val (pe_ix ixAny (pv 1) pe_int (fun _ _ => rfl))) (pss_one (ps_ret (pe_tup (pa_cons pe_str (pa_cons (pe_xfQ hob (pv 0)) pa_nil))))) pss_nil)
      (pss_one (ps_ret (pe_ifExp (pt_val (pe_ix ixAny (pv 1) pe_int (fun _ _ => rfl))) (pe_tup (pa_cons pe_str (pa_cons pe_non pa_nil))) (pe_tup (pa_cons (pe_ix ixAny (pe_lst (pa_cons pe_str (pa_cons pe_str (pa_cons pe_str (pa_cons pe_str pa_nil))))) (pe_bm PySem.F.plainAttrs_list PySem.F.slot_list_index PySem.F.type_list_index mt_index (pv 1) (pa_cons pe_bl pa_nil)) (fun _ _ => rfl)) (pa_cons (pe_xfQ hob (pv 0)) pa_nil))))))))))), ?_⟩
    have erd : ∀ {H' : Hp}, Ex H H' → ErD H' (some d) := fun e => .inr ⟨d, _, rfl, e _ _ hd⟩
    refine ⟨_, rfl, erd (Ex.refl _), .ref (cl 0), .ref (cl 0), _, rfl, fun u r => r, ES.kit k 0 hk (by decide), ?_⟩
    refine ⟨_, rfl, erd (Ex.refl _), .ref (cl 1), .ref (cl 1), _, rfl, fun u r => r, ES.kit k 1 hk (by decide), ?_⟩
    refine ⟨_, rfl, erd (Ex.refl _), .ref (cl 2), .ref (cl 2), _, rfl, fun u r => r, ES.kit k 2 hk (by decide), ?_⟩
    refine ⟨_, rfl, erd (Ex.refl _), .ref (cl 3), .ref (cl 3), _, rfl, fun u r => r, ES.kit k 3 hk (by decide), ?_⟩
    refine ⟨by show 4 ≤ sizeLine; decide, fun l1 n1 => ?_⟩
    generalize hq1 : upd H l1 _ = H1
    obtain ⟨e1, h1⟩ := gen1 hq1 n1
    refine ⟨_, rfl, ?_⟩
    refine ⟨_, rfl, erd e1, .ref (cl 4), .ref (cl 4), _, rfl, fun u r => r, ES.kit k 4 hk (by decide), ?_⟩
    refine ⟨_, rfl, erd e1, .ref (cl 5), .ref (cl 5), _, rfl, fun u r => r, ES.kit k 5 hk (by decide), ?_⟩
    refine ⟨by show 2 ≤ sizeLine; decide, fun l2 n2 => ?_⟩
    generalize hq2 : upd H1 l2 _ = H2
    obtain ⟨e2, h2⟩ := gen1 hq2 n2
    refine .inr (.inr (.inl ⟨l1, l2, _, _, rfl, rfl, e2 _ _ h1, h2, by show 4 + 2 ≤ sizeLine; decide, fun l3 n3 => ?_⟩))
    generalize hq3 : upd H2 l3 _ = H3
    obtain ⟨e3, h3⟩ := gen1 hq3 n3
    have e13 := (e1.trans e2).trans e3
    rcases hk with rfl | rfl | rfl
    · have h3 : H3 l3 = some (.lst [.bl false, .bl false, .bl true, .bl false, .bl false, .bl false]) := h3
      refine ⟨_, rfl, .inl ⟨rfl, _, sq_of h3⟩, l3, _, _, rfl, rfl, sq_of h3, rfl, rfl, ?_⟩
      refine ⟨rfl, _, rfl, iteFb (by decide +kernel) ?_⟩
      refine ⟨_, rfl, .inl ⟨l3, _, 0, .bl false, rfl, rfl, sq_of h3, rfl, _, rfl, iteF ?_⟩⟩
      refine ⟨_, rfl, .inl ⟨l3, _, 4, .bl false, rfl, rfl, sq_of h3, rfl, _, rfl, iteF ?_⟩⟩
      refine ⟨_, rfl, .inl ⟨l3, _, 5, .bl false, rfl, rfl, sq_of h3, rfl, _, rfl, iteF ?_⟩⟩
      refine ⟨by show 4 ≤ sizeLine; decide, fun l5 n5 => ?_⟩
      generalize hq5 : upd H3 l5 _ = H5
      obtain ⟨e5, h5⟩ := gen1 hq5 n5
      have h35 := e5 _ _ h3
      refine ⟨_, rfl, .inl ⟨rfl, _, sq_of h35⟩, l3, _, _, 2, .bl true, rfl, rfl, sq_of h35, rfl, rfl, rfl, rfl, fun m z' hm hz => ?_, ?_⟩
      · have q : m = 0 ∨ m = 1 := by omega
        rcases q with rfl | rfl <;> (cases hz; rfl)
      refine .inl ⟨l5, _, 2, .str "bad step", rfl, rfl, sq_of h5, rfl, ?_⟩
      refine ⟨_, rfl, rfl, cl 2, d, _, n, O, ES.xc 2 (.inl rfl), ES.no2, (e13.trans e5) _ _ hd, rfl, ?_⟩
      refine ⟨by show 2 ≤ sizeLine; decide, fun t4 n4 => ?_⟩
      generalize hq4 : upd H5 t4 _ = H4
      obtain ⟨e4, h4⟩ := gen1 hq4 n4
      exact q _ t4 ((e13.trans e5).trans e4) (.tup h4 (.cons (.str _) (.cons (Da.ex ((e13.trans e5).trans e4) _ hn) .nil)))
    · have h3 : H3 l3 = some (.lst [.bl false, .bl false, .bl false, .bl true, .bl false, .bl false]) := h3
      refine ⟨_, rfl, .inl ⟨rfl, _, sq_of h3⟩, l3, _, _, rfl, rfl, sq_of h3, rfl, rfl, ?_⟩
      refine ⟨rfl, _, rfl, iteFb (by decide +kernel) ?_⟩
      refine ⟨_, rfl, .inl ⟨l3, _, 0, .bl false, rfl, rfl, sq_of h3, rfl, _, rfl, iteF ?_⟩⟩
      refine ⟨_, rfl, .inl ⟨l3, _, 4, .bl false, rfl, rfl, sq_of h3, rfl, _, rfl, iteF ?_⟩⟩
      refine ⟨_, rfl, .inl ⟨l3, _, 5, .bl false, rfl, rfl, sq_of h3, rfl, _, rfl, iteF ?_⟩⟩
      refine ⟨by show 4 ≤ sizeLine; decide, fun l5 n5 => ?_⟩
      generalize hq5 : upd H3 l5 _ = H5
      obtain ⟨e5, h5⟩ := gen1 hq5 n5
      have h35 := e5 _ _ h3
      refine ⟨_, rfl, .inl ⟨rfl, _, sq_of h35⟩, l3, _, _, 3, .bl true, rfl, rfl, sq_of h35, rfl, rfl, rfl, rfl, fun m z' hm hz => ?_, ?_⟩
      · have q : m = 0 ∨ m = 1 ∨ m = 2 := by omega
        rcases q with rfl | rfl | rfl <;> (cases hz; rfl)
      refine .inl ⟨l5, _, 3, .str "no step", rfl, rfl, sq_of h5, rfl, ?_⟩
      refine ⟨_, rfl, rfl, cl 3, d, _, n, O, ES.xc 3 (.inr (.inl rfl)), ES.no3, (e13.trans e5) _ _ hd, rfl, ?_⟩
      refine ⟨by show 2 ≤ sizeLine; decide, fun t4 n4 => ?_⟩
      generalize hq4 : upd H5 t4 _ = H4
      obtain ⟨e4, h4⟩ := gen1 hq4 n4
      exact q _ t4 ((e13.trans e5).trans e4) (.tup h4 (.cons (.str _) (.cons (Da.ex ((e13.trans e5).trans e4) _ hn) .nil)))
    · have h3 : H3 l3 = some (.lst [.bl false, .bl false, .bl false, .bl false, .bl true, .bl false]) := h3
      refine ⟨_, rfl, .inl ⟨rfl, _, sq_of h3⟩, l3, _, _, rfl, rfl, sq_of h3, rfl, rfl, ?_⟩
      refine ⟨rfl, _, rfl, iteFb (by decide +kernel) ?_⟩
      refine ⟨_, rfl, .inl ⟨l3, _, 0, .bl false, rfl, rfl, sq_of h3, rfl, _, rfl, iteF ?_⟩⟩
      refine ⟨_, rfl, .inl ⟨l3, _, 4, .bl true, rfl, rfl, sq_of h3, rfl, _, rfl, iteT ?_⟩⟩
      refine ⟨_, rfl, rfl, cl 4, d, _, n, O, ES.xc 4 (.inr (.inr rfl)), ES.no4, e13 _ _ hd, rfl, ?_⟩
      refine ⟨by show 2 ≤ sizeLine; decide, fun t4 n4 => ?_⟩
      generalize hq4 : upd H3 t4 _ = H4
      obtain ⟨e4, h4⟩ := gen1 hq4 n4
      exact q _ t4 (e13.trans e4) (.tup h4 (.cons (.str _) (.cons (Da.ex (e13.trans e4) _ hn) .nil)))
end
end Own

namespace Own
open PySem PySem.Spec PyProof.Rows L2 Evl
open L2H
abbrev s_l_heard : Stmt := top 61
theorem sc_l_heard : FnScope ["_law_act", "_law_e"] ["_law_act"] (defScope s_l_heard) := ⟨rfl, rfl, rfl, by decide +kernel, rfl, by decide +kernel, by decide +kernel⟩
theorem pss_late {X : Cx} {body : List Stmt} {t : TS} (h : ∀ D σ H, t D σ H → ∃ t', PSs X body t' ∧ t' D σ H) : PSs X body t := by
  refine ⟨fun pk s σ H D I q => ?_⟩
  obtain ⟨t', ht, q'⟩ := h D σ H q
  exact ht.run pk s σ H D I q'
theorem takes0N {X : Cx} : L2N.Takes X (fun _ _ _ _ => False) := fun _ _ ⟨_, _, _, _, _, _, _, _, _, _, _, _, _, _, _, _, w⟩ => w.elim
/-- what the refusal must be -/
def E4 (cl : Nat → Addr) (Q : VK) : XK := fun cls d H' => ∃ (k : Nat) (n : V) (g : PyData) (dd : Addr), (k = 2 ∨ k = 3 ∨ k = 4) ∧ cls = .ref (cl k) ∧ d = some dd ∧ H' dd = some (.xd [(flE k, n)]) ∧ Da H' n g ∧ ∀ H2 t, Ex H' H2 → Da H2 (.ref t) (tlE k g) → Q (.ref t) H2
/-- what heard makes of an act -/
def TTh (cl : Nat → Addr) : (XK → Hp → VK → Prop) → Hp → VK → Prop := fun tl H Q => ∀ (E : XK) (Z : VK), (∀ cls d H', E4 cl Q cls d H' → E cls d H') → (∀ v H1, (∀ t, H1 t = none → Q (.ref t) (upd H1 t (.tup [.str "told", v]))) → Z v H1) → tl E H Z
section
variable {P : Program} {w : World} {K : PySem.W.Frag} {mg : Str → Option Value} {base : Heap} {cl : Nat → Addr} {PE_ g : Addr} {cdg : Value} {q : Str}
theorem gives_heard (ES : Er33 P w K mg base cl PE_) (c_error : CalP P w K mg base 1 "_law_error" (spErr cl)) : GivesS P w K mg base 10 ["_law_act", "_law_e"] "_law_heard" (defScope s_l_heard) g cdg (defBody s_l_heard) "_law_act" q (TTh cl) := by
  refine ⟨fun A outer f c s H Q tl hr hG act hco hTT => ?_⟩
  refine ⟨_, pss_one (L2N.ps_try_as (i := 1) (tb := fun Wx D σ H' => σ = [some (.ref f), none] ∧ H' = H ∧ D.rt = Q ∧ ∀ cls d H2, E4 cl Q cls d H2 → Wx cls d σ H2)
    (ts := fun a cls d D σ H' => ∃ (k : Nat) (n : V) (g : PyData) (dd : Addr), (k = 2 ∨ k = 3 ∨ k = 4) ∧ cls = .ref (cl k) ∧ σ = [some (.ref f), some (.ref a)] ∧ D.rt = Q ∧ d = some dd ∧ H' dd = some (.xd [(flE k, n)]) ∧ Da H' n g ∧ ∀ H2 t, Ex H' H2 → Da H2 (.ref t) (tlE k g) → Q (.ref t) H2)
    (Wout := fun _ _ _ _ => False) rfl rfl sc_l_heard.nd rfl rfl ⟨rfl, by decide, Or.inl ES.gP⟩ takes0N
        (fun Wx pn xe tk _ => pss_late fun D σ H' hB => ?hbody) (fun a oe cls d pn hz hf => pss_late fun D σ H' hR => ?hsuite)), ?hread⟩
  case hbody =>
    obtain ⟨rfl, rfl, hD, qW⟩ := hB
    refine ⟨_, pss_one (ps_ret (pe_tup (pa_cons pe_str (pa_cons (act Wx pn xe _ _ tk) pa_nil)))), ?_⟩
    refine ⟨rfl, hco, hTT _ _ (fun cls d H2 hE => qW cls d H2 hE) (fun v H1 h => ⟨by show 2 ≤ sizeLine; decide, fun t nt => ?_⟩)⟩
    rw [hD]
    exact h t nt
  case hsuite =>
    obtain ⟨k, n, gg, dd, hk, hcls, rfl, hD, rfl, hdd, hn, qE⟩ := hR
    have O : ErO (a, oe) (cl k) (some dd) := ⟨hz.1.trans hcls, hz.2.1, hf⟩
    have hot1 : Hot1 (A.mark (some (.ref a))) (a, oe) := by
      obtain ⟨vs, hvs⟩ := hf
      exact ⟨rfl, vs, hvs, hz.2.2 vs hvs⟩
    refine ⟨_, (pss_one (ps_ret (pe_cP c_error ((roomH_mark hr _).mono (by decide)) hot1 List.mem_cons_self rfl (pa_cons (pv 1) pa_nil)))), ?_⟩
    refine ⟨_, rfl, dd, k, n, gg, rfl, hk, O, hdd, hn, fun H2 t e2 h2 => ?_⟩
    rw [hD]
    exact qE H2 t e2 h2
  case hread =>
    refine ⟨rfl, rfl, rfl, fun cls d H2 hE => ?_⟩
    obtain ⟨k, n, gg, dd, hk, rfl, rfl, hdd, hn, qE⟩ := hE
    exact ⟨true, ES.em k hk, fun _ a na => ⟨k, n, gg, dd, hk, rfl, rfl, rfl, rfl, hdd, hn, qE⟩, fun z => by cases z⟩
end
end Own

namespace Own
open PySem PySem.Spec PyProof.Rows L2 Evl
abbrev s_Script_without : Stmt := inClass (top 37) 9
theorem sc_Script_without : FnScope ["self", "index"] ["self", "index"] (defScope s_Script_without) := ⟨rfl, rfl, rfl, by decide +kernel, rfl, by decide +kernel, by decide +kernel⟩
abbrev s_Script_with_step : Stmt := inClass (top 37) 8
theorem sc_Script_with_step : FnScope ["self", "index", "step"] ["self", "index", "step"] (defScope s_Script_with_step) := ⟨rfl, rfl, rfl, by decide +kernel, rfl, by decide +kernel, by decide +kernel⟩
theorem mk_scE {K : PySem.W.Frag} {C CW CB y d p : Addr} {H : Hp} {xs : List V} {ds : List PyData} {W : VK} {E : XK} (hy : H y = none) (hd : H d = none) (hne : d ≠ y) (hp : SqS H p xs) (hA : DaAll H xs ds) (ok : OkS ds) (bad : ∀ i, fc ds = some i → ErrB E CB i H)
    (z : fc ds = none → ∀ H', Ex H H' → ScAt C H' y ds → W .non H') : spSI K C CW CB (.ref y :: ([.ref p] ++ [])) (upd (upd H d (.own y)) y (.ins C d [])) W E := by
  have hy2 : upd H d (.own y) y = none := by rw [upd_ne (Ne.symm hne)]; exact hy
  have e0 : Ex H (upd (upd H d (.own y)) y (.ins C d [])) := (Ex.new hd).trans (Ex.new hy2)
  have hall : ds.all stepD = true := List.all_eq_true.mpr fun s hs => (ok.1 s hs).1
  refine ⟨y, d, .ref p, rfl, upd_same, .inr ⟨p, xs, ds, rfl, hp.ex e0, DaAll.ex e0 _ hA, fun s hs => (ok.1 s hs).2.mono (by decide) (by decide), by have := ok.2; omega, fun h => ?_, fun _ => ⟨fun i h H' dd e' hd' => bad i h H' dd (e0.trans e') hd', fun h H' l x hn h1 h2 => ?_⟩⟩⟩
  · rw [hall] at h
    cases h
  · have e1 : Ex H H' := fun a o h => x a o (fun e => by rw [e, hy] at h; cases h) (e0 a o h)
    exact z h H' e1 ⟨d, l, xs, h1, h2, DaAll.ex e1 _ hA⟩
theorem OkS.sub {ds es : List PyData} (h : OkS ds) (hm : ∀ s ∈ es, s ∈ ds) (hl : es.length ≤ 25) : OkS es := ⟨fun s hs => h.1 s (hm s hs), hl⟩
theorem cut_upto (xs : List V) (j : Nat) : cutV xs none (some (j : Int)) = xs.take j := by
  unfold cutV
  rw [HT.sIx_nat, HT.sIx_none, List.drop_zero, Nat.sub_zero]
  by_cases h : j ≤ xs.length
  · rw [Nat.min_eq_left h]
  · rw [Nat.min_eq_right (by omega), List.take_of_length_le (Nat.le_refl _), List.take_of_length_le (by omega)]
section
variable {P : Program} {w : World} {K : PySem.W.Frag} {mg : Str → Option Value} {base : Heap} {rel : Addr}
/-- without(index) -/
def spWo (C NS CB : Addr) : Sp := fun vs H Q E => ∃ (y : Addr) (v : V) (ds : List PyData) (d : PyData), vs = [.ref y, v] ∧ ScAt C H y ds ∧ OkS ds ∧ Da H v d ∧ okD 40 16000000 d ∧
  (idx d ds.length = none → ErrI E NS v H) ∧ (∀ i, idx d ds.length = some i → (∀ j, fc (ds.take i ++ ds.drop (i + 1)) = some j → ErrB E CB j H) ∧ (fc (ds.take i ++ ds.drop (i + 1)) = none → ∀ H' y', Ex H H' → ScAt C H' y' (ds.take i ++ ds.drop (i + 1)) → Q (.ref y') H'))
theorem ok_without {C NS CW CB : Addr} (S : ClsP K C) {fi : Addr} {fdi : FuncData} (T : Txt0 mg) (M_check_index : MetN P w K mg base 3 C "check_index" (spCI C NS)) (MK : MakN P w K mg base 7 "Script" C (spSI K C CW CB)) (F : Fun K "without" "Script.without" s_Script_without fi fdi) : FnN P w K mg base 9 fi fdi ["self", "index"] (spWo C NS CB) := by
  refine fn_mkN F sc_Script_without (fun vs H Q E h => ?_) (fun cdv A outer s H vs Q E hr hG h => ?_)
  · obtain ⟨y, v, ds, d, rfl, _⟩ := h
    rfl
  · obtain ⟨y, v, ds, d, rfl, hs, ok, hd, kd, qe, q⟩ := h
    refine ⟨_, (pss_cons (ps_expr (pe_mtN M_check_index (pv 0) hr hG (by decide) (fun σ => L2N.passAt (L2N.takes_of rfl rfl rfl rfl) σ) (pa_cons (pv 1) pa_nil)))
      (pss_one (ps_ret (pe_mkN MK hr hG (by decide) (fun σ => L2N.passAt (L2N.takes_of rfl rfl rfl rfl) σ) rfl (pa_cons (pe_op opAdd (pe_slice slAny (pe_fld (pv 0) (by rfl)) po_none (po_some (pv 1))) (pe_slice slAny (pe_fld (pv 0) (by rfl)) (po_some (pe_op opAdd (pv 1) pe_int)) po_none)) pa_nil))))), ?_⟩
    obtain ⟨d0, l, xs, hy, hl, hA⟩ := id hs
    refine ⟨_, rfl, y, d0, _, rfl, hy, by rfl, _, rfl, y, v, ds, d, rfl, hs, ok, hd, kd, qe, fun hi H1 e1 => ?_⟩
    obtain ⟨i, hi⟩ := Option.isSome_iff_exists.mp hi
    obtain ⟨q1, q2⟩ := q i hi
    obtain ⟨rfl, hin⟩ := idx_inv hi
    have := hd.int_inv
    subst this
    have hxl := hA.len
    refine ⟨_, rfl, y, C, d0, _, _, rfl, e1 _ _ hy, S.cl, S.n1, by rfl, ?_⟩
    refine ⟨_, rfl, _, rfl, .inl ⟨l, xs, rfl, sq_of (e1 _ _ hl), fun l2 n2 => ?_⟩⟩
    generalize hq2 : upd H1 l2 _ = H2
    obtain ⟨e2, h2⟩ := gen1 hq2 n2
    rw [cut_upto] at h2
    have e12 := e1.trans e2
    refine ⟨_, rfl, y, C, d0, _, _, rfl, e12 _ _ hy, S.cl, S.n1, by rfl, _, rfl, .inl ⟨_, _, rfl, rfl, _, rfl, .inl ⟨l, xs, rfl, sq_of (e12 _ _ hl), fun l3 n3 => ?_⟩⟩⟩
    generalize hq3 : upd H2 l3 _ = H3
    obtain ⟨e3, h3⟩ := gen1 hq3 n3
    rw [show (some ((i : Int) + 1)) = some ((i + 1 : Nat) : Int) from rfl, cut_from] at h3
    have h23 := e3 _ _ h2
    have lt := List.length_take (i := i) (l := xs)
    have ld := List.length_drop (i := i + 1) (l := xs)
    have o25 := ok.2
    refine .inr (.inr (.inl ⟨l2, l3, _, _, rfl, rfl, h23, h3, by rw [sizeLine_eq]; omega, fun l4 n4 => ?_⟩))
    generalize hq4 : upd H3 l4 _ = H4
    obtain ⟨e4, h4⟩ := gen1 hq4 n4
    have e14 := (e12.trans e3).trans e4
    have hA4 := DaAll.ex e14 _ hA
    have okW : OkS (ds.take i ++ ds.drop (i + 1)) := ok.sub (fun s hs => (List.mem_append.mp hs).elim List.mem_of_mem_take List.mem_of_mem_drop) (by rw [List.length_append, List.length_take, List.length_drop]; omega)
    refine fun y5 d5 m1 m2 m3 => mk_scE m1 m2 m3 (.inl h4) ((hA4.take i).app (hA4.drop (i + 1))) okW (fun j hj H' dd e' hd' => q1 j hj H' dd (e14.trans e') hd') fun hn H' e5 sc => ⟨rfl, ?_⟩
    exact q2 hn _ _ (e14.trans e5) sc
/-- with_step(index, step) -/
def spWs (C NS CW CB : Addr) : Sp := fun vs H Q E => ∃ (y : Addr) (v u : V) (ds : List PyData) (d g : PyData), vs = [.ref y, v, u] ∧ ScAt C H y ds ∧ OkS ds ∧ ds.length ≤ 24 ∧ Da H v d ∧ okD 40 16000000 d ∧ Da H u g ∧ okD 40 16000000 g ∧ (stepD g = true → okD 4 45000 g) ∧
  (idx d ds.length = none → ErrI E NS v H) ∧ (∀ i, idx d ds.length = some i → stepD g = false → ∀ H' dd, Ex H H' → H' dd = some (.xd [("place", .int 1)]) → E (.ref CW) (some dd) H') ∧
  (∀ i, idx d ds.length = some i → stepD g = true → (∀ j, fc (ds.take i ++ [g] ++ ds.drop (i + 1)) = some j → ErrB E CB j H) ∧ (fc (ds.take i ++ [g] ++ ds.drop (i + 1)) = none → ∀ H' y', Ex H H' → ScAt C H' y' (ds.take i ++ [g] ++ ds.drop (i + 1)) → Q (.ref y') H'))
theorem ok_with_step {C NS CW CB : Addr} (S : ClsP K C) {fi : Addr} {fdi : FuncData} (T : Txt0 mg) (c_Wrong : ErrF P w K mg base "Wrong" "place" CW) (c_is_step : CalG P w K mg base 6 "is_step" (spIs stepD)) (M_check_index : MetN P w K mg base 3 C "check_index" (spCI C NS)) (MK : MakN P w K mg base 7 "Script" C (spSI K C CW CB)) (F : Fun K "with_step" "Script.with_step" s_Script_with_step fi fdi) : FnN P w K mg base 9 fi fdi ["self", "index", "step"] (spWs C NS CW CB) := by
  refine fn_mkN F sc_Script_with_step (fun vs H Q E h => ?_) (fun cdv A outer s H vs Q E hr hG h => ?_)
  · obtain ⟨y, v, u, ds, d, g, rfl, _⟩ := h
    rfl
  · obtain ⟨y, v, u, ds, d, g, rfl, hs, ok, l24, hd, kd, hu, ku, kg, qe, qw, q⟩ := h
    refine ⟨_, (pss_cons (ps_expr (pe_mtN M_check_index (pv 0) hr hG (by decide) (fun σ => L2N.passAt (L2N.takes_of rfl rfl rfl rfl) σ) (pa_cons (pv 1) pa_nil)))
      (pss_cons (ps_if (pt_not (pt_val (pe_cG c_is_step hr hG (by decide) rfl (pa_cons (pv 2) pa_nil)))) (pss_one (ps_raiseF rfl c_Wrong hr (by decide) (L2N.takes_of rfl rfl rfl rfl) rfl (pa_cons pe_int pa_nil))) pss_nil)
      (pss_one (ps_ret (pe_mkN MK hr hG (by decide) (fun σ => L2N.passAt (L2N.takes_of rfl rfl rfl rfl) σ) rfl (pa_cons (pe_op opAdd (pe_op opAdd (pe_slice slAny (pe_fld (pv 0) (by rfl)) po_none (po_some (pv 1))) (pe_lst (pa_cons (pv 2) pa_nil))) (pe_slice slAny (pe_fld (pv 0) (by rfl)) (po_some (pe_op opAdd (pv 1) pe_int)) po_none)) pa_nil)))))), ?_⟩
    obtain ⟨d0, l, xs, hy, hl, hA⟩ := id hs
    refine ⟨_, rfl, y, d0, _, rfl, hy, by rfl, _, rfl, y, v, ds, d, rfl, hs, ok, hd, kd, qe, fun hi H1 e1 => ?_⟩
    obtain ⟨i, hi⟩ := Option.isSome_iff_exists.mp hi
    have qw' := qw i hi
    have q' := q i hi
    obtain ⟨rfl, hin⟩ := idx_inv hi
    have := hd.int_inv
    subst this
    have hxl := hA.len
    refine ⟨_, rfl, u, g, rfl, Da.ex e1 _ hu, ku, fun H1' e1' => ⟨_, rfl, ?_⟩⟩
    have e1 := e1.trans e1'
    cases hg : stepD g with
    | false =>
      refine iteT ?_
      refine ⟨by show 1 ≤ 1000; decide, fun a0 ha0 => mkF fun dx n1 n2 => ⟨rfl, dx, _, upd_same, by rw [upd_ne n2, upd_same], n1, ?_⟩⟩
      exact qw' hg _ dx (e1.trans (exF ha0 n1)) upd_same
    | true =>
      obtain ⟨q1, q2⟩ := q' hg
      refine iteF ?_
      refine ⟨_, rfl, y, C, d0, _, _, rfl, e1 _ _ hy, S.cl, S.n1, by rfl, ?_⟩
      refine ⟨_, rfl, _, rfl, .inl ⟨l, xs, rfl, sq_of (e1 _ _ hl), fun l2 n2 => ?_⟩⟩
      generalize hq2 : upd H1' l2 _ = H2
      obtain ⟨e2, h2⟩ := gen1 hq2 n2
      rw [cut_upto] at h2
      refine ⟨_, rfl, by show 1 ≤ sizeLine; decide, fun l3 n3 => ?_⟩
      generalize hq3 : upd H2 l3 _ = H3
      obtain ⟨e3, h3⟩ := gen1 hq3 n3
      have o25 := ok.2
      have lt := List.length_take (i := i) (l := xs)
      have ld := List.length_drop (i := i + 1) (l := xs)
      refine .inr (.inr (.inl ⟨l2, l3, _, _, rfl, rfl, e3 _ _ h2, h3, by rw [sizeLine_eq]; show (xs.take i).length + 1 ≤ _; omega, fun l4 n4 => ?_⟩))
      generalize hq4 : upd H3 l4 _ = H4
      obtain ⟨e4, h4⟩ := gen1 hq4 n4
      have e14 := ((e1.trans e2).trans e3).trans e4
      refine ⟨_, rfl, y, C, d0, _, _, rfl, e14 _ _ hy, S.cl, S.n1, by rfl, _, rfl, .inl ⟨_, _, rfl, rfl, _, rfl, .inl ⟨l, xs, rfl, sq_of (e14 _ _ hl), fun l5 n5 => ?_⟩⟩⟩
      generalize hq5 : upd H4 l5 _ = H5
      obtain ⟨e5, h5⟩ := gen1 hq5 n5
      rw [show (some ((i : Int) + 1)) = some ((i + 1 : Nat) : Int) from rfl, cut_from] at h5
      refine .inr (.inr (.inl ⟨l4, l5, _, _, rfl, rfl, e5 _ _ h4, h5, by rw [sizeLine_eq, List.length_append]; show (xs.take i).length + 1 + (xs.drop (i + 1)).length ≤ _; omega, fun l6 n6 => ?_⟩))
      generalize hq6 : upd H5 l6 _ = H6
      obtain ⟨e6, h6⟩ := gen1 hq6 n6
      have e16 := (e14.trans e5).trans e6
      have hA6 := DaAll.ex e16 _ hA
      have okW : OkS (ds.take i ++ [g] ++ ds.drop (i + 1)) := by
        refine ⟨fun s hs => ?_, ?_⟩
        · rcases List.mem_append.mp hs with hs | hs
          · rcases List.mem_append.mp hs with hs | hs
            · exact ok.1 s (List.mem_of_mem_take hs)
            · rw [List.mem_singleton.mp hs]
              exact ⟨hg, kg hg⟩
          · exact ok.1 s (List.mem_of_mem_drop hs)
        · rw [List.length_append, List.length_append, List.length_take, List.length_drop]
          show _ + 1 + _ ≤ 25
          omega
      refine fun y7 d7 m1 m2 m3 => mk_scE m1 m2 m3 (.inl h6) (((hA6.take i).app (.cons (Da.ex e16 _ hu) .nil)).app (hA6.drop (i + 1))) okW (fun j hj H' dd e' hd' => q1 j hj H' dd (e16.trans e') hd') fun hn H' e7 sc => ⟨rfl, ?_⟩
      exact q2 hn _ _ (e16.trans e7) sc
end
end Own

namespace Own
open PySem PySem.Spec PyProof.Rows L2 Evl
/-! ### x + y of two objects of one class with an own __add__ that may raise -/
def tAddN (C : Addr) (sp : Sp) (E : L2.St → XK) (ta tb : TE) : TE := fun σ H Q => ta σ H fun x H1 => tb σ H1 fun y H2 => ∃ a d fs a' d' fs', x = .ref a ∧ H2 a = some (.ins C d fs) ∧ y = .ref a' ∧ H2 a' = some (.ins C d' fs') ∧ sp [.ref a, .ref a'] H2 (fun v H' => (∃ r, v = .ref r) ∧ Q v H') (E σ)
section
variable {X : Cx} {j k : Nat} {sp : Sp} {C : Addr} {pos : Pos} {a b : Expr} {ta tb : TE} {E : L2.St → XK}
theorem pe_addN (c : MetN X.prog X.w X.K X.mg X.base k C "__add__" sp) (sf : PySem.W.selfFirst X.K C = true) (hr : Room j X.A) (hg0 : X.A.guards = some []) (hkp : k ≤ j) (hx : ∀ σ, PassesAt (L2N.CX X.prog X.w) X σ (E σ)) (ha : PE X a ta) (hb : PE X b tb) : PE X (.BinOp a .Add b pos) (tAddN C sp E ta tb) := by
  obtain ⟨f, fd, ps, F, M, bd⟩ := c.ex
  refine ⟨fun pins s σ H Q I h => ?_⟩
  refine wpAny_BinOp (binT ha hb I h fun v u s2 x y H2 I2 rx ry q => ?_)
  obtain ⟨a, d, fs, a', d', fs', rfl, hA, rfl, hA', q⟩ := q
  cases rx
  cases ry
  obtain ⟨mA, J, _⟩ := ins_get I2.hok hA
  obtain ⟨od, J, _⟩ := J.look
  obtain ⟨mA', J', _⟩ := ins_get I2.hok hA'
  obtain ⟨od', J', _⟩ := J'.look
  obtain ⟨m, hF⟩ := I2.fr
  refine PySem.W.binop_K (op := .Add) hF I2.ok.mod.kin J J'.type sf M.at_ M.fn ?_
  refine wpAny_mono (run_fnN (us := [.ref a, .ref a']) (vs := [.ref a, .ref a']) F (hr.mono hkp) hg0 bd (hx σ) I2 (.cons rfl (.cons rfl .nil)) q) (fun w s' z => ?_) (fun _ _ e => e)
  obtain ⟨z, H', I', rz, ⟨r, er⟩, q'⟩ := z
  subst er
  cases rz
  exact ⟨.ref r, H', I', rfl, q'⟩
end
end Own

namespace Own
open PySem PySem.Spec PyProof.Rows L2 Evl
abbrev s_Script_swapped : Stmt := inClass (top 37) 10
theorem sc_Script_swapped : FnScope ["self", "index", "ahead", "behind"] ["self", "index"] (defScope s_Script_swapped) := ⟨rfl, rfl, rfl, by decide +kernel, rfl, by decide +kernel, by decide +kernel⟩
abbrev s_Script___add__ : Stmt := inClass (top 37) 5
theorem sc_Script___add__ : FnScope ["self", "other"] ["self", "other"] (defScope s_Script___add__) := ⟨rfl, rfl, rfl, by decide +kernel, rfl, by decide +kernel, by decide +kernel⟩
section
variable {P : Program} {w : World} {K : PySem.W.Frag} {mg : Str → Option Value} {base : Heap} {rel : Addr}
/-- swapped(index) -/
def spSw (C NS CB : Addr) : Sp := fun vs H Q E => ∃ (y : Addr) (v : V) (ds : List PyData) (d : PyData), vs = [.ref y, v] ∧ ScAt C H y ds ∧ OkS ds ∧ Da H v d ∧ okD 40 16000000 d ∧
  (idx d ds.length = none → ErrI E NS v H) ∧ (∀ i, idx d ds.length = some i → i + 1 = ds.length → ErrI E NS (.int ((i : Int) + 1)) H) ∧
  (∀ i s t, idx d ds.length = some i → ds[i]? = some s → ds[i + 1]? = some t → (∀ j, fc (ds.take i ++ [t, s] ++ ds.drop (i + 2)) = some j → ErrB E CB j H) ∧ (fc (ds.take i ++ [t, s] ++ ds.drop (i + 2)) = none → ∀ H' y', Ex H H' → ScAt C H' y' (ds.take i ++ [t, s] ++ ds.drop (i + 2)) → Q (.ref y') H'))
theorem ok_swapped {C NS CW CB : Addr} (S : ClsP K C) {fi : Addr} {fdi : FuncData} (T : Txt0 mg) (M_check_index : MetN P w K mg base 3 C "check_index" (spCI C NS)) (MK : MakN P w K mg base 7 "Script" C (spSI K C CW CB)) (F : Fun K "swapped" "Script.swapped" s_Script_swapped fi fdi) : FnN P w K mg base 9 fi fdi ["self", "index"] (spSw C NS CB) := by
  refine fn_mkN F sc_Script_swapped (fun vs H Q E h => ?_) (fun cdv A outer s H vs Q E hr hG h => ?_)
  · obtain ⟨y, v, ds, d, rfl, _⟩ := h
    rfl
  · obtain ⟨y, v, ds, d, rfl, hs, ok, hd, kd, qe, ql, q⟩ := h
    refine ⟨_, (pss_cons (ps_expr (pe_mtN M_check_index (pv 0) hr hG (by decide) (fun σ => L2N.passAt (L2N.takes_of rfl rfl rfl rfl) σ) (pa_cons (pv 1) pa_nil)))
      (pss_cons (ps_expr (pe_mtN M_check_index (pv 0) hr hG (by decide) (fun σ => L2N.passAt (L2N.takes_of rfl rfl rfl rfl) σ) (pa_cons (pe_op opAdd (pv 1) pe_int) pa_nil)))
      (pss_cons (ps_par (i := 2) (j := 3) rfl sc_Script_swapped.nd rfl rfl (by decide) rfl rfl (pa_cons (pe_slice slAny (pe_fld (pv 0) (by rfl)) po_none (po_some (pv 1))) (pa_cons (pe_slice slAny (pe_fld (pv 0) (by rfl)) (po_some (pe_op opAdd (pv 1) pe_int)) po_none) pa_nil)) (by first | rfl | with_unfolding_all rfl | kernel_rfl))
      (pss_one (ps_ret (pe_mkN MK hr hG (by decide) (fun σ => L2N.passAt (L2N.takes_of rfl rfl rfl rfl) σ) rfl (pa_cons (pe_op opAdd (pe_op opAdd (pv 2) (pe_lst (pa_cons (pe_ix ixAny (pe_fld (pv 0) (by rfl)) (pe_op opAdd (pv 1) pe_int) (fun _ _ => rfl)) (pa_cons (pe_ix ixAny (pe_fld (pv 0) (by rfl)) (pv 1) (fun _ _ => rfl)) pa_nil)))) (pv 3)) pa_nil))))))), ?_⟩
    obtain ⟨d0, l, xs, hy, hl, hA⟩ := id hs
    refine ⟨_, rfl, y, d0, _, rfl, hy, by rfl, _, rfl, y, v, ds, d, rfl, hs, ok, hd, kd, qe, fun hi H1 e1 => ?_⟩
    obtain ⟨i, hi⟩ := Option.isSome_iff_exists.mp hi
    have ql' := ql i hi
    have q' := fun s t => q i s t hi
    obtain ⟨rfl, hin⟩ := idx_inv hi
    have := hd.int_inv
    subst this
    have hxl := hA.len
    have o25 := ok.2
    have ki : okD 40 16000000 (.int ((i : Int) + 1)) := (okD_int (r := (i : Int) + 1) (by omega) (by omega)).mono (by decide) (by decide)
    refine ⟨_, rfl, y, d0, _, rfl, e1 _ _ hy, by rfl, _, rfl, .inl ⟨_, _, rfl, rfl, y, _, ds, .int ((i : Int) + 1), rfl, hs.ex e1, ok, .int _, ki, fun hn => ?_, fun hi2 H2 e2 => ?_⟩⟩
    · have e : i + 1 = ds.length := by
        have z : (if 0 ≤ (i : Int) + 1 ∧ (i : Int) + 1 < (ds.length : Int) then some ((i : Int) + 1).toNat else none) = none := hn
        split at z
        · cases z
        · omega
      exact fun H' dd e' hd' => ql' e H' dd (e1.trans e') hd'
    · have lt2 : i + 1 < ds.length := by
        have z : (if 0 ≤ (i : Int) + 1 ∧ (i : Int) + 1 < (ds.length : Int) then some ((i : Int) + 1).toNat else none).isSome = true := hi2
        split at z
        · omega
        · cases z
      obtain ⟨s, hsx⟩ : ∃ s, ds[i]? = some s := ⟨_, List.getElem?_eq_getElem (by omega)⟩
      obtain ⟨t, htx⟩ : ∃ t, ds[i + 1]? = some t := ⟨_, List.getElem?_eq_getElem lt2⟩
      obtain ⟨q1, q2⟩ := q' s t hsx htx
      have e12 := e1.trans e2
      refine ⟨_, rfl, y, C, d0, _, _, rfl, e12 _ _ hy, S.cl, S.n1, by rfl, ?_⟩
      refine ⟨_, rfl, _, rfl, .inl ⟨l, xs, rfl, sq_of (e12 _ _ hl), fun l3 n3 => ?_⟩⟩
      generalize hq3 : upd H2 l3 _ = H3
      obtain ⟨e3, h3⟩ := gen1 hq3 n3
      rw [cut_upto] at h3
      have e13 := e12.trans e3
      refine ⟨_, rfl, y, C, d0, _, _, rfl, e13 _ _ hy, S.cl, S.n1, by rfl, _, rfl, .inl ⟨_, _, rfl, rfl, _, rfl, .inl ⟨l, xs, rfl, sq_of (e13 _ _ hl), fun l4 n4 => ?_⟩⟩⟩
      generalize hq4 : upd H3 l4 _ = H4
      obtain ⟨e4, h4⟩ := gen1 hq4 n4
      rw [show (some ((i : Int) + 2)) = some ((i + 2 : Nat) : Int) from rfl, cut_from] at h4
      have e14 := e13.trans e4
      refine ⟨_, _, rfl, ?_⟩
      have hA4 := DaAll.ex e14 _ hA
      obtain ⟨us, hus, dus⟩ := hA4.at2 hsx
      obtain ⟨ut, hut, dut⟩ := hA4.at2 htx
      refine ⟨_, rfl, _, rfl, y, C, d0, _, _, rfl, e14 _ _ hy, S.cl, S.n1, by rfl, _, rfl, .inl ⟨_, _, rfl, rfl, .inl ⟨l, xs, (i : Int) + 1, ut, rfl, rfl, sq_of (e14 _ _ hl), atI_nat (j := i + 1) hut, ?_⟩⟩⟩
      refine ⟨_, rfl, y, C, d0, _, _, rfl, e14 _ _ hy, S.cl, S.n1, by rfl, _, rfl, .inl ⟨l, xs, (i : Int), us, rfl, rfl, sq_of (e14 _ _ hl), atI_nat (j := i) hus, ?_⟩⟩
      refine ⟨by show 2 ≤ sizeLine; decide, fun l5 n5 => ?_⟩
      generalize hq5 : upd H4 l5 _ = H5
      obtain ⟨e5, h5⟩ := gen1 hq5 n5
      have lt := List.length_take (i := i) (l := xs)
      have ld := List.length_drop (i := i + 2) (l := xs)
      refine .inr (.inr (.inl ⟨l3, l5, _, _, rfl, rfl, (e4.trans e5) _ _ h3, h5, by rw [sizeLine_eq]; show (xs.take i).length + 2 ≤ _; omega, fun l6 n6 => ?_⟩))
      generalize hq6 : upd H5 l6 _ = H6
      obtain ⟨e6, h6⟩ := gen1 hq6 n6
      refine ⟨_, rfl, .inr (.inr (.inl ⟨l6, l4, _, _, rfl, rfl, h6, (e5.trans e6) _ _ h4, by rw [sizeLine_eq, List.length_append]; show (xs.take i).length + 2 + (xs.drop (i + 2)).length ≤ _; omega, fun l7 n7 => ?_⟩))⟩
      generalize hq7 : upd H6 l7 _ = H7
      obtain ⟨e7, h7⟩ := gen1 hq7 n7
      have e47 := (e5.trans e6).trans e7
      have e17 := e14.trans e47
      have hA7 := DaAll.ex e17 _ hA
      have okW : OkS (ds.take i ++ [t, s] ++ ds.drop (i + 2)) := by
        refine ok.sub (fun x hx => ?_) ?_
        · rcases List.mem_append.mp hx with hx | hx
          · rcases List.mem_append.mp hx with hx | hx
            · exact List.mem_of_mem_take hx
            · simp only [List.mem_cons, List.not_mem_nil, or_false] at hx
              rcases hx with rfl | rfl
              · exact List.mem_of_getElem? htx
              · exact List.mem_of_getElem? hsx
          · exact List.mem_of_mem_drop hx
        · rw [List.length_append, List.length_append, List.length_take, List.length_drop]
          show _ + 2 + _ ≤ 25
          omega
      refine fun y8 d8 m1 m2 m3 => mk_scE m1 m2 m3 (.inl h7) (((hA7.take i).app (.cons (Da.ex e47 _ dut) (.cons (Da.ex e47 _ dus) .nil))).app (hA7.drop (i + 2))) okW (fun j hj H' dd e' hd' => q1 j hj H' dd (e17.trans e') hd') fun hn H' e8 sc => ⟨rfl, ?_⟩
      exact q2 hn _ _ (e17.trans e8) sc
/-- one + other -/
def spAd (C CB : Addr) : Sp := fun vs H Q E => ∃ (y z : Addr) (ds es : List PyData), vs = [.ref y, .ref z] ∧ ScAt C H y ds ∧ ScAt C H z es ∧ OkS (ds ++ es) ∧ (∀ j, fc (ds ++ es) = some j → ErrB E CB j H) ∧ (fc (ds ++ es) = none → ∀ H' y', Ex H H' → ScAt C H' y' (ds ++ es) → Q (.ref y') H')
theorem ok_add {C CW CB : Addr} (S : ClsP K C) (SI : ClsI K C) {fi : Addr} {fdi : FuncData} (TI : TxtI K mg rel) (hC : mg "Script" = some (.ref C)) (MK : MakN P w K mg base 7 "Script" C (spSI K C CW CB)) (F : Fun K "__add__" "Script.__add__" s_Script___add__ fi fdi) : FnN P w K mg base 9 fi fdi ["self", "other"] (spAd C CB) := by
  refine fn_mkN F sc_Script___add__ (fun vs H Q E h => ?_) (fun cdv A outer s H vs Q E hr hG h => ?_)
  · obtain ⟨y, z, ds, es, rfl, _⟩ := h
    rfl
  · obtain ⟨y, z, ds, es, rfl, ⟨d, l, xs, hy, hl, hA⟩, ⟨d1, l1, xs1, hy1, hl1, hA1⟩, ok, q1, q2⟩ := h
    refine ⟨_, (pss_cons (ps_if (pt_not (pt_val (pe_callB call_isi (by rfl) TI.isinstance (by decide +kernel) (pa_cons (pv 1) (pa_cons (pe_glob (v := .ref C) rfl hC rfl) pa_nil))))) (pss_one ps_dead) pss_nil)
      (pss_one (ps_ret (pe_mkN MK hr hG (by decide) (fun σ => L2N.passAt (L2N.takes_of rfl rfl rfl rfl) σ) rfl (pa_cons (pe_op opAdd (pe_fld (pv 0) (by rfl)) (pe_fld (pv 1) (by rfl))) pa_nil))))), ?_⟩
    have hxl := hA.len
    have hxl1 := hA1.len
    have o25 := ok.2
    rw [List.length_append] at o25
    refine ⟨_, rfl, _, .ref C, _, .ref C, true, rfl, .own C, .base (.ins hy1 S.cl SI.ha SI.hn SI.htk SI.hm), by unfold PySem.W.kitOne; rw [if_pos (beq_self_eq_true _)], _, rfl, iteF ?_⟩
    refine ⟨_, rfl, y, C, d, _, _, rfl, hy, S.cl, S.n1, by rfl, _, rfl, z, C, d1, _, _, rfl, hy1, S.cl, S.n1, by rfl, ?_⟩
    refine .inr (.inr (.inl ⟨l, l1, _, _, rfl, rfl, hl, hl1, by rw [sizeLine_eq]; omega, fun l2 n2 => ?_⟩))
    generalize hq2 : upd H l2 _ = H2
    obtain ⟨e2, h2⟩ := gen1 hq2 n2
    refine fun y3 d3 m1 m2 m3 => mk_scE m1 m2 m3 (.inl h2) ((DaAll.ex e2 _ hA).app (DaAll.ex e2 _ hA1)) ok (fun j hj H' dd e' hd' => q1 j hj H' dd (e2.trans e') hd') fun hn H' e3 sc => ⟨rfl, ?_⟩
    exact q2 hn _ _ (e2.trans e3) sc
end
end Own

namespace Own
open PySem PySem.Spec PyProof.Rows L2 Evl
abbrev s_l_drawn : Stmt := top 62
theorem sc_l_drawn : FnScope ["_law_bag_here", "_law_world_here", "_law_steps", "_law_k"] ["_law_bag_here", "_law_world_here"] (defScope s_l_drawn) := ⟨rfl, rfl, rfl, by decide +kernel, rfl, by decide +kernel, by decide +kernel⟩
abbrev s_l_is_index : Stmt := top 68
theorem sc_l_is_index : FnScope ["_law_thing", "_law_many"] ["_law_thing", "_law_many"] (defScope s_l_is_index) := ⟨rfl, rfl, rfl, by decide +kernel, rfl, by decide +kernel, by decide +kernel⟩
theorem cl_no {z : Str} {es : List PyData} (h : z ≠ "close") : isCl (.tuple (.str z :: es)) = false := decide_eq_false h
section
variable {P : Program} {w : World} {K : PySem.W.Frag} {mg : Str → Option Value} {base : Heap} {rel : Addr}
def spDr : Sp := fun vs H Q _ => ∃ (b : Addr) (wv : V) (ns ts : List Str), vs = [.ref b, wv] ∧ BagAt H b ∧ WorldAt H wv ns ts ∧ WOk ns ts ∧
  ∀ (H' : Hp) (l : Addr) (ys : List V) (ds : List PyData), Ex H H' → H l = none → H' l = some (.lst ys) → DaAll H' ys ds → OkS ds → (∀ d ∈ ds.dropLast, isCl d = false) → ds.length ≤ 7 → Q (.ref l) H'
theorem ok_drawn (T : Txt0 mg) (D : Df K mg "_law_drawn" s_l_drawn) (c_l_take : CalG P w K mg base 1 "_law_take" spTake) (c_l_step : CalG P w K mg base 6 "_law_step" spSt30) (c_l_pick : CalG P w K mg base 5 "_law_pick" spPk30) : CalG P w K mg base 7 "_law_drawn" spDr := by
  refine cal_mk D sc_l_drawn (fun _ _ _ _ _ _ us hl => match us, hl with | [_, _], _ => rfl) (fun vs H Q E h => ?_) (fun f cdv A outer s H vs Q E hr hG h => ?_)
  · obtain ⟨b, wv, ns, ts, rfl, _⟩ := h
    rfl
  · obtain ⟨b, wv, ns, ts, rfl, hb, hwv, hw, q⟩ := h
    refine ⟨_, (pss_cons (ps_setLcO (ps_setLc (i := 2) (own := [("_law_k", 3)]) rfl sc_l_drawn.nd rfl rfl (sw_true rfl rfl rfl (by decide +kernel)) (pi_range1 rfl T.range (pa_cons (pe_cG c_l_take hr hG (by decide) rfl (pa_cons (pv 0) (pa_cons pe_int pa_nil))) pa_nil)) (blkOk_by (own := [("_law_k", 3)]) (N := ["_law_bag_here", "_law_world_here", "_law_steps", "_law_k"]) (sc := defScope s_l_drawn) (by first | decide +kernel | kernel_rfl)) (fun _ _ _ _ _ => pg_name (i := 3) sc_l_drawn.nd rfl (Or.inl rfl)) (fun _ _ _ _ _ => pts_nil) (fun _ _ _ _ _ => pe_cG c_l_step hr hG (by decide) rfl (pa_cons (pv 0) (pa_cons (pv 1) (pa_cons pe_int (pa_cons pe_int pa_nil)))))))
      (Evl.pss_cut (ps_if (pt_cmpR (opEq hr) (pe_cG c_l_take hr hG (by decide) rfl (pa_cons (pv 0) (pa_cons pe_int pa_nil))) pe_int (nomark _)) (pss_one (ps_expr (pe_bm PySem.F.plainAttrs_list PySem.F.slot_list_append PySem.F.type_list_append mt_append (pv 2) (pa_cons (pe_tup (pa_cons pe_str (pa_cons (pe_cG c_l_pick hr hG (by decide) rfl (pa_cons (pv 0) (pa_cons (pv 1) (pa_cons pe_int (pa_cons pe_bl pa_nil))))) pa_nil))) pa_nil)))) pss_nil)
      (pss_one (ps_ret (pv 2))))), ?_⟩
    refine ⟨_, rfl, b, 7, rfl, hb, by decide, by decide, fun H5 u u0 u1 e5 => ?_⟩
    obtain ⟨m, rfl⟩ : ∃ m : Nat, u = (m : Int) := ⟨u.toNat, by omega⟩
    refine ⟨(m : Int), rfl, by omega, by omega, ?_⟩
    refine lcG (walk_range (lo := 0) (n := (m : Int).toNat)) (by omega) trivial (fun _ _ _ _ => trivial) yFn_ex (fun i ys H' => ∃ ds : List PyData, DaAll H' ys ds ∧ ds.length = i ∧ ∀ d ∈ ds, (stepD d = true ∧ okD 4 45000 d) ∧ isCl d = false)
      (fun _ _ _ _ e ⟨ds, h1, h2, h3⟩ => ⟨ds, DaAll.tn e _ (nlDs_iff.mpr fun d hd => nl_step (h3 d hd).1.1) h1, h2, h3⟩) ⟨[], .nil, rfl, fun d hd => by cases hd⟩ ?_ ?_
    · rintro j x H6 H7 ys hj e6 ⟨rfl, rfl⟩ ⟨ds, hA, hal, hR⟩ N N0 kN kN0
      refine ⟨rfl, ?_⟩
      have e26 := e5.trans e6
      refine ⟨_, rfl, _, rfl, b, wv, ns, ts, 4, 2, rfl, hb.ex e26, hwv.ex e26, hw, by decide, by decide, by decide, by decide, fun H8 p z es e8 hp hst hok hz => ?_⟩
      refine kN _ _ e8 ⟨ds ++ [.tuple (.str z :: es)], (DaAll.ex e8 _ hA).app (.cons hp .nil), by rw [List.length_append, hal]; rfl, fun d hd => ?_⟩
      rcases List.mem_append.mp hd with hd | hd
      · exact hR d hd
      · rw [List.mem_singleton.mp hd]
        exact ⟨⟨hst, hok⟩, cl_no hz⟩
    · rintro l5 H6 ys hl5 e6 h6 _ ⟨ds, hA, hal, hR⟩
      have e26 := e5.trans e6
      have hln : H l5 = none := none_of e5 hl5
      have hl9 : ds.length ≤ 6 := by omega
      refine ⟨fun σ' H' => ∃ (x3 : Option V) (ys : List V) (ds : List PyData), σ' = [some (.ref b), some wv, some (.ref l5), x3] ∧ Ex H H' ∧ H' l5 = some (.lst ys) ∧ DaAll H' ys ds ∧ OkS ds ∧ (∀ d ∈ ds.dropLast, isCl d = false) ∧ ds.length ≤ 7, ?_, ?_⟩
      · refine ⟨_, rfl, b, 3, rfl, hb.ex e26, by decide, by decide, fun H7 r _ _ e7 => .inl ⟨rfl, _, rfl, ?_⟩⟩
        have h57 := e7 _ _ h6
        have hA7 := DaAll.ex e7 _ hA
        refine ite2 (fun _ => ?_) (fun _ => ⟨_, ys, ds, rfl, e26.trans e7, h57, hA7, ⟨fun s hs => (hR s hs).1, by omega⟩, fun d hd => (hR d ((List.dropLast_sublist ds).subset hd)).2, by omega⟩)
        refine ⟨_, rfl, .inl ⟨rfl, _, sq_of h57⟩, _, rfl, _, rfl, b, wv, ns, ts, 4, true, rfl, hb.ex (e26.trans e7), hwv.ex (e26.trans e7), hw, by decide, by decide, fun H8 p8 d8 e8 hd8 hk8 => ?_⟩
        obtain ⟨kb, ka, kok⟩ := hk8
        refine ⟨by show 2 ≤ sizeLine; decide, fun t9 n9 => ?_⟩
        generalize hq9 : upd H8 t9 _ = H9
        obtain ⟨e9, h9⟩ := gen1 hq9 n9
        have e79 := e8.trans e9
        have hyl := hA7.len
        refine ⟨l5, ys, _, rfl, rfl, e79 _ _ h57, by rw [sizeLine_eq]; omega, ?_⟩
        have te : TEx H9 (upd H9 l5 (.lst (ys ++ [.ref t9]))) := TEx.lst (e79 _ _ h57)
        have dc : Da H9 (.ref t9) (.tuple [.str "close", d8]) := .tup h9 (.cons (.str _) (.cons (Da.ex e9 _ hd8) .nil))
        have sc : stepD (.tuple [.str "close", d8]) = true := st_4 kb (ka rfl)
        have oc : okD 4 45000 (.tuple [.str "close", d8]) := okD_stp (z := "close") (by decide) (fun d hd => by rw [List.mem_singleton.mp hd]; exact kok.mono (by decide) (by decide)) (by show 1 ≤ 3; decide)
        refine ⟨_, ys ++ [.ref t9], ds ++ [.tuple [.str "close", d8]], rfl, Ex.mut ((e26.trans e7).trans e79) hln, upd_same, ?_, ⟨fun s hs => ?_, by rw [List.length_append]; show ds.length + 1 ≤ 25; omega⟩, fun d hd => ?_, by rw [List.length_append]; show ds.length + 1 ≤ 7; omega⟩
        · exact (DaAll.tn te _ (nlDs_iff.mpr fun d hd => nl_step (hR d hd).1.1) (DaAll.ex e79 _ hA7)).app (.cons (Da.tn te _ (nl_step sc) dc) .nil)
        · rcases List.mem_append.mp hs with hs | hs
          · exact (hR s hs).1
          · rw [List.mem_singleton.mp hs]
            exact ⟨sc, oc⟩
        · rw [List.dropLast_concat] at hd
          exact (hR d hd).2
      · rintro σ' H7 ⟨x3, ys, ds, rfl, e7, h57, hA7, ok, nc, l7⟩
        exact ⟨_, rfl, q _ l5 ys ds e7 hln h57 hA7 ok nc l7⟩
def spIi : Sp := fun vs H Q _ => ∃ (v : V) (d : PyData) (n : Nat), vs = [v, .int n] ∧ Da H v d ∧ okD 40 16000000 d ∧ ∀ H', Ex H H' → Q (.bl (idx d n).isSome) H'
theorem ok_l_is_index (D : Df K mg "_law_is_index" s_l_is_index) (c_l_is_count : CalG P w K mg base 1 "_law_is_count" (spIs natD)) : CalG P w K mg base 2 "_law_is_index" spIi := by
  refine cal_mk D sc_l_is_index (fun _ _ _ _ _ _ us hl => match us, hl with | [_, _], _ => rfl) (fun vs H Q E h => ?_) (fun f cdv A outer s H vs Q E hr hG h => ?_)
  · obtain ⟨v, d, n, rfl, _⟩ := h
    rfl
  · obtain ⟨v, d, n, rfl, hv, hok, q⟩ := h
    refine ⟨_, (pss_one (ps_ret (pe_and (pe_cG c_l_is_count hr hG (by decide) rfl (pa_cons (pv 0) pa_nil)) (pe_one (pe_cmpR opLt (pv 0) (pv 1) (nomark _)))))), ?_⟩
    refine ⟨_, rfl, v, d, rfl, hv, hok, fun H1 e1 => ⟨_, rfl, ?_⟩⟩
    cases hi : natD d with
    | false =>
      refine iteF ?_
      have e : (idx d n).isSome = false := by
        cases d with
        | int i =>
          have hi : decide (0 ≤ i) = false := hi
          show (if 0 ≤ i ∧ i < (n : Int) then some i.toNat else none).isSome = false
          rw [if_neg (fun h => by rw [decide_eq_true h.1] at hi; cases hi)]
          rfl
        | _ => rfl
      rw [← e]
      exact q _ e1
    | true =>
      obtain ⟨i, rfl⟩ : ∃ i, d = .int i := by cases d <;> first | exact ⟨_, rfl⟩ | cases hi
      have := hv.int_inv
      subst this
      have hi : decide (0 ≤ i) = true := hi
      have e : (idx (.int i) n).isSome = decide (i < (n : Int)) := by
        show (if 0 ≤ i ∧ i < (n : Int) then some i.toNat else none).isSome = _
        have h0 := of_decide_eq_true hi
        by_cases h2 : i < (n : Int) <;> simp [h0, h2]
      have z := q _ e1
      rw [e] at z
      exact iteT ⟨_, rfl, _, rfl, _, _, rfl, rfl, z⟩
end
end Own

namespace Own
open PySem PySem.Spec PyProof.Rows L2 Evl
abbrev s_l_made : Stmt := top 63
theorem sc_l_made : FnScope ["_law_steps", "_law_index_here"] ["_law_steps"] (defScope s_l_made) := ⟨rfl, rfl, rfl, by decide +kernel, rfl, by decide +kernel, by decide +kernel⟩
def madeD (ds : List PyData) : PyData := match fc ds with | some i => tlE 2 (.int (i : Int)) | none => .tuple [.str "told", .list ds]
section
variable {P : Program} {w : World} {K : PySem.W.Frag} {mg : Str → Option Value} {base : Heap} {rel : Addr}
def spMd : Sp := fun vs H Q _ => ∃ (l : Addr) (xs : List V) (ds : List PyData), vs = [.ref l] ∧ H l = some (.lst xs) ∧ DaAll H xs ds ∧ OkS ds ∧ ∀ (H' : Hp) (t : Addr), Ex H H' → Da H' (.ref t) (madeD ds) → Q (.ref t) H'
theorem ok_made (T : Txt0 mg) (D : Df K mg "_law_made" s_l_made) : CalG P w K mg base 1 "_law_made" spMd := by
  refine cal_mk D sc_l_made (fun _ _ _ _ _ _ us hl => match us, hl with | [_], _ => rfl) (fun vs H Q E h => ?_) (fun f cdv A outer s H vs Q E hr hG h => ?_)
  · obtain ⟨l, xs, ds, rfl, _⟩ := h
    rfl
  · obtain ⟨l, xs, ds, rfl, hl, hA, ok, q⟩ := h
    refine ⟨_, (pss_cons (ps_forO (ps_for PassesOwn.never rfl (pi_range1 rfl T.range (pa_cons (pe_op op_sub (pe_callB callLen (by rfl) T.len PySem.boot_len (pa_cons (pv 0) pa_nil)) pe_int) pa_nil)) (pg_name (i := 1) sc_l_made.nd rfl (Or.inl rfl))
        (pss_one (ps_if (pt_cmpR (opEq hr) (pe_ix ixAny (pe_ix ixAny (pv 0) (pv 1) (fun _ _ => rfl)) pe_int (fun _ _ => rfl)) pe_str (nomark _)) (pss_one (ps_ret (pe_tup (pa_cons pe_str (pa_cons (pv 1) pa_nil))))) pss_nil))))
      (pss_one (ps_ret (pe_tup (pa_cons pe_str (pa_cons (pv 0) pa_nil)))))), ?_⟩
    have hxl := hA.len
    have o25 := ok.2
    refine ⟨_, rfl, .inl ⟨l, xs, rfl, .inl (sq_of hl), _, _, rfl, rfl, (xs.length : Int) - 1, rfl, by omega, by omega, ?_⟩⟩
    refine frG (walk_range (lo := 0) (n := ((xs.length : Int) - 1).toNat)) (fun i σ H' => ∃ x1 : Option V, σ = [some (.ref l), x1] ∧ Ex H H' ∧ ∀ d ∈ ds.dropLast.take i, isCl d = false) ⟨_, rfl, Ex.refl _, fun d hd => by cases hd⟩ (fun _ _ _ _ _ => trivial) ?_ ?_
    · rintro i x σ H1 H2 hi ⟨x1, rfl, e1, hn⟩ ⟨rfl, rfl⟩
      have hi2 : i < xs.length := by omega
      have e0 : (0 + (i : Int)) = (i : Int) := Int.zero_add _
      obtain ⟨d, hd, hda⟩ := (DaAll.ex e1 _ hA).at (List.getElem?_eq_getElem hi2)
      obtain ⟨pz, z, zs, ez, hpz, hcl⟩ := stp_head hda (ok.1 d (List.mem_of_getElem? hd)).1
      have hdl : ds.dropLast[i]? = some d := by
        rw [List.dropLast_eq_take, List.getElem?_take_of_lt (by omega)]
        exact hd
      refine ⟨_, rfl, _, rfl, .inl ⟨l, xs, (0 + (i : Int)), .ref pz, rfl, rfl, sq_of (e1 _ _ hl), by rw [e0, ← ez]; exact atI_nat (List.getElem?_eq_getElem hi2), .inr (.inl ⟨pz, _, 0, .str z, rfl, rfl, st_of hpz, atI_nat (j := 0) rfl, .inl ⟨rfl, _, rfl, ?_⟩⟩)⟩⟩
      rw [str_dec, ← hcl]
      cases hc : isCl d with
      | true =>
        refine iteT ⟨_, rfl, by show 2 ≤ sizeLine; decide, fun t nt => ?_⟩
        have hfc : fc ds = some i := fc_some hn hdl hc
        refine q _ t (e1.trans (Ex.new nt)) ?_
        unfold madeD
        rw [hfc]
        have hd2 : PyData.int (i : Int) = .int (0 + (i : Int)) := by rw [e0]
        show Da _ _ (.tuple [.str "bad step", PyData.int (i : Int)])
        rw [hd2]
        exact .tup upd_same (.cons (.str _) (.cons (.int _) .nil))
      | false =>
        refine iteF ⟨_, rfl, e1, fun d' hd' => ?_⟩
        rw [List.take_add_one, hdl] at hd'
        rcases List.mem_append.mp hd' with hd' | hd'
        · exact hn d' hd'
        · rw [List.mem_singleton.mp (show d' ∈ [d] from hd')]
          exact hc
    · rintro σ H1 ⟨x1, rfl, e1, hn⟩
      have hfc : fc ds = none := fc_none fun d hd => hn d (by
        rw [List.take_of_length_le (by rw [List.length_dropLast]; omega)]
        exact hd)
      refine ⟨_, rfl, by show 2 ≤ sizeLine; decide, fun t nt => ?_⟩
      refine q _ t (e1.trans (Ex.new nt)) ?_
      unfold madeD
      rw [hfc]
      exact .tup upd_same (.cons (.str _) (.cons (.lst ((e1.trans (Ex.new nt)) _ _ hl) (DaAll.ex (e1.trans (Ex.new nt)) _ hA)) .nil))
end
end Own

namespace Own
open PySem PySem.Spec PyProof.Rows L2 Evl
theorem lists_fin {ds : List PyData} {zs : List Str} {ps : List PyData} {L : List (Nat × Nat)} (hok : OkS ds) (hz : ∀ z ∈ zs, isNm z = true) (lz : zs.length ≤ 60) (hp : ∀ d ∈ ps, patD d = true ∧ gD d = true) (lp : ps.length ≤ 60) (hL : ∀ q ∈ L, q.1 < 100 ∧ q.2 < 100) (lL : L.length ≤ 60) (n : Nat) (hn : n < 100) :
    fine (.list [.list ds, .list (zs.map .str), .list ps, .list (L.map fun q => .tuple [.int (q.1 : Int), .int (q.2 : Int)]), .int (n : Int)]) := by
  have i100 : ∀ k : Nat, k < 100 → fin 0 1921 (.int (k : Int)) := fun k hk => fin_int (by rw [Int.natAbs_natCast]; exact Nat.lt_of_le_of_lt (Nat.log2_le_self k) (by omega))
  refine (fin_list (n := 5) (W := 1700000) (m := 5) (fun d hd => ?_) (Nat.le_refl _)).fine (by decide) (by decide)
  simp only [List.mem_cons, List.not_mem_nil, or_false] at hd
  rcases hd with rfl | rfl | rfl | rfl | rfl
  · exact (fin_list (n := 4) (W := 64000) (m := 25) (fun d hd => fin_step (hok.1 d hd).1 (hok.1 d hd).2.1) hok.2).mono (by decide) (by decide)
  · refine (fin_list (n := 0) (W := 85) (m := 60) (fun d hd => ?_) (by rw [List.length_map]; exact lz)).mono (by decide) (by decide)
    obtain ⟨z, hz', rfl⟩ := List.mem_map.mp hd
    exact (fin_str (L := 8) (nm_ok (hz z hz')) (nm_len (hz z hz'))).mono (by decide) (by decide)
  · exact (fin_list (n := 1) (W := 1921) (m := 60) (fun d hd => fin_arg (w := "like") (.inr (.inr ⟨.inl rfl, (hp d hd).1⟩)) (hp d hd).2) lp).mono (by decide) (by decide)
  · refine (fin_list (n := 1) (W := 4000) (m := 60) (fun d hd => ?_) (by rw [List.length_map]; exact lL)).mono (by decide) (by decide)
    obtain ⟨q, hq, rfl⟩ := List.mem_map.mp hd
    refine (fin_tup (n := 0) (W := 1921) (m := 2) (fun d hd => ?_) (Nat.le_refl _)).mono (by decide) (by decide)
    simp only [List.mem_cons, List.not_mem_nil, or_false] at hd
    rcases hd with rfl | rfl
    · exact i100 _ (hL q hq).1
    · exact i100 _ (hL q hq).2
  · exact (i100 n hn).mono (by decide) (by decide)
theorem pat_wd {d : PyData} (h : patD d = true) : d.depth ≤ 5 ∧ wd d ≤ 100000 := by
  obtain ⟨a, b, c, rfl, h1, h2, h3⟩ := pat_inv h
  have sb : ∀ {d : PyData}, blankD d = true → ∃ z : Str, d = .str z ∧ z.length ≤ 8 := fun {d} h => by
    cases d with
    | str z =>
      have e : z = "" := of_decide_eq_true h
      exact ⟨z, rfl, by rw [e]; decide⟩
    | _ => cases h
  have sr : ∀ {d : PyData}, relD d = true → ∃ z : Str, d = .str z ∧ z.length ≤ 8 := fun {d} h => by
    cases d with
    | str z =>
      have h : isR3 z = true := h
      refine ⟨z, rfl, ?_⟩
      rcases isR_cases (isR_of h) with rfl | rfl | rfl | rfl <;> decide +kernel
    | _ => cases h
  have sn : ∀ {d : PyData}, nmD d = true → ∃ z : Str, d = .str z ∧ z.length ≤ 8 := fun {d} h => by
    cases d with
    | str z => exact ⟨z, rfl, nm_len h⟩
    | _ => cases h
  have sp : ∀ {d : PyData}, partD d = true → ∃ z : Str, d = .str z ∧ z.length ≤ 8 := fun {d} h => by
    unfold partD at h
    rw [Bool.or_eq_true] at h
    exact h.elim sb sn
  rw [Bool.or_eq_true] at h1
  obtain ⟨x, rfl, lx⟩ := h1.elim sb sr
  obtain ⟨y, rfl, ly⟩ := sp h2
  obtain ⟨z, rfl, lz⟩ := sp h3
  exact ⟨by show max 0 (max 0 (max 0 0)) + 1 ≤ 5; decide, by show 10 * x.length + 5 + 2 + (10 * y.length + 5 + 2 + (10 * z.length + 5 + 2 + 0)) + 3 ≤ 100000; omega⟩
theorem pick_ag {d : PyData} (k : pickD d = true) : agOk (wdP d) (agP d) ∧ (gD d = true → gD (agP d) = true) := by
  have bare : ∀ {d : PyData}, bareD d = true → bareP d = d ∧ agOk (wdP d) (agP d) ∧ (gD d = true → gD (agP d) = true) := fun {d} k => by
    rcases bare_inv k with rfl | ⟨w, b, rfl, k2⟩
    · exact ⟨rfl, .inl ⟨rfl, rfl⟩, fun _ => rfl⟩
    · have nb : w ≠ "book" := by rcases arg_word k2 with rfl | rfl | rfl | rfl <;> decide +kernel
      obtain ⟨e0, e1, e2⟩ := bareP_bare (.inr rfl : (PyData.tuple [.str w, b] = .tuple [.str w] ∧ b = .none) ∨ PyData.tuple [.str w, b] = .tuple [.str w, b]) nb
      exact ⟨e0, by rw [e1, e2]; exact .inr k2, fun g => by rw [e2]; exact gDs_iff.mp (show gDs [.str w, b] = true from g) b (by simp)⟩
  rcases pick_inv k with k | ⟨b, rfl, k⟩
  · exact (bare k).2
  · obtain ⟨e0, hb, hg⟩ := bare k
    have z : bareP (.tuple [.str "book", b]) = b := by
      show (if ("book" : Str) = "book" then b else .tuple [.str "book", b]) = b
      exact if_pos rfl
    have e3 : wdP (.tuple [.str "book", b]) = wdP b := by
      unfold wdP
      rw [z, e0]
    have e4 : agP (.tuple [.str "book", b]) = agP b := by
      unfold agP
      rw [z, e0]
    rw [e3, e4]
    exact ⟨hb, fun g => hg (gDs_iff.mp (show gDs [.str "book", b] = true from g) b (by simp))⟩
theorem flat_gD {ds : List PyData} (h : ∀ s ∈ ds, stepD s = true ∧ gD s = true) : ∀ p ∈ ds.flatMap pksD, gD p = true := fun p hp => by
  obtain ⟨s, hs, hp⟩ := List.mem_flatMap.mp hp
  obtain ⟨h1, h2⟩ := h s hs
  obtain ⟨z, es, rfl, _⟩ := step_of h1
  exact gDs_iff.mp (show gDs (.str z :: es) = true from h2) p (List.mem_cons_of_mem _ (List.mem_of_mem_take hp))
theorem nms_nm {ds : List PyData} (h : ∀ s ∈ ds, stepD s = true) {z : Str} (hz : z ∈ nmsD ds) : isNm z = true := by
  obtain ⟨p, hp, e⟩ := List.mem_filterMap.mp hz
  have ho := (pick_ag (flat_pick h p hp)).1
  unfold nmP at e
  split at e
  · next hw =>
    rcases ho with ⟨k, _⟩ | ⟨_, k⟩ | ⟨k, _⟩ | ⟨k | k, _⟩
    · rw [k] at hw; exact absurd hw (by decide +kernel)
    · split at e
      · next z' ha =>
        cases e
        rw [ha] at k
        exact k
      · cases e
    · rw [k] at hw; exact absurd hw (by decide +kernel)
    · rw [k] at hw; exact absurd hw (by decide +kernel)
    · rw [k] at hw; exact absurd hw (by decide +kernel)
  · cases e
theorem pas_gd {ds : List PyData} (h : ∀ s ∈ ds, stepD s = true ∧ gD s = true) {d : PyData} (hd : d ∈ pasD ds) : gD d = true := by
  obtain ⟨p, hp, e⟩ := List.mem_filterMap.mp hd
  have g := (pick_ag (flat_pick (fun s hs => (h s hs).1) p hp)).2 (flat_gD h p hp)
  unfold paP at e
  split at e
  · cases e
    exact g
  · cases e
theorem plc_lt {ds : List PyData} (h : ∀ s ∈ ds, stepD s = true) (hl : ds.length ≤ 25) {q : Nat × Nat} (hq : q ∈ plcD ds) : q.1 < 100 ∧ q.2 < 100 := by
  obtain ⟨i, hi, hq⟩ := List.mem_flatMap.mp hq
  obtain ⟨j, hj, rfl⟩ := List.mem_map.mp hq
  have hi := List.mem_range.mp hi
  have hj := List.mem_range.mp (List.mem_filter.mp hj).1
  have hs : ds[i]? = some ds[i] := List.getElem?_eq_getElem hi
  rw [List.getD_eq_getElem?_getD, hs] at hj
  have := (pks_len (h _ (List.mem_of_getElem? hs))).1
  have hj : j < (pksD ds[i]).length := hj
  exact ⟨by show i < 100; omega, by show j < 100; omega⟩
def plcDat (L : List (Nat × Nat)) : List PyData := L.map fun q => .tuple [.int (q.1 : Int), .int (q.2 : Int)]
theorem PlAt.da {H : Hp} : ∀ {zp : List (Addr × (Nat × Nat))}, (∀ q ∈ zp, H q.1 = some (.tup [.int (q.2.1 : Int), .int (q.2.2 : Int)])) → DaAll H (zp.map fun q => V.ref q.1) (plcDat (zp.map Prod.snd))
  | [], _ => .nil
  | q :: zp, h => .cons (.tup (h q List.mem_cons_self) (.cons (.int _) (.cons (.int _) .nil))) (PlAt.da fun x hx => h x (List.mem_cons_of_mem _ hx))
theorem PlAt.daall {H : Hp} {us : List V} {L : List (Nat × Nat)} (h : PlAt H us L) : DaAll H us (plcDat L) := by
  obtain ⟨zp, rfl, rfl, h3⟩ := h
  exact PlAt.da h3
def esOf (ds : List PyData) (ys : List Str) (pl : List PyData) (L : List (Nat × Nat)) : Nat → List PyData
  | 0 => ds
  | 1 => ys.map .str
  | 2 => pl
  | 3 => plcDat L
  | _ => []
theorem es_nl {ds : List PyData} {ys : List Str} {pl : List PyData} {L : List (Nat × Nat)} (h1 : ∀ s ∈ ds, stepD s = true) (h2 : ∀ d ∈ pl, patD d = true) : ∀ j, nlDs (esOf ds ys pl L j) = true
  | 0 => nlDs_iff.mpr fun d hd => nl_step (h1 d hd)
  | 1 => nlDs_iff.mpr fun d hd => by
    obtain ⟨z, _, rfl⟩ := List.mem_map.mp hd
    rfl
  | 2 => nlDs_iff.mpr fun d hd => nl_pat (h2 d hd)
  | 3 => nlDs_iff.mpr fun d hd => by
    obtain ⟨z, _, rfl⟩ := List.mem_map.mp hd
    rfl
  | _ + 4 => rfl
theorem refs_da {H : Hp} : ∀ {zp : List (Addr × PyData)}, (∀ q ∈ zp, Da H (.ref q.1) q.2) → DaAll H (zp.map fun q => V.ref q.1) (zp.map Prod.snd)
  | [], _ => .nil
  | q :: zp, h => .cons (h q List.mem_cons_self) (refs_da fun x hx => h x (List.mem_cons_of_mem _ hx))
theorem strs_daall {H : Hp} : ∀ zs : List Str, DaAll H (zs.map V.str) (zs.map PyData.str)
  | [] => .nil
  | z :: zs => .cons (.str z) (strs_daall zs)
abbrev s_l_asked_of : Stmt := top 64
theorem sc_l_asked_of : FnScope ["_law_script"] ["_law_script"] (defScope s_l_asked_of) := ⟨rfl, rfl, rfl, by decide +kernel, rfl, by decide +kernel, by decide +kernel⟩
section
variable {P : Program} {w : World} {K : PySem.W.Frag} {mg : Str → Option Value} {base : Heap} {rel : Addr}
/-- steps(), a new list -/
def spStN (C : Addr) : Sp := fun vs H Q _ => ∃ (y : Addr) (ds : List PyData), vs = [.ref y] ∧ ScAt C H y ds ∧ ∀ H' l us, Ex H H' → H l = none → H' l = some (.lst us) → DaAll H' us ds → Q (.ref l) H'
theorem ok_stepsN {C : Addr} (S : ClsP K C) {fi : Addr} {fdi : FuncData} (T : Txt0 mg) (F : Fun K "steps" "Script.steps" s_Script_steps fi fdi) : FnG P w K mg base 1 fi fdi ["self"] (spStN C) := by
  refine fn_mkQ F sc_Script_steps (fun vs H Q E h => ?_) (fun cdv A outer s H vs Q E hr hG h => ?_)
  · obtain ⟨y, ds, rfl, _⟩ := h
    rfl
  · obtain ⟨y, ds, rfl, ⟨d, l, xs, hy, hl, hA⟩, q⟩ := h
    refine ⟨_, (pss_one (ps_ret (pe_callTy call_list_of (by rfl) T.list (by decide +kernel) (pa_cons (pe_fld (pv 0) (by rfl)) pa_nil)))), ?_⟩
    refine ⟨_, rfl, y, C, d, _, _, rfl, hy, S.cl, S.n1, by rfl, l, xs, rfl, .inl (sq_of hl), fun l2 n2 => ?_⟩
    exact q _ l2 xs (Ex.new n2) n2 upd_same (DaAll.ex (Ex.new n2) _ hA)
/-- what is asked of a Script: its five answers -/
def askD (ds : List PyData) (ys : List Str) (pl : List PyData) : PyData := .list [.list (plcDat (plcD ds)), .list pl, .list (ys.map .str), .int (ds.length : Int), .list ds]
def spAo (C : Addr) : Sp := fun vs H Q _ => ∃ (y : Addr) (ds : List PyData), vs = [.ref y] ∧ ScAt C H y ds ∧ OkS ds ∧ ∀ (H' : Hp) (l : Addr) (ys : List Str) (pl : List PyData), Ex H H' → Srt (nmsD ds) ys → SrtD (pasD ds) pl → Da H' (.ref l) (askD ds ys pl) → Q (.ref l) H'
theorem ok_asked {C : Addr} (T : Txt0 mg) (D : Df K mg "_law_asked_of" s_l_asked_of) (M_steps : MetG P w K mg base 1 C "steps" (spStN C)) (M_names : MetG P w K mg base 4 C "names" (spNm C)) (M_patterns : MetG P w K mg base 4 C "patterns" (spPa C)) (M_places : MetG P w K mg base 3 C "places" (spPl C)) (M_len : MetG P w K mg base 1 C "__len__" (spLen C)) : CalG P w K mg base 6 "_law_asked_of" (spAo C) := by
  refine cal_mk D sc_l_asked_of (fun _ _ _ _ _ _ us hl => match us, hl with | [_], _ => rfl) (fun vs H Q E h => ?_) (fun f cdv A outer s H vs Q E hr hG h => ?_)
  · obtain ⟨y, ds, rfl, _⟩ := h
    rfl
  · obtain ⟨y, ds, rfl, hs, ok, q⟩ := h
    refine ⟨_, (pss_one (ps_ret (pe_lst (pa_cons (pe_mtG0 M_places (pv 0) hr hG (by decide)) (pa_cons (pe_mtG0 M_patterns (pv 0) hr hG (by decide)) (pa_cons (pe_mtG0 M_names (pv 0) hr hG (by decide)) (pa_cons (pe_callB (callLenO M_len hr hG (by decide)) (by rfl) T.len PySem.boot_len (pa_cons (pv 0) pa_nil)) (pa_cons (pe_mtG0 M_steps (pv 0) hr hG (by decide)) pa_nil)))))))), ?_⟩
    obtain ⟨d, l, xs, hy, hl, hA⟩ := id hs
    refine ⟨_, rfl, y, d, _, rfl, hy, rfl, y, ds, rfl, hs, ok, fun H1 l1 us1 e1 n1 h1 hP => ?_⟩
    refine ⟨_, rfl, y, d, _, rfl, e1 _ _ hy, rfl, y, ds, rfl, hs.ex e1, ok, fun H2 l2 zp e2 n2 h2 hZ sp => ?_⟩
    have e12 := e1.trans e2
    refine ⟨_, rfl, y, d, _, rfl, e12 _ _ hy, rfl, y, ds, rfl, hs.ex e12, ok, fun H3 l3 ys e3 n3 h3 sn => ?_⟩
    have e13 := e12.trans e3
    refine ⟨_, rfl, y, d, _, rfl, e13 _ _ hy, y, ds, rfl, hs.ex e13, ok, fun H4 e4 => ⟨⟨ds.length, rfl, by have := ok.2; omega⟩, ?_⟩⟩
    have e14 := e13.trans e4
    refine ⟨_, rfl, y, d, _, rfl, e14 _ _ hy, rfl, y, ds, rfl, hs.ex e14, fun H5 l5 us5 e5 n5 h5 hA5 => ?_⟩
    refine ⟨by show 5 ≤ sizeLine; decide, fun l6 n6 => ?_⟩
    generalize hq6 : upd H5 l6 _ = H6
    obtain ⟨e6, h6⟩ := gen1 hq6 n6
    have e16 := (e2.trans e3).trans ((e4.trans e5).trans e6)
    have e26 := e3.trans ((e4.trans e5).trans e6)
    have e36 := (e4.trans e5).trans e6
    refine q _ l6 ys (zp.map Prod.snd) (e1.trans e16) sn sp (.lst h6 ?_)
    exact .cons (.lst (e16 _ _ h1) (hP.tn (TEx.of e16)).daall) (.cons (.lst (e26 _ _ h2) (refs_da fun x hx => Da.ex e26 _ (hZ x hx))) (.cons (.lst (e36 _ _ h3) (strs_daall _)) (.cons (.int _) (.cons (.lst (e6 _ _ h5) (DaAll.ex e6 _ hA5)) .nil))))
end
end Own

namespace Own
open PySem PySem.Spec PyProof.Rows L2 Evl
abbrev s_l_index : Stmt := top 67
theorem sc_l_index : FnScope ["_law_bag_here", "_law_many", "_law_odd_here"] ["_law_bag_here", "_law_many"] (defScope s_l_index) := ⟨rfl, rfl, rfl, by decide +kernel, rfl, by decide +kernel, by decide +kernel⟩
section
variable {P : Program} {w : World} {K : PySem.W.Frag} {mg : Str → Option Value} {base : Heap} {rel : Addr}
def ixD (n : Nat) : List PyData := [.int (-1), .int (n : Int), .int ((n : Int) - 1), .bool true, .none, .str "0", .tuple [.int 0], .int (10 ^ 40), .bool false, .list [.int 0]]
def spIx : Sp := fun vs H Q _ => ∃ (b : Addr) (n : Nat), vs = [.ref b, .int n] ∧ BagAt H b ∧ n ≤ 30 ∧ ∀ (H' : Hp) (v : V) (d : PyData), Ex H H' → Da H' v d → (d ∈ ixD n ∨ ∃ i : Nat, i < n ∧ d = .int (i : Int)) → Q v H'
theorem ok_index (T : Txt0 mg) (D : Df K mg "_law_index" s_l_index) (c_l_take : CalG P w K mg base 1 "_law_take" spTake) : CalG P w K mg base 2 "_law_index" spIx := by
  refine cal_mk D sc_l_index (fun _ _ _ _ _ _ us hl => match us, hl with | [_, _], _ => rfl) (fun vs H Q E h => ?_) (fun f cdv A outer s H vs Q E hr hG h => ?_)
  · obtain ⟨b, n, rfl, _⟩ := h
    rfl
  · obtain ⟨b, n, rfl, hb, hn, q⟩ := h
    refine ⟨_, (pss_cons (ps_set (i := 2) sc_l_index.nd rfl (Or.inl rfl) (pe_lst (pa_cons (pe_un un_neg pe_int) (pa_cons (pv 1) (pa_cons (pe_op op_sub (pv 1) pe_int) (pa_cons pe_bl (pa_cons pe_non (pa_cons pe_str (pa_cons (pe_tup (pa_cons pe_int pa_nil)) (pa_cons (pe_op op_pow pe_int pe_int) (pa_cons pe_bl (pa_cons (pe_lst (pa_cons pe_int pa_nil)) pa_nil))))))))))))
      (pss_one (ps_ret (pe_ifExp (PW.pt (pw_or (pt_cmpR (opEq hr) (pv 1) pe_int (nomark _)) (pw_or1 (pt_cmpR (opEq hr) (pe_cG c_l_take hr hG (by decide) rfl (pa_cons (pv 0) (pa_cons pe_int pa_nil))) pe_int (nomark _))))) (pe_ix ixAny (pv 2) (pe_cG c_l_take hr hG (by decide) rfl (pa_cons (pv 0) (pa_cons pe_int pa_nil))) (fun _ _ => rfl)) (pe_cG c_l_take hr hG (by decide) rfl (pa_cons (pv 0) (pa_cons (pv 1) pa_nil))))))), ?_⟩
    refine ⟨_, rfl, ?_⟩
    refine ⟨_, rfl, _, rfl, _, _, rfl, rfl, ?_⟩
    refine ⟨by show 1 ≤ sizeLine; decide, fun t1 n1 => ?_⟩
    generalize hq1 : upd H t1 _ = H1
    obtain ⟨e1, h1⟩ := gen1 hq1 n1
    refine ⟨10, 40, rfl, rfl, ⟨by decide, by decide, by decide⟩, ?_⟩
    refine ⟨by show 1 ≤ sizeLine; decide, fun l2 n2 => ?_⟩
    generalize hq2 : upd H1 l2 _ = H2
    obtain ⟨e2, h2⟩ := gen1 hq2 n2
    refine ⟨by show 10 ≤ sizeLine; decide, fun l3 n3 => ?_⟩
    generalize hq3 : upd H2 l3 _ = H3
    obtain ⟨e3, h3⟩ := gen1 hq3 n3
    have e13 := (e1.trans e2).trans e3
    obtain ⟨XS, hX, dX⟩ : ∃ XS, H3 l3 = some (.lst XS) ∧ DaAll H3 XS (ixD n) :=
      ⟨_, h3, .cons (.int _) (.cons (.int _) (.cons (.int _) (.cons (.bl _) (.cons .non (.cons (.str _) (.cons (.tup ((e2.trans e3) _ _ h1) (.cons (.int _) .nil)) (.cons (.int _) (.cons (.bl _) (.cons (.lst (e3 _ _ h2) (.cons (.int _) .nil)) .nil)))))))))⟩
    have lX : XS.length = 10 := dX.len
    have pick : ∀ {H5 : Hp} {r : Int}, Ex H3 H5 → 0 ≤ r → r < 10 → ∃ x, atI XS r = some x ∧ Q x H5 := fun {H5 r} e5 r0 r1 => by
      obtain ⟨j, rfl⟩ : ∃ j : Nat, r = (j : Int) := ⟨r.toNat, by omega⟩
      have hj : j < XS.length := by omega
      obtain ⟨d, hd, hda⟩ := (DaAll.ex e5 _ dX).at (List.getElem?_eq_getElem hj)
      exact ⟨_, atI_nat (List.getElem?_eq_getElem hj), q _ _ d (e13.trans e5) hda (.inl (List.mem_of_getElem? hd))⟩
    refine ⟨_, rfl, .inl ⟨rfl, _, rfl, ite2 (fun _ => ?_) (fun hne => ?_)⟩⟩
    · refine ⟨_, rfl, _, rfl, b, 10, rfl, hb.ex e13, by decide, by decide, fun H5 r r0 r1 e5 => ?_⟩
      obtain ⟨x, hx, hq⟩ := pick e5 r0 r1
      exact .inl ⟨l3, _, r, x, rfl, rfl, sq_of (e5 _ _ hX), hx, hq⟩
    · have n0 : 0 < n := by
        rw [int_dec] at hne
        have : ¬ (n : Int) = 0 := fun z => hne (decide_eq_true z)
        omega
      refine ⟨_, rfl, b, 3, rfl, hb.ex e13, by decide, by decide, fun H4 r _ _ e4 => .inl ⟨rfl, _, rfl, ite2 (fun _ => ?_) (fun _ => ?_)⟩⟩
      · refine ⟨_, rfl, _, rfl, b, 10, rfl, hb.ex (e13.trans e4), by decide, by decide, fun H5 r r0 r1 e5 => ?_⟩
        obtain ⟨x, hx, hq⟩ := pick (e4.trans e5) r0 r1
        exact .inl ⟨l3, _, r, x, rfl, rfl, sq_of ((e4.trans e5) _ _ hX), hx, hq⟩
      · refine ⟨_, rfl, _, rfl, b, _, rfl, hb.ex (e13.trans e4), by omega, by omega, fun H5 r r0 r1 e5 => ?_⟩
        obtain ⟨j, rfl⟩ : ∃ j : Nat, r = (j : Int) := ⟨r.toNat, by omega⟩
        exact q _ _ (.int (j : Int)) ((e13.trans e4).trans e5) (.int _) (.inr ⟨j, by omega, rfl⟩)
end
end Own

namespace Own
open PySem PySem.Spec PyProof.Rows L2 Evl
/-! ### the law's own lists while it reads the picks -/
structure D3 (H0 : Hp) (ln lp lq : Addr) : Prop where
  n : H0 ln = none
  p : H0 lp = none
  q : H0 lq = none
  np : ln ≠ lp
  nq : ln ≠ lq
  pq : lp ≠ lq
structure TInv (H0 : Hp) (ln lp lq : Addr) (m : Nat) (A : List Str) (B : List PyData) (L : List (Nat × Nat)) (H : Hp) : Prop where
  ex : Ex H0 H
  n : H ln = some (.lst (A.map V.str))
  p : ∃ zp : List (Addr × PyData), H lp = some (.lst (zp.map fun q => V.ref q.1)) ∧ zp.map Prod.snd = B ∧ ∀ q ∈ zp, Da H (.ref q.1) q.2
  q : ∃ us, H lq = some (.lst us) ∧ PlAt H us L
  la : A.length ≤ m
  lb : B.length ≤ m
  ll : L.length ≤ m
  pt : ∀ d ∈ B, patD d = true
section
variable {H0 H H' : Hp} {ln lp lq : Addr} {m : Nat} {A : List Str} {B : List PyData} {L : List (Nat × Nat)}
theorem TInv.on (e : Ex H H') (t : TInv H0 ln lp lq m A B L H) : TInv H0 ln lp lq m A B L H' := by
  obtain ⟨zp, p1, p2, p3⟩ := t.p
  obtain ⟨us, q1, q2⟩ := t.q
  exact ⟨t.ex.trans e, e _ _ t.n, ⟨zp, e _ _ p1, p2, fun q hq => Da.ex e _ (p3 q hq)⟩, ⟨us, e _ _ q1, q2.tn (TEx.of e)⟩, t.la, t.lb, t.ll, t.pt⟩
theorem TInv.wk {m' : Nat} (h : m ≤ m') (t : TInv H0 ln lp lq m A B L H) : TInv H0 ln lp lq m' A B L H := ⟨t.ex, t.n, t.p, t.q, Nat.le_trans t.la h, Nat.le_trans t.lb h, Nat.le_trans t.ll h, t.pt⟩
theorem TInv.up (t : TInv H0 ln lp lq m A B L H) : TInv H0 ln lp lq (m + 1) A B L H := ⟨t.ex, t.n, t.p, t.q, Nat.le_succ_of_le t.la, Nat.le_succ_of_le t.lb, Nat.le_succ_of_le t.ll, t.pt⟩
theorem TInv.addN (D : D3 H0 ln lp lq) (t : TInv H0 ln lp lq m A B L H) (ha : A.length + 1 ≤ m) (z : Str) : TInv H0 ln lp lq m (A ++ [z]) B L (upd H ln (.lst (A.map V.str ++ [.str z]))) := by
  obtain ⟨zp, p1, p2, p3⟩ := t.p
  obtain ⟨us, q1, q2⟩ := t.q
  have te : TEx H (upd H ln (.lst (A.map V.str ++ [.str z]))) := TEx.lst t.n
  refine ⟨Ex.mut t.ex D.n, by rw [upd_same, List.map_append]; rfl, ⟨zp, by rw [upd_ne D.np.symm]; exact p1, p2, fun q hq => Da.tn te _ (nl_pat (t.pt _ (p2 ▸ List.mem_map.mpr ⟨q, hq, rfl⟩))) (p3 q hq)⟩, ⟨us, by rw [upd_ne D.nq.symm]; exact q1, q2.tn te⟩, by rw [List.length_append]; exact ha, t.lb, t.ll, t.pt⟩
theorem TInv.addP (D : D3 H0 ln lp lq) (t : TInv H0 ln lp lq m A B L H) (hb : B.length + 1 ≤ m) {a : Addr} {d : PyData} (hd : Da H (.ref a) d) (kd : patD d = true) : ∃ us, H lp = some (.lst us) ∧ us.length ≤ m ∧ TInv H0 ln lp lq m A (B ++ [d]) L (upd H lp (.lst (us ++ [.ref a]))) := by
  obtain ⟨zp, p1, p2, p3⟩ := t.p
  obtain ⟨us, q1, q2⟩ := t.q
  have te : TEx H (upd H lp (.lst ((zp.map fun q => V.ref q.1) ++ [.ref a]))) := TEx.lst p1
  refine ⟨_, p1, by rw [List.length_map]; have z := congrArg List.length p2; rw [List.length_map] at z; have := t.lb; omega, Ex.mut t.ex D.p, by rw [upd_ne D.np]; exact t.n, ⟨zp ++ [(a, d)], by rw [upd_same, List.map_append]; rfl, by rw [List.map_append, p2]; rfl, fun q hq => ?_⟩, ⟨us, by rw [upd_ne D.pq.symm]; exact q1, q2.tn te⟩, t.la, by rw [List.length_append]; exact hb, t.ll, fun x hx => ?_⟩
  · rcases List.mem_append.mp hq with hq | hq
    · exact Da.tn te _ (nl_pat (t.pt _ (p2 ▸ List.mem_map.mpr ⟨q, hq, rfl⟩))) (p3 q hq)
    · rw [List.mem_singleton.mp hq]
      exact Da.tn te _ (nl_pat kd) hd
  · rcases List.mem_append.mp hx with hx | hx
    · exact t.pt x hx
    · rw [List.mem_singleton.mp hx]
      exact kd
theorem TInv.addQ (D : D3 H0 ln lp lq) (t : TInv H0 ln lp lq m A B L H) (hl : L.length + 1 ≤ m) {a i j : Nat} (ha : H a = some (.tup [.int (i : Int), .int (j : Int)])) : ∃ us, H lq = some (.lst us) ∧ us.length ≤ m ∧ TInv H0 ln lp lq m A B (L ++ [(i, j)]) (upd H lq (.lst (us ++ [.ref a]))) := by
  obtain ⟨zp, p1, p2, p3⟩ := t.p
  obtain ⟨us, q1, q2⟩ := t.q
  have te : TEx H (upd H lq (.lst (us ++ [.ref a]))) := TEx.lst q1
  refine ⟨us, q1, by rw [q2.len]; exact t.ll, Ex.mut t.ex D.q, by rw [upd_ne D.nq]; exact t.n, ⟨zp, by rw [upd_ne D.pq]; exact p1, p2, fun q hq => Da.tn te _ (nl_pat (t.pt _ (p2 ▸ List.mem_map.mpr ⟨q, hq, rfl⟩))) (p3 q hq)⟩, ⟨_, upd_same, PlAt.snoc (q2.tn te) (te _ _ ha)⟩, t.la, t.lb, by rw [List.length_append]; exact hl, t.pt⟩
end
abbrev s_l_tells : Stmt := top 65
theorem sc_l_tells : FnScope ["_law_due", "_law_names_here", "_law_shapes", "_law_places", "_law_index_here", "_law_number", "_law_pick_here", "_law_one"] ["_law_due"] (defScope s_l_tells) := ⟨rfl, rfl, rfl, by decide +kernel, rfl, by decide +kernel, by decide +kernel⟩
theorem upd_id {H : Hp} {a : Addr} {o : HO} (h : H a = some o) : upd H a o = H := funext fun b => by
  unfold upd
  split
  · next e => rw [e, h]
  · rfl
/-- what is to be told: a refusal, or steps -/
def toldD (ds : List PyData) : PyData := .tuple [.str "told", .list ds]
theorem madeD_cases (ds : List PyData) : (∃ i, fc ds = some i ∧ madeD ds = tlE 2 (.int (i : Int))) ∨ (fc ds = none ∧ madeD ds = toldD ds) := by
  unfold madeD
  cases h : fc ds with
  | none => exact .inr ⟨rfl, rfl⟩
  | some i => exact .inl ⟨i, rfl, rfl⟩
/-- what is due, and what is told of it -/
def DueOk (D : PyData) : Prop := (∃ k g, (k = 2 ∨ k = 3 ∨ k = 4) ∧ D = tlE k g ∧ fine (tlE k g)) ∨ ∃ L, D = toldD L ∧ OkS L ∧ L.length ≤ 15
def DueR (D R : PyData) : Prop := (∃ k g, (k = 2 ∨ k = 3 ∨ k = 4) ∧ D = tlE k g ∧ R = tlE k g) ∨ ∃ L ys pl, D = toldD L ∧ Srt (nmsD L) ys ∧ SrtD (pasD L) pl ∧ R = .tuple [.str "told", askD L ys pl]
section
variable {P : Program} {w : World} {K : PySem.W.Frag} {mg : Str → Option Value} {base : Heap} {rel : Addr}
/-- where what is told lies -/
def Aw (A : Addr → Prop) (H H' : Hp) (a : Addr) : Prop := A a ∨ H a = none ∨ ∃ ys, H' a = some (.tup ys)
theorem nl_aw {A : Addr → Prop} {H H' : Hp} {v : V} {d : PyData} (k : nlD d = true) (h : Da H' v d) : DaA (Aw A H H') H' v d :=
  DaA.move (fun a o _ e => e) (fun a h => by
    rcases h with h | h
    · exact absurd h (by simp)
    · exact .inr (.inr h)) _ (nl_daa (H := fun _ => some (.tup [])) d k h)
theorem nls_aw {A : Addr → Prop} {H H' : Hp} : ∀ {ds : List PyData} {vs : List V}, nlDs ds = true → DaAll H' vs ds → DaAA (Aw A H H') H' vs ds
  | [], _, _, .nil => .nil
  | d :: ds, _, k, .cons h1 h2 => by
    have k2 := nlDs_iff.mp k
    exact .cons (nl_aw (k2 d List.mem_cons_self) h1) (nls_aw (nlDs_iff.mpr fun x hx => k2 x (List.mem_cons_of_mem _ hx)) h2)
def spTl : Sp := fun vs H Q _ => ∃ (t : Addr) (D : PyData) (A : Addr → Prop), vs = [.ref t] ∧ DaA A H (.ref t) D ∧ DueOk D ∧ ∀ (H' : Hp) (t' : Addr) (R : PyData), Ex H H' → DueR D R → DaA (Aw A H H') H' (.ref t') R → Q (.ref t') H'
theorem ok_tells (T : Txt0 mg) (TZ : TxtZ mg) (D : Df K mg "_law_tells" s_l_tells) (c_l_picks : CalG P w K mg base 1 "_law_picks" (spPk1 K)) (c_l_bare : CalG P w K mg base 1 "_law_bare" (spV fBare)) : CalG P w K mg base 3 "_law_tells" spTl := by
  have T_enumerate := TZ.enumerate
  refine cal_mk D sc_l_tells (fun _ _ _ _ _ _ us hl => match us, hl with | [_], _ => rfl) (fun vs H Q E h => ?_) (fun f cdv A outer s H vs Q E hr hG h => ?_)
  · obtain ⟨t, DD, A, rfl, _⟩ := h
    rfl
  · obtain ⟨y, DD, AA, rfl, hDA, h, q⟩ := h
    have hDD := DaA.da _ hDA
    refine ⟨_, (pss_cons (ps_if (pt_cmpR (opNe hr) (pe_ix ixAny (pv 0) pe_int (fun _ _ => rfl)) pe_str (nomark _)) (pss_one (ps_ret (pv 0))) pss_nil)
      (pss_cons (ps_par3 (i := 1) (j := 2) (l := 3) rfl sc_l_tells.nd rfl rfl rfl (by decide) (by decide) (by decide) rfl rfl rfl (pa_cons (pe_lst pa_nil) (pa_cons (pe_lst pa_nil) (pa_cons (pe_lst pa_nil) pa_nil))) (by first | rfl | with_unfolding_all rfl | kernel_rfl))
      (pss_cons (ps_forO (ps_for PassesOwn.never rfl (pi_range1 rfl T.range (pa_cons (pe_callB callLen (by rfl) T.len PySem.boot_len (pa_cons (pe_ix ixAny (pv 0) pe_int (fun _ _ => rfl)) pa_nil)) pa_nil)) (pg_name (i := 4) sc_l_tells.nd rfl (Or.inl rfl))
        (pss_one (ps_forO (ps_for PassesOwn.never rfl (pi_enum (by rfl) T_enumerate (pa_cons (pe_cG c_l_picks hr hG (by decide) rfl (pa_cons (pe_ix ixAny (pe_ix ixAny (pv 0) pe_int (fun _ _ => rfl)) (pv 4) (fun _ _ => rfl)) pa_nil)) pa_nil)) (pg_tup rfl (pgs_cons (pg_name (i := 5) sc_l_tells.nd rfl (Or.inl rfl)) (pgs_cons (pg_name (i := 6) sc_l_tells.nd rfl (Or.inl rfl)) pgs_nil)))
        (pss_cons (ps_set (i := 7) sc_l_tells.nd rfl (Or.inl rfl) (pe_cG c_l_bare hr hG (by decide) rfl (pa_cons (pv 6) pa_nil)))
      (Evl.pss_cut (ps_expr (pe_bm PySem.F.plainAttrs_list PySem.F.slot_list_extend PySem.F.type_list_extend mt_extend (pv 1) (pa_cons (pe_ifExp (pt_cmpR (opEq hr) (pe_ix ixAny (pv 7) pe_int (fun _ _ => rfl)) pe_str (nomark _)) (pe_lst (pa_cons (pe_ix ixAny (pv 7) pe_int (fun _ _ => rfl)) pa_nil)) (pe_lst pa_nil)) pa_nil)))
      (Evl.pss_cut (ps_expr (pe_bm PySem.F.plainAttrs_list PySem.F.slot_list_extend PySem.F.type_list_extend mt_extend (pv 2) (pa_cons (pe_ifExp (pt_cmpR opIn (pe_ix ixAny (pv 7) pe_int (fun _ _ => rfl)) (pe_tup (pa_cons pe_str (pa_cons pe_str pa_nil))) rfl) (pe_lst (pa_cons (pe_ix ixAny (pv 7) pe_int (fun _ _ => rfl)) pa_nil)) (pe_lst pa_nil)) pa_nil)))
      (pss_one (ps_expr (pe_bm PySem.F.plainAttrs_list PySem.F.slot_list_extend PySem.F.type_list_extend mt_extend (pv 3) (pa_cons (pe_ifExp (pt_cmpR (opEq hr) (pe_ix ixAny (pv 7) pe_int (fun _ _ => rfl)) pe_str (nomark _)) (pe_lst (pa_cons (pe_tup (pa_cons (pv 4) (pa_cons (pv 5) pa_nil))) pa_nil)) (pe_lst pa_nil)) pa_nil))))))))))))
      (pss_one (ps_ret (pe_tup (pa_cons pe_str (pa_cons (pe_lst (pa_cons (pv 3) (pa_cons (pe_callB (cr_sortDr rfl hr) (by rfl) TZ.sorted (by decide +kernel) (pa_cons (pe_callTy (cr_setDr rfl hr) (by rfl) TZ.set (by decide +kernel) (pa_cons (pv 2) pa_nil)) pa_nil)) (pa_cons (pe_callB (cr_sortX rfl) (by rfl) TZ.sorted (by decide +kernel) (pa_cons (pe_callTy (cr_setX rfl) (by rfl) TZ.set (by decide +kernel) (pa_cons (pv 1) pa_nil)) pa_nil)) (pa_cons (pe_callB callLen (by rfl) T.len PySem.boot_len (pa_cons (pe_ix ixAny (pv 0) pe_int (fun _ _ => rfl)) pa_nil)) (pa_cons (pe_ix ixAny (pv 0) pe_int (fun _ _ => rfl)) pa_nil)))))) pa_nil)))))))), ?_⟩
    rcases h with ⟨k, g, hk, rfl, _⟩ | ⟨ds, rfl, hok, _⟩
    · obtain ⟨p, xs, e, hp, hA⟩ := hDD.tup_inv
      cases e
      obtain ⟨x, y2, a, c, rfl, e, ha, hc⟩ := two hA rfl
      cases e
      have := ha.str_inv
      subst this
      refine ⟨_, rfl, .inr (.inl ⟨y, _, 0, _, rfl, rfl, st_of hp, atI_nat (j := 0) rfl, .inl ⟨rfl, _, rfl, ?_⟩⟩)⟩
      rcases hk with rfl | rfl | rfl <;> exact iteTb (by decide +kernel) ⟨_, rfl, q _ _ _ (Ex.refl _) (.inl ⟨_, _, by simp, rfl, rfl⟩) (DaA.move (fun a o _ h => h) (fun a h => .inl h) _ hDA)⟩
    obtain ⟨p, xs, e, hp, hAA⟩ := hDD.tup_inv
    cases e
    obtain ⟨x, y2, a, c, rfl, e, ha, hc⟩ := two hAA rfl
    cases e
    have := ha.str_inv
    subst this
    obtain ⟨ps, us, rfl, hps, hA⟩ := hc.lst_inv
    have aps : AA ps := by
      cases hDA with
      | tup a1 a2 a3 =>
        rw [hp] at a2
        cases a2
        cases a3 with
        | cons b1 b2 => cases b2 with
          | cons c1 c2 => cases c1 with
            | lst d1 _ _ => exact d1
    refine ⟨_, rfl, .inr (.inl ⟨y, _, 0, _, rfl, rfl, st_of hp, atI_nat (j := 0) rfl, .inl ⟨rfl, _, rfl, ?_⟩⟩)⟩
    refine iteFb (by decide +kernel) ?_
    have hul := hA.len
    have hn25 := hok.2
    have hst : ∀ s ∈ ds, stepD s = true := fun s hs => (hok.1 s hs).1
    refine ⟨by show 0 ≤ sizeLine; decide, fun ln n1 => ?_⟩
    generalize hq1 : upd H ln _ = H1
    obtain ⟨e1, h1⟩ := gen1 hq1 n1
    refine ⟨by show 0 ≤ sizeLine; decide, fun lp n2 => ?_⟩
    generalize hq2 : upd H1 lp _ = H2
    obtain ⟨e2, h2⟩ := gen1 hq2 n2
    refine ⟨by show 0 ≤ sizeLine; decide, fun lq n3 => ?_⟩
    generalize hq3 : upd H2 lq _ = H3
    obtain ⟨e3, h3⟩ := gen1 hq3 n3
    have e03 := (e1.trans e2).trans e3
    have D3h : D3 H ln lp lq := ⟨n1, none_of e1 n2, none_of (e1.trans e2) n3, fun e => (by rw [← e, h1] at n2; cases n2), fun e => (by rw [← e, e2 _ _ h1] at n3; cases n3), fun e => (by rw [← e, h2] at n3; cases n3)⟩
    refine ⟨_, _, _, rfl, ?_⟩
    refine ⟨_, rfl, .inr (.inl ⟨y, _, 1, _, rfl, rfl, st_of (e03 _ _ hp), atI_nat (j := 1) rfl, .inl ⟨ps, us, rfl, .inl (sq_of (e03 _ _ hps)), (us.length : Int), rfl, by omega, by omega, ?_⟩⟩)⟩
    refine frG (walk_range (lo := 0) (n := (us.length : Int).toNat)) (fun i σ H' => ∃ x4 x5 x6 x7 : Option V, σ = [some (.ref y), some (.ref ln), some (.ref lp), some (.ref lq), x4, x5, x6, x7] ∧
      TInv H ln lp lq (2 * i) (((ds.take i).flatMap pksD).filterMap nmP) (((ds.take i).flatMap pksD).filterMap paP) ((List.range i).flatMap fun i => plcS i (pksD (ds.getD i .none))) H')
      ⟨_, _, _, _, rfl, ⟨e03, (e2.trans e3) _ _ h1, ⟨[], e3 _ _ h2, rfl, fun q hq => by cases hq⟩, ⟨[], h3, [], rfl, rfl, fun q hq => by cases hq⟩, Nat.zero_le _, Nat.zero_le _, Nat.zero_le _, fun d hd => by cases hd⟩⟩ (fun _ _ _ _ _ => trivial) ?_ ?_
    · rintro i x σ H4 H5 hi ⟨x4, x5, x6, x7, rfl, ti⟩ ⟨rfl, rfl⟩
      have hi : i < us.length := by omega
      have e0 : (0 + (i : Int)) = (i : Int) := Int.zero_add _
      obtain ⟨s, hs, hda⟩ := (DaAll.ex ti.ex _ hA).at (List.getElem?_eq_getElem hi)
      have ms := List.mem_of_getElem? hs
      obtain ⟨z, es, rfl, hz⟩ := step_of (hst s ms)
      obtain ⟨p', zs, ep, hp', hB⟩ := hda.tup_inv
      cases hB with
      | @cons v0 zs _ _ h0 hB =>
        have := h0.str_inv
        subst this
        refine ⟨_, rfl, .inr (.inl ⟨y, _, 1, _, rfl, rfl, st_of (ti.ex _ _ hp), atI_nat (j := 1) rfl, _, rfl, .inl ⟨ps, us, (0 + (i : Int)), .ref p', rfl, rfl, sq_of (ti.ex _ _ hps), by rw [e0, ← ep]; exact atI_nat (List.getElem?_eq_getElem hi), ?_⟩⟩)⟩
        refine ⟨p', z, zs, es, rfl, hp', hB, hz, fun H6 l3 e6 n6 h6 => ⟨l3, _, rfl, sq_of h6, ?_⟩⟩
        have dln : l3 ≠ ln := fun e => by rw [e, ti.n] at n6; cases n6
        have dlp : l3 ≠ lp := fun e => by obtain ⟨_, k, _⟩ := ti.p; rw [e, k] at n6; cases n6
        have dlq : l3 ≠ lq := fun e => by obtain ⟨_, k, _⟩ := ti.q; rw [e, k] at n6; cases n6
        have hlen : (zs.take (nPk z)).length = (es.take (nPk z)).length := (hB.take _).len
        have hpk : ∀ p ∈ es.take (nPk z), pickD p = true := fun p hp => pks_pick (s := .tuple (.str z :: es)) (hst _ ms) hp
        have le2 : (es.take (nPk z)).length ≤ 2 := (pks_len (hst _ ms)).1
        have hps' : pksD (ds.getD i .none) = es.take (nPk z) := by
          rw [List.getD_eq_getElem?_getD, hs]
          rfl
        have hC : DaAll H6 (zs.take (nPk z)) (es.take (nPk z)) := (DaAll.ex e6 _ hB).take _
        refine frG (walk_enum (xs := zs.take (nPk z))) (fun j σ H' => ∃ x5 x6 x7 : Option V, σ = [some (.ref y), some (.ref ln), some (.ref lp), some (.ref lq), some (.int (0 + (i : Int))), x5, x6, x7] ∧
          TInv H ln lp lq (2 * i + j) (((ds.take i).flatMap pksD).filterMap nmP ++ ((es.take (nPk z)).take j).filterMap nmP) (((ds.take i).flatMap pksD).filterMap paP ++ ((es.take (nPk z)).take j).filterMap paP) (((List.range i).flatMap fun i => plcS i (pksD (ds.getD i .none))) ++ ((List.range j).filter fun j => decide (wdP ((es.take (nPk z)).getD j .none) = "at")).map (fun j => (i, j))) H' ∧
          H' l3 = some (.lst (zs.take (nPk z))) ∧ TEx H6 H') ⟨_, _, _, rfl, by simpa using ti.on e6, h6, fun _ _ h => h⟩ (fun _ _ _ _ ⟨_, _, _, _, _, h, _⟩ => sq_of h) ?_ ?_
        · rintro j x σ H7 H8 hj ⟨x5, x6, x7, rfl, tj, hl3, te⟩ ⟨t, u2, w2, rfl, ht, rfl, hu2, hw2⟩
          cases hu2
          refine ⟨t, _, rfl, st_of upd_same, rfl, _, _, rfl, _, _, rfl, rfl, ?_⟩
          generalize hq8 : upd H7 t _ = H8
          obtain ⟨e8, _⟩ := gen1 hq8 ht
          have n3H : H l3 = none := none_of ti.ex n6
          have jlt : j < (zs.take (nPk z)).length := hj
          obtain ⟨b, hb1, hb⟩ := (DaAll.tn (fun c ys h => e8 _ _ (te c ys h)) _ (nls_picks hpk) hC).at hw2
          have kb := hpk b (List.mem_of_getElem? hb1)
          obtain ⟨bk, own, u, hv, hu, ho⟩ := pick_P hb kb
          refine ⟨_, rfl, w2, bk, own, wdP b, u, rfl, hv, fun H9 e9 => ?_⟩
          have tj9 := (tj.on (e8.trans e9)).up
          have h39 := (e8.trans e9) _ _ hl3
          have te9 : TEx H6 H9 := fun c ys h => (e8.trans e9) _ _ (te c ys h)
          obtain ⟨po, xo, rfl, hpo, hxo⟩ := (hv.ex e9).bare
          have hu9 := Da.ex e9 _ hu
          have nxN : ((es.take (nPk z)).take (j + 1)).filterMap nmP = ((es.take (nPk z)).take j).filterMap nmP ++ (nmP b).toList := by
            rw [List.take_add_one, hb1, List.filterMap_append]
            cases hn : nmP b <;> simp [hn]
          have nxP : ((es.take (nPk z)).take (j + 1)).filterMap paP = ((es.take (nPk z)).take j).filterMap paP ++ (paP b).toList := by
            rw [List.take_add_one, hb1, List.filterMap_append]
            cases hn : paP b <;> simp [hn]
          have nxQ := plcS_step i hb1
          have bnd : 2 * i + j + 1 ≤ 60 := by omega
          have hxu : wdP b ≠ "last" → xo = [u] := fun h => by
            rcases hxo with ⟨h1, _⟩ | ⟨_, h1⟩
            · exact absurd h1 h
            · exact h1
          refine ⟨fun σ' H' => σ' = [some (.ref y), some (.ref ln), some (.ref lp), some (.ref lq), some (.int (0 + (i : Int))), some (.int (j : Int)), some w2, some (.ref po)] ∧
            TInv H ln lp lq (2 * i + j + 1) (((ds.take i).flatMap pksD).filterMap nmP ++ ((es.take (nPk z)).take (j + 1)).filterMap nmP) (((ds.take i).flatMap pksD).filterMap paP ++ ((es.take (nPk z)).take j).filterMap paP) (((List.range i).flatMap fun i => plcS i (pksD (ds.getD i .none))) ++ ((List.range j).filter fun j => decide (wdP ((es.take (nPk z)).getD j .none) = "at")).map (fun j => (i, j))) H' ∧
            H' l3 = some (.lst (zs.take (nPk z))) ∧ TEx H9 H', ?_, ?_⟩
          · refine ⟨_, rfl, .inl ⟨rfl, _, sq_of tj9.n⟩, ?_⟩
            refine ⟨_, rfl, .inr (.inl ⟨po, _, 0, _, rfl, rfl, st_of hpo, atI_nat (j := 0) rfl, .inl ⟨rfl, _, rfl, ?_⟩⟩)⟩
            rw [str_dec]
            rw [nxN]
            have la := tj9.la
            by_cases hw : wdP b = "name"
            · rw [decide_eq_true hw]
              have nz : ∃ zz, nmP b = some zz ∧ u = .str zz := by
                have q := nmP_of hu9 ho
                rw [decide_eq_true hw, if_pos rfl] at q
                cases hn : nmP b with
                | none =>
                  exfalso
                  unfold nmP at hn
                  rw [if_pos hw] at hn
                  rcases ho with ⟨k, _⟩ | ⟨_, k⟩ | ⟨k, _⟩ | ⟨k | k, _⟩
                  · rw [k] at hw; exact absurd hw (by decide +kernel)
                  · cases ha : agP b with
                    | str zz => rw [ha] at hn; cases hn
                    | none => rw [ha] at k; cases k
                    | bool m => rw [ha] at k; cases k
                    | int m => rw [ha] at k; cases k
                    | list m => rw [ha] at k; cases k
                    | tuple m => rw [ha] at k; cases k
                    | dict m => rw [ha] at k; cases k
                  · rw [k] at hw; exact absurd hw (by decide +kernel)
                  · rw [k] at hw; exact absurd hw (by decide +kernel)
                  · rw [k] at hw; exact absurd hw (by decide +kernel)
                | some zz =>
                  rw [hn] at q
                  exact ⟨zz, rfl, q⟩
              obtain ⟨zz, nz, rfl⟩ := nz
              have hxs := hxu (by rw [hw]; decide +kernel)
              subst hxs
              rw [nz]
              refine iteT ⟨_, rfl, .inr (.inl ⟨po, _, 1, _, rfl, rfl, st_of hpo, atI_nat (j := 1) rfl, by show 1 ≤ sizeLine; decide, fun la' na => ?_⟩)⟩
              generalize hqa : upd H9 la' _ = HA
              obtain ⟨eA, hA'⟩ := gen1 hqa na
              have tjA := tj9.on eA
              have ta := tjA.addN D3h (A := ((ds.take i).flatMap pksD).filterMap nmP ++ ((es.take (nPk z)).take j).filterMap nmP) (by rw [List.length_append]; have := tj.la; rw [List.length_append] at this; omega) zz
              refine ⟨ln, la', _, _, rfl, rfl, tjA.n, hA', by rw [List.length_map, sizeLine_eq]; show _ + 1 ≤ _; omega, ?_⟩
              refine ⟨rfl, ?_, ?_, fun c ys h => TEx.lst tjA.n c ys (eA _ _ h)⟩
              · rw [← List.append_assoc] at *
                exact ta
              · rw [upd_ne dln]
                exact eA _ _ h39
            · rw [decide_eq_false hw]
              have nz : nmP b = none := if_neg hw
              rw [nz]
              refine iteF ⟨by show 0 ≤ sizeLine; decide, fun la' na => ?_⟩
              generalize hqa : upd H9 la' _ = HA
              obtain ⟨eA, hA'⟩ := gen1 hqa na
              have tjA := tj9.on eA
              refine ⟨ln, la', _, _, rfl, rfl, tjA.n, hA', by rw [List.length_map, sizeLine_eq]; show _ + 0 ≤ _; omega, ?_⟩
              rw [List.append_nil, upd_id tjA.n]
              exact ⟨rfl, by simpa using tjA, eA _ _ h39, fun c ys h => eA _ _ h⟩
          · rintro σ' H10 ⟨rfl, t10, h310, te10⟩
            refine ⟨fun σ' H' => σ' = [some (.ref y), some (.ref ln), some (.ref lp), some (.ref lq), some (.int (0 + (i : Int))), some (.int (j : Int)), some w2, some (.ref po)] ∧
              TInv H ln lp lq (2 * i + j + 1) (((ds.take i).flatMap pksD).filterMap nmP ++ ((es.take (nPk z)).take (j + 1)).filterMap nmP) (((ds.take i).flatMap pksD).filterMap paP ++ ((es.take (nPk z)).take (j + 1)).filterMap paP) (((List.range i).flatMap fun i => plcS i (pksD (ds.getD i .none))) ++ ((List.range j).filter fun j => decide (wdP ((es.take (nPk z)).getD j .none) = "at")).map (fun j => (i, j))) H' ∧
              H' l3 = some (.lst (zs.take (nPk z))) ∧ TEx H9 H', ?_, ?_⟩
            · have hpo10 := te10 _ _ hpo
              obtain ⟨zp0, hlp0, hz0, _⟩ := id t10.p
              have lb := t10.lb
              have lz0 : zp0.length ≤ 2 * i + j + 1 := by
                have z := congrArg List.length hz0
                rw [List.length_map] at z
                omega
              refine ⟨_, rfl, .inl ⟨rfl, _, sq_of hlp0⟩, ?_⟩
              refine ⟨_, rfl, .inr (.inl ⟨po, _, 0, _, rfl, rfl, st_of hpo10, atI_nat (j := 0) rfl, ?_⟩)⟩
              refine ⟨by show 2 ≤ sizeLine; decide, fun t11 n11 => ?_⟩
              generalize hq11 : upd H10 t11 _ = H11
              obtain ⟨e11, h11⟩ := gen1 hq11 n11
              refine .inl ⟨t11, _, rfl, .inr (st_of h11), rfl, rfl, _, rfl, ?_⟩
              rw [show (inV (.str (wdP b)) [.str "like", .str "all"]) = _ from like_in _]
              rw [nxP]
              have t11' := t10.on e11
              have h311 := e11 _ _ h310
              have te11 : TEx H9 H11 := fun c ys h => e11 _ _ (te10 c ys h)
              have op := paP_of hu9 ho
              cases hw : (decide (wdP b = "like") || decide (wdP b = "all")) with
              | false =>
                have nz : paP b = none := if_neg (by rw [← decide_eq_true_eq (p := wdP b = "like"), ← decide_eq_true_eq (p := wdP b = "all"), ← Bool.or_eq_true, hw]; decide)
                refine iteF ⟨by show 0 ≤ sizeLine; decide, fun la' na => ?_⟩
                generalize hqa : upd H11 la' _ = HA
                obtain ⟨eA, hA'⟩ := gen1 hqa na
                have tA := t11'.on eA
                have hlpA := (e11.trans eA) _ _ hlp0
                refine ⟨lp, la', _, _, rfl, rfl, hlpA, hA', by rw [List.length_map, sizeLine_eq]; show _ + 0 ≤ _; omega, ?_⟩
                rw [List.append_nil, upd_id hlpA, nz]
                exact ⟨rfl, by simpa using tA, eA _ _ h311, fun c ys h => eA _ _ (te11 c ys h)⟩
              | true =>
                have nz : paP b = some (agP b) := if_pos (by rw [← decide_eq_true_eq (p := wdP b = "like"), ← decide_eq_true_eq (p := wdP b = "all"), ← Bool.or_eq_true, hw])
                rw [hw, if_pos rfl, nz] at op
                obtain ⟨a, rfl, hda⟩ := op
                have hxs := hxu (fun h => by rw [h] at hw; exact absurd hw (by decide +kernel))
                subst hxs
                rw [nz]
                have kp : patD (agP b) = true := paP_pat kb nz
                refine iteT ⟨_, rfl, .inr (.inl ⟨po, _, 1, _, rfl, rfl, st_of (te11 _ _ hpo), atI_nat (j := 1) rfl, by show 1 ≤ sizeLine; decide, fun la' na => ?_⟩)⟩
                generalize hqa : upd H11 la' _ = HA
                obtain ⟨eA, hA'⟩ := gen1 hqa na
                have teA : TEx H9 HA := fun c ys h => eA _ _ (te11 c ys h)
                obtain ⟨us', hus, lus, tp⟩ := (t11'.on eA).addP D3h (B := ((ds.take i).flatMap pksD).filterMap paP ++ ((es.take (nPk z)).take j).filterMap paP) (by rw [List.length_append]; have := tj.lb; rw [List.length_append] at this; omega) (Da.tn teA _ (nl_pat kp) hda) kp
                refine ⟨lp, la', _, _, rfl, rfl, hus, hA', by rw [sizeLine_eq]; show _ + 1 ≤ _; omega, ?_⟩
                refine ⟨rfl, ?_, ?_, fun c ys h => TEx.lst hus c ys (teA c ys h)⟩
                · rw [← List.append_assoc]
                  exact tp
                · rw [upd_ne dlp]
                  exact eA _ _ h311
            · rintro σ' H11 ⟨rfl, t11, h311, te11⟩
              have hpo11 := te11 _ _ hpo
              obtain ⟨uq0, hlq0, pl0⟩ := id t11.q
              have ll := t11.ll
              have lq0 := pl0.len
              refine ⟨_, rfl, .inl ⟨rfl, _, sq_of hlq0⟩, ?_⟩
              refine ⟨_, rfl, .inr (.inl ⟨po, _, 0, _, rfl, rfl, st_of hpo11, atI_nat (j := 0) rfl, .inl ⟨rfl, _, rfl, ?_⟩⟩)⟩
              rw [str_dec]
              by_cases hw : wdP b = "at"
              · rw [decide_eq_true hw]
                rw [if_pos hw] at nxQ
                refine iteT ⟨_, rfl, _, rfl, by show 2 ≤ sizeLine; decide, fun t12 n12 => ?_⟩
                generalize hq12 : upd H11 t12 _ = H12
                obtain ⟨e12, h12⟩ := gen1 hq12 n12
                rw [e0] at h12
                refine ⟨by show 1 ≤ sizeLine; decide, fun la' na => ?_⟩
                generalize hqa : upd H12 la' _ = HA
                obtain ⟨eA, hA'⟩ := gen1 hqa na
                have t12' := (t11.on e12).on eA
                obtain ⟨us', hus, lus, tq⟩ := t12'.addQ D3h (L := ((List.range i).flatMap fun i => plcS i (pksD (ds.getD i .none))) ++ ((List.range j).filter fun j => decide (wdP ((es.take (nPk z)).getD j .none) = "at")).map (fun j => (i, j))) (by
                  rw [List.length_append]
                  have := tj.ll
                  rw [List.length_append] at this
                  omega) (eA _ _ h12)
                refine ⟨lq, la', _, _, rfl, rfl, hus, hA', by rw [sizeLine_eq]; show _ + 1 ≤ _; omega, ?_⟩
                refine ⟨_, _, _, rfl, ?_, by rw [upd_ne dlq]; exact (e12.trans eA) _ _ h311, fun c ys h => TEx.lst hus c ys ((e12.trans eA) _ _ (te11 c ys (te9 c ys h)))⟩
                rw [nxQ, ← List.append_assoc]
                exact tq
              · rw [decide_eq_false hw]
                rw [if_neg hw, List.append_nil] at nxQ
                refine iteF ⟨by show 0 ≤ sizeLine; decide, fun la' na => ?_⟩
                generalize hqa : upd H11 la' _ = HA
                obtain ⟨eA, hA'⟩ := gen1 hqa na
                refine ⟨lq, la', _, _, rfl, rfl, eA _ _ hlq0, hA', by rw [sizeLine_eq]; show _ + 0 ≤ _; omega, ?_⟩
                rw [List.append_nil, upd_id (eA _ _ hlq0)]
                refine ⟨_, _, _, rfl, ?_, eA _ _ h311, fun c ys h => eA _ _ (te11 c ys (te9 c ys h))⟩
                rw [nxQ]
                exact t11.on eA
        · rintro σ H7 ⟨x5, x6, x7, rfl, tj, hl3, te⟩
          refine ⟨_, _, _, _, rfl, ?_⟩
          have e1 : (es.take (nPk z)).take (zs.take (nPk z)).length = es.take (nPk z) := List.take_of_length_le (by rw [hlen]; exact Nat.le_refl _)
          rw [e1, hlen] at tj
          rw [flat_step hs, List.filterMap_append, List.filterMap_append, flat_range, hps']
          exact tj.wk (by omega)
    · rintro σ H4 ⟨x4, x5, x6, x7, rfl, ti⟩
      rw [Int.toNat_natCast, hul, List.take_length] at ti
      have ti : TInv H ln lp lq (2 * ds.length) (nmsD ds) (pasD ds) (plcD ds) H4 := ti
      obtain ⟨zp, hlp, hz2, hz3⟩ := id ti.p
      obtain ⟨uq, hlq, hpl⟩ := id ti.q
      have l1 := ti.la
      have l2 := ti.lb
      have l3 := ti.ll
      have lz : zp.length = (pasD ds).length := by rw [← hz2, List.length_map]
      have hpt : ∀ q ∈ zp, patD q.2 = true := fun q hq => ti.pt _ (hz2 ▸ List.mem_map.mpr ⟨q, hq, rfl⟩)
      refine ⟨_, rfl, _, rfl, lp, zp, rfl, sq_of hlp, fun q hq => ⟨hz3 q hq, pat_isT (hpt q hq)⟩, by omega, fun a7 L7 DL n7 => ?_⟩
      generalize hq7 : upd H4 a7 _ = H7
      obtain ⟨e7, h7⟩ := gen1 hq7 n7
      refine ⟨a7, L7, rfl, h7, fun q hq => ⟨Da.ex e7 _ (hz3 q (DL.of q hq)), pat_isT (hpt q (DL.of q hq))⟩, pat_mix (fun d hd => ?_), fun l8 Z8 pm as8 n8 => ?_⟩
      · obtain ⟨q, hq, rfl⟩ := List.mem_map.mp hd
        exact hpt q (DL.of q hq)
      generalize hq8 : upd H7 l8 _ = H8
      obtain ⟨e8, h8⟩ := gen1 hq8 n8
      have e48 := e7.trans e8
      have srP : SrtD (pasD ds) (Z8.map Prod.snd) := ⟨as8, (pm.map Prod.snd).nodup_iff.mpr DL.nd, fun d => by
        rw [(pm.map Prod.snd).mem_iff, ← hz2]
        constructor
        · intro hd
          obtain ⟨q, hq, rfl⟩ := List.mem_map.mp hd
          exact List.mem_map.mpr ⟨q, DL.of q hq, rfl⟩
        · intro hd
          obtain ⟨q, hq, rfl⟩ := List.mem_map.mp hd
          exact DL.on q hq⟩
      have hZ8 : ∀ q ∈ Z8, Da H8 (.ref q.1) q.2 := fun q hq => Da.ex e48 _ (hz3 q (DL.of q (pm.mem_iff.mp hq)))
      refine ⟨_, rfl, ln, nmsD ds, rfl, sq_of (e48 _ _ ti.n), by omega, fun a5 L5 hL5 mL5 n5 => ?_⟩
      generalize hq5 : upd H8 a5 _ = H5
      obtain ⟨e5, h5⟩ := gen1 hq5 n5
      refine ⟨a5, L5, rfl, h5, by omega, fun l6 ys sr lys n6 => ?_⟩
      generalize hq6 : upd H5 l6 _ = H6
      obtain ⟨e6, h6⟩ := gen1 hq6 n6
      have e86 := e5.trans e6
      have e46 := e48.trans e86
      have srN : Srt (nmsD ds) ys := srt_same sr mL5
      have hp6 := (ti.ex.trans e46) _ _ hp
      have hps6 := (ti.ex.trans e46) _ _ hps
      refine ⟨_, rfl, .inr (.inl ⟨y, _, 1, _, rfl, rfl, st_of hp6, atI_nat (j := 1) rfl, .inl ⟨ps, us, rfl, .inl (sq_of hps6), ?_⟩⟩)⟩
      refine ⟨_, rfl, .inr (.inl ⟨y, _, 1, _, rfl, rfl, st_of hp6, atI_nat (j := 1) rfl, by show 5 ≤ sizeLine; decide, fun l9 n9 => ?_⟩)⟩
      generalize hq9 : upd H6 l9 _ = H9
      obtain ⟨e9, h9⟩ := gen1 hq9 n9
      refine ⟨by show 2 ≤ sizeLine; decide, fun t10 n10 => ?_⟩
      generalize hq10 : upd H9 t10 _ = H10
      obtain ⟨e10, h10⟩ := gen1 hq10 n10
      have e610 := e9.trans e10
      have e410 := e46.trans e610
      have e810 := e86.trans e610
      have eH10 := ti.ex.trans e410
      have nw : ∀ {a : Addr} {H0 : Hp}, Ex H H0 → H0 a = none → Aw AA H H10 a := fun e h => .inr (.inl (none_of e h))
      have eH6 := ti.ex.trans e46
      refine q _ t10 _ eH10 (.inr ⟨ds, ys, Z8.map Prod.snd, rfl, srN, srP, rfl⟩) (.tup (nw (eH6.trans e9) n10) h10 (.cons (.str _) (.cons (.lst (nw eH6 n9) (e10 _ _ h9) ?_) .nil)))
      have nlp : nlDs (Z8.map Prod.snd) = true := nlDs_iff.mpr fun d hd => nl_pat (ti.pt d ((srP.me d).mp hd))
      have nlq : nlDs (plcDat (plcD ds)) = true := nlDs_iff.mpr fun d hd => by
        obtain ⟨z, _, rfl⟩ := List.mem_map.mp hd
        rfl
      have nls : nlDs (ys.map PyData.str) = true := nlDs_iff.mpr fun d hd => by
        obtain ⟨z, _, rfl⟩ := List.mem_map.mp hd
        rfl
      have nld : nlDs ds = true := nlDs_iff.mpr fun d hd => nl_step (hst d hd)
      refine .cons (.lst (.inr (.inl D3h.q)) (e410 _ _ hlq) (nls_aw nlq (hpl.tn (TEx.of e410)).daall)) (.cons (.lst (nw (ti.ex.trans e7) n8) (e810 _ _ h8) (nls_aw nlp (refs_da fun q hq => Da.ex e810 _ (hZ8 q hq)))) (.cons (.lst (nw ((ti.ex.trans e48).trans e5) n6) (e610 _ _ h6) (nls_aw nls (strs_daall _))) (.cons ?_ (.cons (.lst (.inl aps) (e610 _ _ hps6) (nls_aw nld (DaAll.ex eH10 _ hA))) .nil))))
      rw [hul]
      exact .int _
end
end Own

namespace Own
open PySem PySem.Spec PyProof.Rows L2 Evl
theorem lcL {J : It} {n : Nat} {G : Hp → Prop} {Y : Nat → Hp → V → Hp → Prop} (w : Walk J n G Y) {g : TG} {tt : TT} {te : TE} {vs : List Nat} {σ : L2.St} {H1 : Hp} {Q : VK} (hG0 : G H1) (hGm : ∀ H H', Ex H H' → G H → G H') (hY : ∀ i H x H', Y i H x H' → Ex H H') (hn : n ≤ 40000)
    (Pa : Addr → Nat → List V → Hp → Prop) (hm : ∀ D i ys H H', TEx H H' → ExB D H H' → Pa D i ys H → Pa D i ys H') (p0 : ∀ D, Pa D 0 [] H1)
    (hs : ∀ D i x H H' ys, i < n → Ex H1 H → Y i H x H' → H1 D = none → H' D = some (.lst ys) → Pa D i ys H' → ∀ (N : V → Hp → Prop) (N0 : Hp → Prop), (∀ y H4, Ex H' H4 → Pa D (i + 1) (ys ++ [y]) H4 → N y H4) → (∀ H3, Ex H' H3 → Pa D (i + 1) ys H3 → N0 H3) →
      g x (wipe σ vs) H' fun σ2 H2 => wipe σ2 vs = wipe σ vs ∧ tt σ2 H2 fun b H3 => if b = true then te σ2 H3 N else N0 H3)
    (k : ∀ D H2 ys, H1 D = none → Ex H1 H2 → H2 D = some (.lst ys) → ys.length ≤ n → Pa D n ys H2 → Q (.ref D) H2) :
    LcRest g tt te vs σ Q J H1 := by
  intro D hD
  refine lc_it w (fun i H => ∃ ys, Ex H1 H ∧ H D = some (.lst ys) ∧ ys.length ≤ i ∧ Pa D i ys H) ⟨[], Ex.new hD, upd_same, Nat.zero_le _, hm _ _ _ _ _ (TEx.of (Ex.new hD)) (fun a o _ h => Ex.new hD a o h) (p0 D)⟩ (fun i H hi ⟨ys, e, _⟩ => hGm _ _ e hG0) ?_ ?_
  · rintro i x H H' hi ⟨ys, e, hd, hl, hp⟩ hy
    have e' := hY _ _ _ _ hy
    refine hs D i x H H' ys hi e hy hD (e' _ _ hd) (hm _ _ _ _ _ (TEx.of e') (fun a o _ h => e' a o h) hp) _ _ (fun y H4 e4 p4 => ?_) (fun H3 e3 p3 => ?_)
    · have d4 := e4 _ _ (e' _ _ hd)
      refine ⟨ys, d4, sz_lt (by omega), ys ++ [y], Ex.mut ((e.trans e').trans e4) hD, upd_same, ?_, hm _ _ _ _ _ (TEx.lst d4) (ExB.set (ExB.refl _ _)) p4⟩
      rw [List.length_append]
      show ys.length + 1 ≤ i + 1
      omega
    · exact ⟨ys, (e.trans e').trans e3, e3 _ _ (e' _ _ hd), by omega, p3⟩
  · rintro H ⟨ys, e, hd, hl, hp⟩
    exact k D H ys hD e hd hl hp
abbrev s_l_both_right : Stmt := top 66
theorem sc_l_both_right : FnScope ["_law_one", "_law_other", "_law_steps", "_law_more", "_law_some_here"] ["_law_one", "_law_other", "_law_steps", "_law_more"] (defScope s_l_both_right) := ⟨rfl, rfl, rfl, by decide +kernel, rfl, by decide +kernel, by decide +kernel⟩
abbrev s_law : Stmt := top 69
theorem sc_law : FnScope ["_law_script", "_law_bag_here", "_law_turn", "_law_world_here", "_law_steps", "_law_more", "_law_one", "_law_other", "_law_k", "_law_index_here", "_law_step_here", "_law_is_in", "_law_due", "_law_rest", "_law_pair"] ["_law_script"] (defScope s_law) := ⟨rfl, rfl, rfl, by decide +kernel, rfl, by decide +kernel, by decide +kernel⟩
theorem due_one {D R R' : PyData} (k : DueOk D) (h : DueR D R) (h' : DueR D R') : R = R' := by
  rcases h with ⟨k1, g1, a1, rfl, rfl⟩ | ⟨L, ys, pl, rfl, a1, a2, rfl⟩
  · rcases h' with ⟨k2, g2, b1, e, rfl⟩ | ⟨L2, ys2, pl2, e, b1, b2, rfl⟩
    · exact e
    · exfalso
      rcases a1 with rfl | rfl | rfl <;> (injection e with e; injection e with e _; injection e with e; exact absurd e (by decide +kernel))
  · rcases h' with ⟨k2, g2, b1, e, rfl⟩ | ⟨L2, ys2, pl2, e, b1, b2, rfl⟩
    · exfalso
      rcases b1 with rfl | rfl | rfl <;> (injection e with e; injection e with e _; injection e with e; exact absurd e (by decide +kernel))
    · have e2 : L = L2 := by injection e with e; injection e with _ e; injection e with e _; injection e
      subst e2
      have okL : OkS L := by
        rcases k with ⟨k3, g3, c1, e3, _⟩ | ⟨L3, e3, okL, _⟩
        · exfalso
          rcases c1 with rfl | rfl | rfl <;> (injection e3 with e; injection e with e _; injection e with e; exact absurd e (by decide +kernel))
        · have e4 : L = L3 := by injection e3 with e; injection e with _ e; injection e with e _; injection e
          rw [e4]
          exact okL
      rw [a1.one b1 fun _ => Iff.rfl, a2.one (fun d hd => by
        obtain ⟨p, hp, e⟩ := List.mem_filterMap.mp hd
        exact paP_pat (flat_pick (fun s hs => (okL.1 s hs).1) p hp) e) b2]
theorem told_one {L R : PyData} (h : DueR L R) {ds : List PyData} (e : L = toldD ds) : ∃ ys pl, Srt (nmsD ds) ys ∧ SrtD (pasD ds) pl ∧ R = .tuple [.str "told", askD ds ys pl] := by
  subst e
  rcases h with ⟨k1, g1, a1, e, rfl⟩ | ⟨L, ys, pl, e, a1, a2, rfl⟩
  · exfalso
    rcases a1 with rfl | rfl | rfl <;> (injection e with e; injection e with e _; injection e with e; exact absurd e (by decide +kernel))
  · have e2 : ds = L := by injection e with e; injection e with _ e; injection e with e _; injection e
    subst e2
    exact ⟨ys, pl, a1, a2, rfl⟩
theorem nodup_len {α : Type} : ∀ {ys zs : List α}, ys.Nodup → (∀ z ∈ ys, z ∈ zs) → ys.length ≤ zs.length
  | [], _, _, _ => Nat.zero_le _
  | y :: ys, zs, nd, h => by
    haveI : DecidableEq α := fun a b => Classical.propDecidable (a = b)
    obtain ⟨n1, n2⟩ := List.nodup_cons.mp nd
    have hy := h y List.mem_cons_self
    have z := nodup_len (ys := ys) (zs := zs.erase y) n2 fun z hz => (List.mem_erase_of_ne fun e => n1 (by rw [← e]; exact hz)).mpr (h z (List.mem_cons_of_mem _ hz))
    rw [List.length_erase_of_mem hy] at z
    have := List.length_pos_of_mem hy
    rw [List.length_cons]
    omega
theorem plc_len {ds : List PyData} (h : ∀ s ∈ ds, stepD s = true) (hl : ds.length ≤ 25) : (plcD ds).length ≤ 50 := by
  have z : ∀ n, n ≤ ds.length → ((List.range n).flatMap fun i => plcS i (pksD (ds.getD i .none))).length ≤ 2 * n := fun n => by
    induction n with
    | zero => intro _; exact Nat.le_refl _
    | succ n ih =>
      intro hn
      have hs : ds[n]? = some ds[n] := List.getElem?_eq_getElem (by omega)
      rw [flat_range, List.length_append, List.getD_eq_getElem?_getD, hs]
      have h1 := plc_le n (pksD ds[n])
      have h2 := (pks_len (h _ (List.mem_of_getElem? hs))).1
      have h3 := ih (by omega)
      show _ + (plcS n (pksD ds[n])).length ≤ _
      omega
  have := z ds.length (Nat.le_refl _)
  show ((List.range ds.length).flatMap _).length ≤ 50
  omega
/-- bounds of what is told -/
theorem ask_fin {ds : List PyData} {ys : List Str} {pl : List PyData} (ok : OkS ds) (sn : Srt (nmsD ds) ys) (sp : SrtD (pasD ds) pl) (l15 : ds.length ≤ 15) : fin 6 5000000 (askD ds ys pl) := by
  have i100 : ∀ k : Nat, k < 100 → fin 0 1921 (.int (k : Int)) := fun k hk => fin_int (by rw [Int.natAbs_natCast]; exact Nat.lt_of_le_of_lt (Nat.log2_le_self k) (by omega))
  have hst : ∀ s ∈ ds, stepD s = true := fun s hs => (ok.1 s hs).1
  have o25 := ok.2
  have fl := flat_len2 hst
  have ly : ys.length ≤ 50 := Nat.le_trans (nodup_len sn.nd fun z hz => (sn.me z).mp hz) (Nat.le_trans (List.length_filterMap_le _ _) (by omega))
  have lp : pl.length ≤ 50 := Nat.le_trans (nodup_len sp.nd fun z hz => (sp.me z).mp hz) (Nat.le_trans (List.length_filterMap_le _ _) (by omega))
  have lq := plc_len hst o25
  refine (fin_list (n := 5) (W := 970000) (m := 5) (fun d hd => ?_) (Nat.le_refl _)).mono (by decide) (by decide)
  simp only [List.mem_cons, List.not_mem_nil, or_false] at hd
  rcases hd with rfl | rfl | rfl | rfl | rfl
  · refine (fin_list (n := 1) (W := 4000) (m := 60) (fun d hd => ?_) (by unfold plcDat; rw [List.length_map]; omega)).mono (by decide) (by decide)
    obtain ⟨q, hq, rfl⟩ := List.mem_map.mp hd
    have hL := plc_lt hst o25 hq
    refine (fin_tup (n := 0) (W := 1921) (m := 2) (fun d hd => ?_) (Nat.le_refl _)).mono (by decide) (by decide)
    simp only [List.mem_cons, List.not_mem_nil, or_false] at hd
    rcases hd with rfl | rfl
    · exact i100 _ hL.1
    · exact i100 _ hL.2
  · refine (fin_list (n := 1) (W := 1921) (m := 60) (fun d hd => ?_) (by omega)).mono (by decide) (by decide)
    have hd2 := (sp.me d).mp hd
    have g := pas_gd (ds := ds) (fun s hs => ⟨(ok.1 s hs).1, (ok.1 s hs).2.1⟩) hd2
    have kp : patD d = true := by
      obtain ⟨p, hp, e⟩ := List.mem_filterMap.mp hd2
      exact paP_pat (flat_pick hst p hp) e
    exact fin_arg (w := "like") (.inr (.inr ⟨.inl rfl, kp⟩)) g
  · refine (fin_list (n := 0) (W := 85) (m := 60) (fun d hd => ?_) (by rw [List.length_map]; omega)).mono (by decide) (by decide)
    obtain ⟨z, hz', rfl⟩ := List.mem_map.mp hd
    have hz := nms_nm hst ((sn.me z).mp hz')
    exact (fin_str (L := 8) (nm_ok hz) (nm_len hz)).mono (by decide) (by decide)
  · exact (i100 _ (by omega)).mono (by decide) (by decide)
  · exact (fin_list (n := 4) (W := 64000) (m := 15) (fun d hd => fin_step (ok.1 d hd).1 (ok.1 d hd).2.1) l15).mono (by decide) (by decide)
theorem due_fine {D R : PyData} (k : DueOk D) (h : DueR D R) : fine R := by
  rcases k with ⟨k3, g3, c1, rfl, f⟩ | ⟨L, rfl, ok, l15⟩
  · rcases h with ⟨k2, g2, b1, e, rfl⟩ | ⟨L2, ys2, pl2, e, b1, b2, rfl⟩
    · rw [← e]
      exact f
    · exfalso
      rcases c1 with rfl | rfl | rfl <;> (injection e with e; injection e with e _; injection e with e; exact absurd e (by decide +kernel))
  · obtain ⟨ys, pl, a1, a2, rfl⟩ := told_one h rfl
    refine (fin_tup (n := 6) (W := 5000000) (m := 2) (fun d hd => ?_) (Nat.le_refl _)).fine (by decide) (by decide)
    simp only [List.mem_cons, List.not_mem_nil, or_false] at hd
    rcases hd with rfl | rfl
    · exact ⟨by decide +kernel, by decide +kernel, by decide +kernel, by decide +kernel⟩
    · exact ask_fin ok a1 a2 l15
theorem made_ok {L : List PyData} (ok : OkS L) (l15 : L.length ≤ 15) : DueOk (madeD L) := by
  rcases madeD_cases L with ⟨i, h, e⟩ | ⟨_, e⟩
  · refine .inl ⟨2, _, .inl rfl, e, ?_⟩
    have hi : i < L.length := by
      have := (List.findIdx?_eq_some_iff_getElem.mp h).1
      rw [List.length_dropLast] at this
      omega
    have o := ok.2
    refine (fin_tup (n := 1) (W := 4000) (m := 2) (fun d hd => ?_) (Nat.le_refl _)).fine (by decide) (by decide)
    simp only [List.mem_cons, List.not_mem_nil, or_false] at hd
    rcases hd with rfl | rfl
    · exact ⟨by decide +kernel, by decide +kernel, by decide +kernel, by decide +kernel⟩
    · exact (fin_int (by rw [Int.natAbs_natCast]; exact Nat.lt_of_le_of_lt (Nat.log2_le_self i) (by omega))).mono (by decide) (by decide)
  · exact .inr ⟨L, e, ok, l15⟩
theorem daaa_snoc {A : Addr → Prop} {H : Hp} {v : V} {d : PyData} (h : DaA A H v d) : ∀ {vs : List V} {ds : List PyData}, DaAA A H vs ds → DaAA A H (vs ++ [v]) (ds ++ [d])
  | _, _, .nil => .cons h .nil
  | _, _, .cons h1 h2 => .cons h1 (daaa_snoc h h2)
theorem ScAt.nx {C : Addr} {H H' : Hp} {y : Addr} {ds : List PyData} (e : LamX.ExtN H H') (h : ScAt C H y ds) : ScAt C H' y ds := by
  obtain ⟨d, l, xs, h1, h2, h3⟩ := h
  exact ⟨d, l, xs, e _ _ h1 (fun ps z => by cases z), e _ _ h2 (fun ps z => by cases z), DaAll.nx e _ h3⟩
theorem TTh_of {cl : Nat → Addr} {tl : XK → Hp → VK → Prop} {H : Hp} {Q : VK} (I : Addr → Hp → Prop) (done : ∀ t H', I t H' → Q (.ref t) H')
    (h : ∀ (E : XK) (Z : VK), (∀ (k : Nat) (n : V) (g : PyData) (d : Addr) H', (k = 2 ∨ k = 3 ∨ k = 4) → H' d = some (.xd [(flE k, n)]) → Da H' n g → (∀ H2 t, Ex H' H2 → Da H2 (.ref t) (tlE k g) → I t H2) → E (.ref (cl k)) (some d) H') → (∀ v H1, (∀ t, H1 t = none → I t (upd H1 t (.tup [.str "told", v]))) → Z v H1) → tl E H Z) : TTh cl tl H Q := by
  intro E Z hE hZ
  refine h E Z (fun k n g d H' hk hd hn q => hE _ _ _ ⟨k, n, g, d, hk, rfl, rfl, hd, hn, fun H2 t e hD => done _ _ (q H2 t e hD)⟩) (fun v H1 q => hZ v H1 fun t ht => done _ _ (q t ht))
def qLam : Str := (envOfC "law" (defScope s_law) 0 0 Value.none).qual ++ "<lambda>"
def qLam2 : Str := (envOfC "_law_both_right" (defScope s_l_both_right) 0 0 Value.none).qual ++ "<lambda>"
def TB2 (tb tb2 : Addr) : List (Addr × Str) := [(tb, qLam), (tb2, qLam2)]
theorem tb2_1 (tb tb2 : Addr) : (tb, qLam) ∈ TB2 tb tb2 := List.mem_cons_self
theorem tb2_2 (tb tb2 : Addr) : (tb2, qLam2) ∈ TB2 tb tb2 := List.mem_cons_of_mem _ List.mem_cons_self
theorem tb2_o1 {tb tb2 : Addr} (h : tb ≠ tb2) : ∀ z ∈ TB2 tb tb2, z.1 = tb → z.2 = qLam := fun z hz e => by
  simp only [TB2, List.mem_cons, List.not_mem_nil, or_false] at hz
  rcases hz with rfl | rfl
  · rfl
  · exact absurd e.symm h
theorem tb2_o2 {tb tb2 : Addr} (h : tb ≠ tb2) : ∀ z ∈ TB2 tb tb2, z.1 = tb2 → z.2 = qLam2 := fun z hz e => by
  simp only [TB2, List.mem_cons, List.not_mem_nil, or_false] at hz
  rcases hz with rfl | rfl
  · exact absurd e h
  · rfl
section
variable {P : Program} {w : World} {K : PySem.W.Frag} {mg : Str → Option Value} {base : Heap} {rel : Addr} {cl : Nat → Addr} {PE_ C : Addr}
def spBr (C tb tb2 : Addr) : Sp := fun vs H Q _ => ∃ (y z l m : Addr) (xs zs : List V) (ds es : List PyData), vs = [.ref y, .ref z, .ref l, .ref m] ∧ LamX.Tabs (TB2 tb tb2) H ∧ ScAt C H y ds ∧ ScAt C H z es ∧ OkS ds ∧ OkS es ∧ OkS (ds ++ es) ∧ (ds ++ es).length ≤ 15 ∧ H l = some (.lst xs) ∧ DaAll H xs ds ∧ H m = some (.lst zs) ∧ DaAll H zs es ∧
  ∀ H', LamX.ExtN H H' → LamX.Tabs (TB2 tb tb2) H' → Q (.bl true) H'
theorem ok_both {fb tb tb2 ct g : Addr} {fdb : FuncData} {oc kVg dcg pmg cdg ctg : Value} {od ang : Option Addr} {osl : Array (Option Value)} (T : Txt0 mg) (hne : tb ≠ tb2) (hcode : fdb.code = .ref ct) (TB : LamX.TabB base mg ct tb2) (hmb : mg "_law_both_right" = some (.ref fb)) (F : Fun K "_law_both_right" "_law_both_right" s_l_both_right fb fdb)
    (hm : mg "_law_heard" = some (.ref g)) (hk : PySem.W.keepIn K (.ref g) = true) (lk : K.lookup g = some ⟨oc, od, .func (PySem.W.fnOf "_law_heard" "_law_heard" (defArgs s_l_heard) (defBody s_l_heard) (defScope s_l_heard) .none kVg dcg pmg ang cdg ctg), osl⟩) (hcg : PySem.W.codeIn K cdg "_law_heard" = true)
    (hb_h : Binds K (PySem.W.fnOf "_law_heard" "_law_heard" (defArgs s_l_heard) (defBody s_l_heard) (defScope s_l_heard) .none kVg dcg pmg ang cdg ctg) ["_law_act"] [])
    (ES : Er33 P w K mg base cl PE_) (c_error : CalP P w K mg base 1 "_law_error" (spErr cl)) (sfC : PySem.W.selfFirst K C = true) (M_add : MetN P w K mg base 9 C "__add__" (spAd C (cl 2)))
    (c_l_alike : CalG P w K mg base 1 "_law_alike" (spAlike K)) (c_l_asked_of : CalG P w K mg base 6 "_law_asked_of" (spAo C)) (c_l_tells : CalG P w K mg base 3 "_law_tells" spTl) (c_l_made : CalG P w K mg base 1 "_law_made" spMd) : CalG P w K mg base 12 "_law_both_right" (spBr C tb tb2) := by
  refine ⟨fb, fdb, ["_law_one", "_law_other", "_law_steps", "_law_more"], fn_mkC hcode F sc_l_both_right (fun vs H Q E h => ?_) (fun A outer s H vs Q E hr hG h => ?_), hmb, F.kp, F.binds (fun _ _ _ _ _ _ us hl => match us, hl with | [_, _, _, _], _ => rfl)⟩
  · obtain ⟨y, z, l, m, xs, zs, ds, es, rfl, _⟩ := h
    rfl
  · obtain ⟨y, z, l, m, xs, zs, ds, es, rfl, tabs, hy, hz, okd, oke, okb, l15, hl, hA, hm', hB, q⟩ := h
    refine ⟨_, (pss_cons (ps_if (pt_not (pt_val (pe_cG c_l_alike hr hG (by decide) rfl (pa_cons (pe_lamS (k := 9) (T := TB2 tb tb2) rfl hm hk lk hcg hb_h sc_l_heard rfl (Or.inl rfl) (gives_heard ES c_error) TB rfl (tb2_2 _ _) (tb2_o2 hne) (hr.mono (by decide)) hG (LamX.lamS_by (sc := defScope s_l_both_right) (by decide +kernel)) rfl (fun _ _ _ _ _ => rfl) (fun A2 outer2 s2 H2 E2 f2 c2 hr2 hG2 => (pe_cG c_l_asked_of hr2 hG2 (by decide) rfl (pa_cons (pe_addN M_add sfC hr2 hG2 (by decide) (fun σ => L2N.passAt (L2N.takes_of rfl rfl rfl rfl) σ) (pv 0) (pv 1)) pa_nil)))) (pa_cons (pe_cG c_l_tells hr hG (by decide) rfl (pa_cons (pe_cG c_l_made hr hG (by decide) rfl (pa_cons (pe_op opAdd (pv 2) (pv 3)) pa_nil)) pa_nil)) pa_nil))))) (pss_one (ps_ret pe_bl)) pss_nil)
      (pss_one (ps_ret (pe_cmpR (opEq hr) (pe_lst (pa_cons (pe_cG c_l_asked_of hr hG (by decide) rfl (pa_cons (pv 0) pa_nil)) (pa_cons (pe_cG c_l_asked_of hr hG (by decide) rfl (pa_cons (pv 1) pa_nil)) pa_nil))) (pe_lcO (pe_lc (own := [("_law_some_here", 4)]) rfl sc_l_both_right.nd (piAny (pe_tup (pa_cons (pv 2) (pa_cons (pv 3) pa_nil)))) (blkOk_by (own := [("_law_some_here", 4)]) (N := ["_law_one", "_law_other", "_law_steps", "_law_more", "_law_some_here"]) (sc := defScope s_l_both_right) (by first | decide +kernel | kernel_rfl)) (fun _ _ _ _ _ => pg_name (i := 4) sc_l_both_right.nd rfl (Or.inl rfl)) (fun _ _ _ _ _ => pts_nil) (fun _ _ _ _ _ => pe_ix ixAnyB (pe_cG c_l_tells hr hG (by decide) rfl (pa_cons (pe_tup (pa_cons pe_str (pa_cons (pv 4) pa_nil))) pa_nil)) pe_int (fun _ _ => rfl)))) (nomark _))))), ?_⟩
    refine ⟨tabs, fun H1 e1 tabs1 => ?_⟩
    have hy1 := hy.nx e1
    have hz1 := hz.nx e1
    refine TTh_of (fun t H' => Ex H1 H' ∧ ∃ R, Da H' (.ref t) R ∧ DueR (madeD (ds ++ es)) R) (fun t H2 ⟨e2, R, hR, dR⟩ => ?_) (fun E Z hE hZ => ?_)
    · have e12 : LamX.ExtN H H2 := e1.trans (LamX.ExtN.of e2)
      have hl2 := e12 _ _ hl (fun ps z => by cases z)
      have hm2 := e12 _ _ hm' (fun ps z => by cases z)
      have hA2 := DaAll.nx e12 _ hA
      have hB2 := DaAll.nx e12 _ hB
      have hxl := hA.len
      have hzl := hB.len
      have l15' := l15
      rw [List.length_append] at l15'
      refine ⟨_, rfl, _, rfl, .inr (.inr (.inl ⟨l, m, xs, zs, rfl, rfl, hl2, hm2, by rw [sizeLine_eq]; omega, fun l3 n3 => ?_⟩))⟩
      generalize hq3 : upd H2 l3 _ = H3
      obtain ⟨e3, h3⟩ := gen1 hq3 n3
      refine ⟨l3, _, ds ++ es, rfl, h3, (DaAll.ex e3 _ hA2).app (DaAll.ex e3 _ hB2), okb, fun H4 t4 e4 hd4 => ?_⟩
      refine ⟨t4, _, _, rfl, Da.within _ hd4, made_ok okb l15, fun H5 t5 R5 e5 dR5 hR5 => ?_⟩
      have hR5 := DaA.da _ hR5
      have e25 := (e3.trans e4).trans e5
      have fR := due_fine (made_ok okb l15) dR
      have eR : R5 = R := due_one (made_ok okb l15) dR5 dR
      subst eR
      refine ⟨_, _, _, rfl, (Da.ex e25 _ hR).dp _ fR.1, hR5.dp _ fR.1, fR, _, rfl, iteF ?_⟩
      have e15 : LamX.ExtN H H5 := e12.trans (LamX.ExtN.of e25)
      have tabs5 := tabs_ex (e2.trans e25) tabs1
      have hy5 := hy.nx e15
      have hz5 := hz.nx e15
      refine ⟨_, rfl, y, ds, rfl, hy5, okd, fun H6 l6 ys1 pl1 e6 sn1 sp1 hD6 => ?_⟩
      refine ⟨_, rfl, z, es, rfl, hz5.ex e6, oke, fun H7 l7 ys2 pl2 e7 sn2 sp2 hD7 => ?_⟩
      refine ⟨by show 2 ≤ sizeLine; decide, fun l8 n8 => ?_⟩
      generalize hq8 : upd H7 l8 _ = H8
      obtain ⟨e8, h8⟩ := gen1 hq8 n8
      refine .inr (.inl ⟨_, rfl, _, rfl, by show 2 ≤ sizeLine; decide, fun t9 n9 => ?_⟩)
      generalize hq9 : upd H8 t9 _ = H9
      obtain ⟨e9, h9⟩ := gen1 hq9 n9
      refine ⟨t9, rfl, ⟨_, st_of h9⟩, ?_⟩
      have e59 := (e6.trans e7).trans (e8.trans e9)
      have e19 : LamX.ExtN H H9 := e15.trans (LamX.ExtN.of e59)
      have sel : ∀ (j : Nat) (x : V), [V.ref l, V.ref m][j]? = some x → ∃ (lj : Addr) (us : List V) (L : List PyData) (ys : List Str) (pl : List PyData), x = .ref lj ∧ H9 lj = some (.lst us) ∧ DaAll H9 us L ∧ OkS L ∧ L.length ≤ 15 ∧ [askD ds ys1 pl1, askD es ys2 pl2][j]? = some (askD L ys pl) ∧ Srt (nmsD L) ys ∧ SrtD (pasD L) pl := fun j x hx => by
        match j, hx with
        | 0, hx => cases hx; exact ⟨l, xs, ds, ys1, pl1, rfl, e19 _ _ hl (fun ps z => by cases z), DaAll.nx e19 _ hA, okd, by omega, rfl, sn1, sp1⟩
        | 1, hx => cases hx; exact ⟨m, zs, es, ys2, pl2, rfl, e19 _ _ hm' (fun ps z => by cases z), DaAll.nx e19 _ hB, oke, by omega, rfl, sn2, sp2⟩
      refine lcL (walk_tup (xs := [V.ref l, V.ref m])) (st_of h9) (fun _ _ e h => ex_t e h) yAt_ex (by show 2 ≤ 40000; decide) (fun Dl i ys H' => DaAA (· ≠ Dl) H' ys (([askD ds ys1 pl1, askD es ys2 pl2]).take i)) (fun Dl i ys H H' te eb h => DaAA.move (fun a o n q => eb a o n q) (fun a q => q) _ h) (fun Dl => .nil) ?_ ?_
      · rintro Dl j x H10 H11 ys hj e10 ⟨rfl, hx⟩ hD0 hD hAs N N0 kN kN0
        obtain ⟨lj, us, L, yj, pj, rfl, hlj, hAj, okj, lj15, hat, snj, spj⟩ := sel j x hx
        refine ⟨rfl, ?_⟩
        refine ⟨_, rfl, by show 2 ≤ sizeLine; decide, fun t12 n12 => ?_⟩
        generalize hq12 : upd H11 t12 _ = H12
        obtain ⟨e12', h12⟩ := gen1 hq12 n12
        have n1 : t12 ≠ Dl := fun e => by rw [e, hD] at n12; cases n12
        have n2 : lj ≠ Dl := fun e => by rw [e, hD0] at hlj; cases hlj
        have nld : nlDs L = true := nlDs_iff.mpr fun d hd => nl_step (okj.1 d hd).1
        have e912 := e10.trans e12'
        have hD12 := e12' _ _ hD
        have hAL : DaAA (· ≠ Dl) H12 us L := DaAA.move (fun a o _ q => q) (fun a q z => by
          subst z
          rcases q with q | q | ⟨_, q⟩
          · exact q rfl
          · rw [hD12] at q; cases q
          · rw [hD12] at q; cases q) _ (nls_aw (A := fun a => a ≠ Dl) (H := H12) nld (DaAll.ex e912 _ hAj))
        refine ⟨t12, toldD L, (· ≠ Dl), rfl, .tup n1 h12 (.cons (.str _) (.cons (.lst n2 (e912 _ _ hlj) hAL) .nil)), .inr ⟨L, rfl, okj, lj15⟩, fun H13 t13 R e13 dR hR => ?_⟩
        obtain ⟨y', p', s1, s2, rfl⟩ := told_one dR rfl
        have ey : y' = yj := s1.one snj fun _ => Iff.rfl
        have ep : p' = pj := s2.one (fun d hd => by
          obtain ⟨p, hp, e⟩ := List.mem_filterMap.mp hd
          exact paP_pat (flat_pick (fun s hs => (okj.1 s hs).1) p hp) e) spj
        subst ey ep
        have hD13 := e13 _ _ hD12
        cases hR with
        | tup a1 a2 a3 =>
          cases a3 with
          | cons b1 b2 => cases b2 with
            | @cons v _ _ _ c1 c2 =>
              cases c2
              cases b1
              refine .inr (.inl ⟨t13, _, 1, v, rfl, rfl, st_of a2, atI_nat (j := 1) rfl, ?_⟩)
              refine kN _ _ (e12'.trans e13) ?_
              rw [List.take_add_one, hat]
              refine daaa_snoc (DaA.move (fun a o _ q => q) (fun a q z => by
                subst z
                rcases q with q | q | ⟨_, q⟩
                · exact q rfl
                · rw [hD12] at q; cases q
                · rw [hD13] at q; cases q) _ c1) (DaAA.move (fun a o _ q => (e12'.trans e13) _ _ q) (fun a q => q) _ hAs)
      · rintro Dl H10 ys hD0 e10 hD hyl hAs
        have e510 := e59.trans e10
        have f2 : fine (.list [askD ds ys1 pl1, askD es ys2 pl2]) := (fin_list (n := 6) (W := 5000000) (m := 2) (fun d hd => by
          simp only [List.mem_cons, List.not_mem_nil, or_false] at hd
          rcases hd with rfl | rfl
          · exact ask_fin okd sn1 sp1 (by omega)
          · exact ask_fin oke sn2 sp2 (by omega)) (Nat.le_refl _)).fine (by decide) (by decide)
        have dL : Da H10 (.ref l8) (.list [askD ds ys1 pl1, askD es ys2 pl2]) := .lst ((e9.trans e10) _ _ h8) (.cons (Da.ex (((e7.trans e8).trans e9).trans e10) _ hD6) (.cons (Da.ex ((e8.trans e9).trans e10) _ hD7) .nil))
        refine .inr ⟨_, _, dL.dp _ f2.1, (Da.lst hD (DaAA.da _ hAs)).dp _ f2.1, f2.shp, f2.shp, ?_⟩
        have eqr := PySem.SeqAt.eqv_refl (.list [askD ds ys1 pl1, askD es ys2 pl2]) f2.1
        show Q (.bl (PyData.eqv (.list [askD ds ys1 pl1, askD es ys2 pl2]) (.list [askD ds ys1 pl1, askD es ys2 pl2]))) H10
        rw [eqr]
        exact q _ (e15.trans (LamX.ExtN.of e510)) (tabs_ex e510 tabs5)
    · obtain ⟨d1, l1, x1, i1, _⟩ := id hy1
      obtain ⟨d2, l2, x2, i2, _⟩ := id hz1
      refine ⟨_, rfl, _, rfl, y, d1, _, z, d2, _, rfl, i1, rfl, i2, y, z, ds, es, rfl, hy1, hz1, okb, fun j hj H' dd e' hd' => ?_, fun hn H2 y2 e2 sc2 => ⟨⟨_, rfl⟩, ?_⟩⟩
      · exact hE 2 (.int (j : Int)) (.int (j : Int)) dd H' (.inl rfl) hd' (.int _) fun H2 t e2 hD => ⟨e'.trans e2, _, hD, .inl ⟨2, _, .inl rfl, by unfold madeD; rw [hj], rfl⟩⟩
      · refine ⟨y2, ds ++ es, rfl, sc2, okb, fun H3 l3 ys pl e3 sn sp hD => hZ (.ref l3) H3 fun t nt => ⟨(e2.trans e3).trans (Ex.new nt), _, .tup upd_same (.cons (.str _) (.cons (Da.ex (Ex.new nt) _ hD) .nil)), .inr ⟨ds ++ es, ys, pl, by unfold madeD; rw [hn]; rfl, sn, sp, rfl⟩⟩⟩
end
end Own

namespace Own
open PySem PySem.Spec PyProof.Rows L2 Evl
open L2H
theorem mk_sc {K : PySem.W.Frag} {C CW CB y d p : Addr} {H : Hp} {xs : List V} {ds : List PyData} {W : VK} {E : XK} (hy : H y = none) (hd : H d = none) (hne : d ≠ y) (hp : SqS H p xs) (hA : DaAll H xs ds) (ok : OkS ds) (nc : ∀ d ∈ ds.dropLast, isCl d = false)
    (z : ∀ H', Ex H H' → ScAt C H' y ds → W .non H') : spSI K C CW CB (.ref y :: ([.ref p] ++ [])) (upd (upd H d (.own y)) y (.ins C d [])) W E :=
  mk_scE hy hd hne hp hA ok (fun i h => by rw [show fc ds = none from fc_none nc] at h; cases h) fun _ => z
theorem BagAt.nx {H H' : Hp} {b : Addr} (e : LamX.ExtN H H') (h : BagAt H b) : BagAt H' b := by
  obtain ⟨c, ns', q1, q2, q3⟩ := h
  exact ⟨c, ns', e _ _ q1 (fun ps z => by cases z), e _ _ q2 (fun ps z => by cases z), q3⟩
theorem WorldAt.nx {H H' : Hp} {wv : V} {ns ts : List Str} (e : LamX.ExtN H H') (h : WorldAt H wv ns ts) : WorldAt H' wv ns ts := by
  obtain ⟨d, pn, pt, kvs, h1, h2, h3, h4, h5, h6⟩ := h
  exact ⟨d, pn, pt, kvs, h1, e _ _ h2 (fun ps z => by cases z), h3, h4, e _ _ h5 (fun ps z => by cases z), e _ _ h6 (fun ps z => by cases z)⟩
/-- what is kept through a turn -/
structure Kp (C b tb tb2 : Addr) (wv : V) (ns ts : List Str) (y1 y2 ls lm : Addr) (xs zs : List V) (ds es : List PyData) (H : Hp) : Prop where
  bag : BagAt H b
  wrl : WorldAt H wv ns ts
  tabs : LamX.Tabs (TB2 tb tb2) H
  ls : H ls = some (.lst xs)
  A : DaAll H xs ds
  lm : H lm = some (.lst zs)
  B : DaAll H zs es
  s1 : ScAt C H y1 ds
  s2 : ScAt C H y2 es
theorem Kp.nx {C b tb tb2 : Addr} {wv : V} {ns ts : List Str} {y1 y2 ls lm : Addr} {xs zs : List V} {ds es : List PyData} {H H' : Hp} (k : Kp C b tb tb2 wv ns ts y1 y2 ls lm xs zs ds es H) (e : LamX.ExtN H H') (t : LamX.Tabs (TB2 tb tb2) H') : Kp C b tb tb2 wv ns ts y1 y2 ls lm xs zs ds es H' :=
  ⟨BagAt.nx e k.bag, WorldAt.nx e k.wrl, t, e _ _ k.ls (fun ps z => by cases z), DaAll.nx e _ k.A, e _ _ k.lm (fun ps z => by cases z), DaAll.nx e _ k.B, k.s1.nx e, k.s2.nx e⟩
theorem Kp.ex {C b tb tb2 : Addr} {wv : V} {ns ts : List Str} {y1 y2 ls lm : Addr} {xs zs : List V} {ds es : List PyData} {H H' : Hp} (k : Kp C b tb tb2 wv ns ts y1 y2 ls lm xs zs ds es H) (e : Ex H H') : Kp C b tb tb2 wv ns ts y1 y2 ls lm xs zs ds es H' :=
  k.nx (LamX.ExtN.of e) (tabs_ex e k.tabs)
/-- an index that is asked with -/
def IdOk (n : Nat) (d : PyData) : Prop := d ∈ ixD n ∨ ∃ i : Nat, i < n ∧ d = .int (i : Int)
theorem tl3 (d : PyData) : tlE 3 d = .tuple [.str "no step", d] := rfl
theorem idok_fin {n : Nat} {d : PyData} (hn : n ≤ 30) (h : IdOk n d) : okD 40 16000000 d ∧ fine (tlE 3 d) := by
  have fnd : ∀ {d : PyData}, fin 2 4000 d → fine (tlE 3 d) := fun {d} h => by
    rw [tl3]
    refine (fin_tup (n := 2) (W := 4000) (m := 2) (fun x hx => ?_) (Nat.le_refl _)).fine (by decide) (by decide)
    simp only [List.mem_cons, List.not_mem_nil, or_false] at hx
    rcases hx with rfl | rfl
    · exact ⟨by decide +kernel, by decide +kernel, by decide +kernel, by decide +kernel⟩
    · exact h
  have gi : ∀ {i : Int}, i.natAbs.log2 < 1920 → okD 40 16000000 (.int i) ∧ fine (tlE 3 (.int i)) := fun h => ⟨⟨decide_eq_true h, Nat.zero_le _, by show 1921 ≤ _; decide⟩, fnd ((fin_int h).mono (by decide) (by decide))⟩
  have small : ∀ {i : Int}, i.natAbs < 100 → i.natAbs.log2 < 1920 := fun {i} h => Nat.lt_of_le_of_lt (Nat.log2_le_self _) (by omega)
  rcases h with h | ⟨i, hi, rfl⟩
  · simp only [ixD, List.mem_cons, List.not_mem_nil, or_false] at h
    rcases h with rfl | rfl | rfl | rfl | rfl | rfl | rfl | rfl | rfl | rfl
    · exact gi (small (by decide))
    · exact gi (small (by omega))
    · exact gi (small (by omega))
    · exact ⟨⟨rfl, by decide +kernel, by decide +kernel⟩, fnd ⟨by decide +kernel, by decide +kernel, by decide +kernel, by decide +kernel⟩⟩
    · exact ⟨⟨rfl, by decide +kernel, by decide +kernel⟩, fnd ⟨by decide +kernel, by decide +kernel, by decide +kernel, by decide +kernel⟩⟩
    · exact ⟨⟨by decide +kernel, by decide +kernel, by decide +kernel⟩, fnd ⟨by decide +kernel, by decide +kernel, by decide +kernel, by decide +kernel⟩⟩
    · exact ⟨⟨by decide +kernel, by decide +kernel, by decide +kernel⟩, fnd ⟨by decide +kernel, by decide +kernel, by decide +kernel, by decide +kernel⟩⟩
    · exact gi (by decide +kernel)
    · exact ⟨⟨rfl, by decide +kernel, by decide +kernel⟩, fnd ⟨by decide +kernel, by decide +kernel, by decide +kernel, by decide +kernel⟩⟩
    · exact ⟨⟨by decide +kernel, by decide +kernel, by decide +kernel⟩, fnd ⟨by decide +kernel, by decide +kernel, by decide +kernel, by decide +kernel⟩⟩
  · exact gi (small (by omega))
/-- what is due of the three changes -/
def wsL (ds : List PyData) (i : Nat) (g : PyData) : List PyData := ds.take i ++ [g] ++ ds.drop (i + 1)
def woL (ds : List PyData) (i : Nat) : List PyData := ds.take i ++ ds.drop (i + 1)
def swL (ds : List PyData) (i : Nat) (s t : PyData) : List PyData := ds.take i ++ [t, s] ++ ds.drop (i + 2)
def dueWs (ds : List PyData) (d g : PyData) : PyData := match idx d ds.length with | none => tlE 3 d | some i => if stepD g = true then madeD (wsL ds i g) else tlE 4 (.int 1)
def dueWo (ds : List PyData) (d : PyData) : PyData := match idx d ds.length with | none => tlE 3 d | some i => toldD (woL ds i)
def dueSw (ds : List PyData) (d : PyData) : PyData := match idx d ds.length with | none => tlE 3 d | some i => (match ds[i]?, ds[i + 1]? with | some s, some t => madeD (swL ds i s t) | _, _ => tlE 3 (.int ((i : Int) + 1)))
theorem ws_ok {ds : List PyData} {i : Nat} {g : PyData} (ok : OkS ds) (l : ds.length ≤ 7) (hi : i < ds.length) (k : stepD g = true) (o : okD 4 45000 g) : OkS (wsL ds i g) ∧ (wsL ds i g).length ≤ 7 := by
  have e : (wsL ds i g).length = ds.length := by unfold wsL; simp; omega
  refine ⟨⟨fun s hs => ?_, by omega⟩, by omega⟩
  unfold wsL at hs
  rcases List.mem_append.mp hs with hs | hs
  · rcases List.mem_append.mp hs with hs | hs
    · exact ok.1 s (List.mem_of_mem_take hs)
    · rw [List.mem_singleton.mp hs]; exact ⟨k, o⟩
  · exact ok.1 s (List.mem_of_mem_drop hs)
theorem wo_ok {ds : List PyData} {i : Nat} (ok : OkS ds) (l : ds.length ≤ 7) : OkS (woL ds i) ∧ (woL ds i).length ≤ 7 := by
  have e : (woL ds i).length ≤ ds.length := by unfold woL; simp; omega
  exact ⟨ok.sub (fun s hs => (List.mem_append.mp hs).elim List.mem_of_mem_take List.mem_of_mem_drop) (by omega), by omega⟩
theorem sw_ok {ds : List PyData} {i : Nat} {s t : PyData} (ok : OkS ds) (l : ds.length ≤ 7) (h1 : ds[i]? = some s) (h2 : ds[i + 1]? = some t) : OkS (swL ds i s t) ∧ (swL ds i s t).length ≤ 7 := by
  have b : i + 1 < ds.length := (List.getElem?_eq_some_iff.mp h2).1
  have e : (swL ds i s t).length = ds.length := by unfold swL; simp; omega
  refine ⟨ok.sub (fun x hx => ?_) (by omega), by omega⟩
  unfold swL at hx
  rcases List.mem_append.mp hx with hx | hx
  · rcases List.mem_append.mp hx with hx | hx
    · exact List.mem_of_mem_take hx
    · simp only [List.mem_cons, List.not_mem_nil, or_false] at hx
      rcases hx with rfl | rfl
      · exact List.mem_of_getElem? h2
      · exact List.mem_of_getElem? h1
  · exact List.mem_of_mem_drop hx
theorem fine_w1 : fine (tlE 4 (.int 1)) := ⟨by decide +kernel, by decide +kernel, by decide +kernel, by decide +kernel⟩
theorem ws_due {ds : List PyData} {d g : PyData} (ok : OkS ds) (l : ds.length ≤ 7) (hd : IdOk ds.length d) (o : stepD g = true → okD 4 45000 g) : DueOk (dueWs ds d g) := by
  unfold dueWs
  cases hi : idx d ds.length with
  | none => exact .inl ⟨3, d, by simp, rfl, (idok_fin (by omega) hd).2⟩
  | some i =>
    have b := (idx_inv hi).2
    by_cases k : stepD g = true
    · show DueOk (if stepD g = true then _ else _)
      rw [if_pos k]
      have z := ws_ok ok l b k (o k)
      exact made_ok z.1 (by omega)
    · show DueOk (if stepD g = true then _ else _)
      rw [if_neg k]
      exact .inl ⟨4, _, by simp, rfl, fine_w1⟩
theorem wo_due {ds : List PyData} {d : PyData} (ok : OkS ds) (l : ds.length ≤ 7) (hd : IdOk ds.length d) : DueOk (dueWo ds d) := by
  unfold dueWo
  cases hi : idx d ds.length with
  | none => exact .inl ⟨3, d, by simp, rfl, (idok_fin (by omega) hd).2⟩
  | some i =>
    have z := wo_ok (i := i) ok l
    exact .inr ⟨_, rfl, z.1, by omega⟩
theorem fine_n1 {i : Nat} (h : i < 30) : fine (tlE 3 (.int ((i : Int) + 1))) := (idok_fin (n := 30) (d := .int ((i : Int) + 1)) (Nat.le_refl _) (by
  by_cases e : i + 1 = 30
  · refine .inl ?_
    have e2 : ((i : Int) + 1) = ((30 : Nat) : Int) := by omega
    rw [e2]
    exact List.mem_cons_of_mem _ List.mem_cons_self
  · exact .inr ⟨i + 1, by omega, rfl⟩)).2
theorem sw_due {ds : List PyData} {d : PyData} (ok : OkS ds) (l : ds.length ≤ 7) (hd : IdOk ds.length d) : DueOk (dueSw ds d) := by
  unfold dueSw
  cases hi : idx d ds.length with
  | none => exact .inl ⟨3, d, by simp, rfl, (idok_fin (by omega) hd).2⟩
  | some i =>
    have b := (idx_inv hi).2
    show DueOk (match ds[i]?, ds[i + 1]? with | some s, some t => madeD (swL ds i s t) | _, _ => tlE 3 (.int ((i : Int) + 1)))
    cases h1 : ds[i]? with
    | none => exact .inl ⟨3, _, by simp, rfl, fine_n1 (by omega)⟩
    | some s =>
      cases h2 : ds[i + 1]? with
      | none => exact .inl ⟨3, _, by simp, rfl, fine_n1 (by omega)⟩
      | some t =>
        have z := sw_ok ok l h1 h2
        exact made_ok z.1 (by omega)
/-- without a step, no close comes to stand ahead of the last -/
theorem wo_fc {ds : List PyData} {i : Nat} (nc : ∀ d ∈ ds.dropLast, isCl d = false) : fc (woL ds i) = none := fc_none fun d hd => by
  unfold woL at hd
  by_cases h : ds.drop (i + 1) = []
  · rw [h, List.append_nil] at hd
    refine nc d ?_
    have h2 : ds.length ≤ i + 1 := List.drop_eq_nil_iff.mp h
    rw [List.dropLast_eq_take] at hd ⊢
    rw [List.length_take, List.take_take] at hd
    have e : min (min i ds.length - 1) i = min (min (min i ds.length - 1) i) (ds.length - 1) := by omega
    rw [e, ← List.take_take] at hd
    exact List.mem_of_mem_take hd
  · rw [List.dropLast_append_of_ne_nil h] at hd
    rcases List.mem_append.mp hd with hd | hd
    · have h2 : i + 1 < ds.length := by
        rcases Nat.lt_or_ge (i + 1) ds.length with z | z
        · exact z
        · exact absurd (List.drop_eq_nil_iff.mpr z) h
      refine nc d ?_
      rw [List.dropLast_eq_take]
      have e : ds.take i = (ds.take (ds.length - 1)).take i := by rw [List.take_take, Nat.min_eq_left (by omega)]
      rw [e] at hd
      exact List.mem_of_mem_take hd
    · refine nc d ?_
      rw [List.dropLast_eq_take] at hd ⊢
      have hd := List.mem_of_mem_take (l := (ds.drop (i + 1)).take ((ds.drop (i + 1)).length - 1)) (i := (ds.drop (i + 1)).length) (by rw [List.take_of_length_le (by rw [List.length_take]; omega)]; exact hd)
      rw [List.length_drop, List.take_drop] at hd
      have e : i + 1 + (ds.length - (i + 1) - 1) = ds.length - 1 := by
        rcases Nat.lt_or_ge (i + 1) ds.length with z | z
        · omega
        · exact absurd (List.drop_eq_nil_iff.mpr z) h
      rw [e] at hd
      exact List.mem_of_mem_drop hd
theorem ws_n {ds : List PyData} {d g : PyData} (h : idx d ds.length = none) : dueWs ds d g = tlE 3 d := by unfold dueWs; rw [h]
theorem ws_w {ds : List PyData} {d g : PyData} {i : Nat} (h : idx d ds.length = some i) (k : stepD g = false) : dueWs ds d g = tlE 4 (.int 1) := by
  unfold dueWs; rw [h]
  exact if_neg (by rw [k]; decide)
theorem ws_m {ds : List PyData} {d g : PyData} {i : Nat} (h : idx d ds.length = some i) (k : stepD g = true) : dueWs ds d g = madeD (wsL ds i g) := by
  unfold dueWs; rw [h]
  exact if_pos k
theorem wo_n {ds : List PyData} {d : PyData} (h : idx d ds.length = none) : dueWo ds d = tlE 3 d := by unfold dueWo; rw [h]
theorem wo_m {ds : List PyData} {d : PyData} {i : Nat} (h : idx d ds.length = some i) : dueWo ds d = toldD (woL ds i) := by unfold dueWo; rw [h]
theorem sw_n {ds : List PyData} {d : PyData} (h : idx d ds.length = none) : dueSw ds d = tlE 3 d := by unfold dueSw; rw [h]
theorem sw_l {ds : List PyData} {d : PyData} {i : Nat} (h : idx d ds.length = some i) (e : i + 1 = ds.length) : dueSw ds d = tlE 3 (.int ((i : Int) + 1)) := by
  unfold dueSw; rw [h]
  show (match ds[i]?, ds[i + 1]? with | some s, some t => madeD (swL ds i s t) | _, _ => tlE 3 (.int ((i : Int) + 1))) = _
  rw [List.getElem?_eq_none (l := ds) (i := i + 1) (by omega)]
  cases ds[i]? <;> rfl
theorem sw_m {ds : List PyData} {d s t : PyData} {i : Nat} (h : idx d ds.length = some i) (h1 : ds[i]? = some s) (h2 : ds[i + 1]? = some t) : dueSw ds d = madeD (swL ds i s t) := by
  unfold dueSw; rw [h]
  show (match ds[i]?, ds[i + 1]? with | some s, some t => madeD (swL ds i s t) | _, _ => tlE 3 (.int ((i : Int) + 1))) = _
  rw [h1, h2]
theorem mk_b {L : List PyData} {j : Nat} (h : fc L = some j) : madeD L = tlE 2 (.int (j : Int)) := by unfold madeD; rw [h]
theorem mk_t {L : List PyData} (h : fc L = none) : madeD L = toldD L := by unfold madeD; rw [h]; rfl
theorem okd_s8 {d : PyData} (g : gD d = true) (h : blankD d = true ∨ relD d = true ∨ nmD d = true) : okD 0 85 d := by
  have z : ∃ z : Str, d = .str z ∧ z.length ≤ 8 := by
    cases d with
    | str z =>
      refine ⟨z, rfl, ?_⟩
      rcases h with h | h | h
      · have e : z = "" := of_decide_eq_true h
        rw [e]; decide
      · have h : isR3 z = true := h
        rcases isR_cases (isR_of h) with rfl | rfl | rfl | rfl <;> decide +kernel
      · exact nm_len h
    | _ => rcases h with h | h | h <;> cases h
  obtain ⟨z, rfl, l⟩ := z
  exact okD_str (L := 8) g l
theorem okd_pat {d : PyData} (h : patD d = true) (g : gD d = true) : okD 1 300 d := by
  obtain ⟨a, b, c, rfl, h1, h2, h3⟩ := pat_inv h
  have gs := gDs_iff.mp (show gDs [a, b, c] = true from g)
  refine (okD_tup (n := 0) (W := 85) (m := 3) (fun d hd => ?_) (Nat.le_refl _)).mono (by decide) (by decide)
  have gd := gs d hd
  have part : ∀ {x : PyData}, partD x = true → blankD x = true ∨ relD x = true ∨ nmD x = true := fun {x} h => by
    unfold partD at h
    rw [Bool.or_eq_true] at h
    exact h.elim .inl fun z => .inr (.inr z)
  simp only [List.mem_cons, List.not_mem_nil, or_false] at hd
  rcases hd with rfl | rfl | rfl
  · rw [Bool.or_eq_true] at h1
    exact okd_s8 gd (h1.elim .inl fun z => .inr (.inl z))
  · exact okd_s8 gd (part h2)
  · exact okd_s8 gd (part h3)
theorem okd_bare {d : PyData} (h : bareD d = true) (g : gD d = true) : okD 2 4000 d := by
  rcases bare_inv h with rfl | ⟨w, b, rfl, k2⟩
  · exact ⟨by decide +kernel, by decide +kernel, by decide +kernel⟩
  · have gb := gD_two g
    refine (okD_tup (n := 1) (W := 1921) (m := 2) (fun d hd => ?_) (Nat.le_refl _)).mono (by decide) (by decide)
    simp only [List.mem_cons, List.not_mem_nil, or_false] at hd
    rcases hd with rfl | rfl
    · rcases arg_word k2 with rfl | rfl | rfl | rfl <;> exact ⟨by decide +kernel, by decide +kernel, by decide +kernel⟩
    · rcases k2 with ⟨_, h⟩ | ⟨_, h⟩ | ⟨_, h⟩
      · exact (okd_s8 gb (.inr (.inr h))).mono (by decide) (by decide)
      · cases d with
        | int i => exact ⟨gb, by show 0 ≤ 1; decide, by show 1921 ≤ 1921; decide⟩
        | _ => cases h
      · exact (okd_pat h gb).mono (by decide) (by decide)
theorem okd_pick {d : PyData} (h : pickD d = true) (g : gD d = true) : okD 3 9000 d := by
  rcases pick_inv h with k | ⟨b, rfl, k⟩
  · exact (okd_bare k g).mono (by decide) (by decide)
  · refine (okD_tup (n := 2) (W := 4000) (m := 2) (fun d hd => ?_) (Nat.le_refl _)).mono (by decide) (by decide)
    simp only [List.mem_cons, List.not_mem_nil, or_false] at hd
    rcases hd with rfl | rfl
    · exact ⟨by decide +kernel, by decide +kernel, by decide +kernel⟩
    · exact okd_bare k (gD_two g)
/-- a step whose numbers can be told is small -/
theorem okd_step {d : PyData} (h : stepD d = true) (g : gD d = true) : okD 4 45000 d := by
  obtain ⟨z, ds, rfl⟩ : ∃ z ds, d = .tuple (.str z :: ds) := by
    match d, h with
    | .tuple (.str z :: ds), _ => exact ⟨z, ds, rfl⟩
  obtain ⟨hkl, hl, hpn⟩ := stepT_kl (z := z) (ds := ds) h
  have g1 : gDs (PyData.str z :: ds) = true := g
  refine okD_stp hkl (fun x hx => ?_) (by omega)
  have gx := gDs_iff.mp g1 x (List.mem_cons_of_mem _ hx)
  rcases hpn x hx with h | h
  · exact (okd_pick h gx).mono (by decide) (by decide)
  · exact (okd_s8 gx (.inr (.inr h))).mono (by decide) (by decide)
def spLaw (K : PySem.W.Frag) (ts : List Addr) : Sp := fun vs H Q _ => ∃ (a : Addr) (ns : List Int), vs = [.ref a] ∧ SqL K H a (ns.map V.int) ∧ ns.length ≤ 63 ∧ (∀ t ∈ ts, H t = some (.tbl #[])) ∧ ∀ H', Q (.bl true) H'
section
variable {P : Program} {w : World} {K : PySem.W.Frag} {mg : Str → Option Value} {base : Heap} {rel : Addr} {cl : Nat → Addr} {PE_ C : Addr}
theorem ok_law {fl tb tb2 ct g : Addr} {fdl : FuncData} {oc kVg dcg pmg cdg ctg : Value} {od ang : Option Addr} {osl : Array (Option Value)} (T : Txt0 mg) (TI : TxtI K mg rel) (hsys : SysAt base) (hne : tb ≠ tb2) (hcode : fdl.code = .ref ct) (TB : LamX.TabB base mg ct tb) (F : Fun K "law" "law" s_law fl fdl)
    (hm : mg "_law_heard" = some (.ref g)) (hk : PySem.W.keepIn K (.ref g) = true) (lk : K.lookup g = some ⟨oc, od, .func (PySem.W.fnOf "_law_heard" "_law_heard" (defArgs s_l_heard) (defBody s_l_heard) (defScope s_l_heard) .none kVg dcg pmg ang cdg ctg), osl⟩) (hcg : PySem.W.codeIn K cdg "_law_heard" = true)
    (hb_h : Binds K (PySem.W.fnOf "_law_heard" "_law_heard" (defArgs s_l_heard) (defBody s_l_heard) (defScope s_l_heard) .none kVg dcg pmg ang cdg ctg) ["_law_act"] [])
    (ES : Er33 P w K mg base cl PE_) (c_error : CalP P w K mg base 1 "_law_error" (spErr cl)) (hC : mg "Script" = some (.ref C)) (S : ClsP K C) (MK : MakN P w K mg base 7 "Script" C (spSI K C (cl 4) (cl 2)))
    (M_with_step : MetN P w K mg base 9 C "with_step" (spWs C (cl 3) (cl 4) (cl 2))) (M_without : MetN P w K mg base 9 C "without" (spWo C (cl 3) (cl 2))) (M_swapped : MetN P w K mg base 9 C "swapped" (spSw C (cl 3) (cl 2)))
    (c_l_bag : CalG P w K mg base 1 "_law_bag" (spBag K)) (c_l_take : CalG P w K mg base 1 "_law_take" spTake) (c_l_world : CalG P w K mg base 3 "_law_world" spWorld) (c_l_drawn : CalG P w K mg base 7 "_law_drawn" spDr) (c_l_index : CalG P w K mg base 2 "_law_index" spIx) (c_l_step_any : CalG P w K mg base 7 "_law_step_any" spSa30) (c_l_bent : CalG P w K mg base 10 "_law_bent" (spBent 7))
    (c_l_is_index : CalG P w K mg base 2 "_law_is_index" spIi) (c_l_is_step : CalG P w K mg base 5 "_law_is_step" (spIs stepD)) (c_l_made : CalG P w K mg base 1 "_law_made" spMd)
    (c_l_alike : CalG P w K mg base 1 "_law_alike" (spAlike K)) (c_l_asked_of : CalG P w K mg base 6 "_law_asked_of" (spAo C)) (c_l_tells : CalG P w K mg base 3 "_law_tells" spTl) (c_l_both_right : CalG P w K mg base 12 "_law_both_right" (spBr C tb tb2)) : FnG P w K mg base 13 fl fdl ["_law_script"] (spLaw K [tb, tb2]) := by
  refine fn_mkC hcode F sc_law (fun vs H Q E h => ?_) (fun A outer s H vs Q E hr hG h => ?_)
  · obtain ⟨a, ns, rfl, _⟩ := h
    rfl
  · obtain ⟨a, ms, rfl, ha, hl, htb, q⟩ := h
    refine ⟨_, (pss_cons (ps_set (i := 1) sc_law.nd rfl (Or.inl rfl) (pe_cG c_l_bag hr hG (by decide) rfl (pa_cons (pv 0) pa_nil)))
      (pss_cons (ps_forO (ps_for PassesOwn.never rfl (pi_range1 rfl T.range (pa_cons pe_int pa_nil)) (pg_name (i := 2) sc_law.nd rfl (Or.inl rfl))
        (pss_cons (ps_set (i := 3) sc_law.nd rfl (Or.inl rfl) (pe_cG c_l_world hr hG (by decide) rfl (pa_cons (pv 1) pa_nil)))
      (pss_cons (ps_par (i := 4) (j := 5) rfl sc_law.nd rfl rfl (by decide) rfl rfl (pa_cons (pe_cG c_l_drawn hr hG (by decide) rfl (pa_cons (pv 1) (pa_cons (pv 3) pa_nil))) (pa_cons (pe_cG c_l_drawn hr hG (by decide) rfl (pa_cons (pv 1) (pa_cons (pv 3) pa_nil))) pa_nil)) (by first | rfl | with_unfolding_all rfl | kernel_rfl))
      (pss_cons (ps_asg (pe_tup (pa_cons (pe_mkN MK hr hG (by decide) (fun σ => L2N.passAt takes0N σ) rfl (pa_cons (pv 4) pa_nil)) (pa_cons (pe_mkN MK hr hG (by decide) (fun σ => L2N.passAt takes0N σ) rfl (pa_cons (pv 5) pa_nil)) pa_nil))) (pg_tup rfl (pgs_cons (pg_name (i := 6) sc_law.nd rfl (Or.inr rfl)) (pgs_cons (pg_name (i := 7) sc_law.nd rfl (Or.inl rfl)) pgs_nil))))
      (pss_cons (ps_forO (ps_for PassesOwn.never rfl (pi_range1 rfl T.range (pa_cons pe_int pa_nil)) (pg_name (i := 8) sc_law.nd rfl (Or.inl rfl))
        (pss_cons (ps_asg (pe_tup (pa_cons (pe_cG c_l_index hr hG (by decide) rfl (pa_cons (pv 1) (pa_cons (pe_callB callLen (by rfl) T.len PySem.boot_len (pa_cons (pv 4) pa_nil)) pa_nil))) (pa_cons (pe_cG c_l_step_any hr hG (by decide) rfl (pa_cons (pv 1) (pa_cons (pv 3) (pa_cons (pe_tup (pa_cons (pe_lst (pa_cons pe_int pa_nil)) (pa_cons (pe_lst pa_nil) pa_nil))) pa_nil)))) pa_nil))) (pg_tup rfl (pgs_cons (pg_name (i := 9) sc_law.nd rfl (Or.inr rfl)) (pgs_cons (pg_name (i := 10) sc_law.nd rfl (Or.inr rfl)) pgs_nil))))
      (Evl.pss_cut (ps_set (i := 10) sc_law.nd rfl (Or.inr rfl) (pe_ifExp (pt_cmpR (opEq hr) (pe_cG c_l_take hr hG (by decide) rfl (pa_cons (pv 1) (pa_cons pe_int pa_nil))) pe_int (nomark _)) (pe_cG c_l_bent hr hG (by decide) rfl (pa_cons (pv 1) (pa_cons (pv 10) pa_nil))) (pv 10)))
      (pss_cons (ps_set (i := 11) sc_law.nd rfl (Or.inl rfl) (pe_cG c_l_is_index hr hG (by decide) rfl (pa_cons (pv 9) (pa_cons (pe_callB callLen (by rfl) T.len PySem.boot_len (pa_cons (pv 4) pa_nil)) pa_nil))))
      (pss_cons (ps_set (i := 12) sc_law.nd rfl (Or.inl rfl) (pe_tup (pa_cons pe_str (pa_cons (pv 9) pa_nil))))
      (Evl.pss_cut (ps_if (pt_val (pv 11)) (pss_cons (ps_set (i := 12) sc_law.nd rfl (Or.inl rfl) (pe_tup (pa_cons pe_str (pa_cons pe_int pa_nil))))
      (pss_one (ps_if (pt_val (pe_cG c_l_is_step hr hG (by decide) rfl (pa_cons (pv 10) pa_nil))) (pss_cons (ps_set (i := 13) sc_law.nd rfl (Or.inl rfl) (pe_slice slAny (pv 4) (po_some (pe_op opAdd (pv 9) pe_int)) po_none))
      (pss_one (ps_set (i := 12) sc_law.nd rfl (Or.inl rfl) (pe_cG c_l_made hr hG (by decide) rfl (pa_cons (pe_op opAdd (pe_op opAdd (pe_slice slAny (pv 4) po_none (po_some (pv 9))) (pe_lst (pa_cons (pv 10) pa_nil))) (pv 13)) pa_nil))))) pss_nil))) pss_nil)
      (pss_cons (ps_if (pt_not (pt_val (pe_cG c_l_alike hr hG (by decide) rfl (pa_cons (pe_lamS (k := 9) (T := TB2 tb tb2) rfl hm hk lk hcg hb_h sc_l_heard rfl (Or.inl rfl) (gives_heard ES c_error) TB rfl (tb2_1 _ _) (tb2_o1 hne) (hr.mono (by decide)) hG (LamX.lamS_by (sc := defScope s_law) (by decide +kernel)) rfl (fun _ _ _ _ _ => rfl) (fun A2 outer2 s2 H2 E2 f2 c2 hr2 hG2 => (pe_cG c_l_asked_of hr2 hG2 (by decide) rfl (pa_cons (pe_mtN M_with_step (pv 6) hr2 hG2 (by decide) (fun σ => L2N.passAt (L2N.takes_of rfl rfl rfl rfl) σ) (pa_cons (pv 9) (pa_cons (pv 10) pa_nil))) pa_nil)))) (pa_cons (pe_cG c_l_tells hr hG (by decide) rfl (pa_cons (pv 12) pa_nil)) pa_nil))))) (pss_one (ps_ret pe_bl)) pss_nil)
      (Evl.pss_cut (ps_set (i := 12) sc_law.nd rfl (Or.inl rfl) (pe_ifExp (pt_val (pv 11)) (pe_tup (pa_cons pe_str (pa_cons (pe_op opAdd (pe_slice slAny (pv 4) po_none (po_some (pv 9))) (pe_slice slAny (pv 4) (po_some (pe_op opAdd (pv 9) pe_int)) po_none)) pa_nil))) (pe_tup (pa_cons pe_str (pa_cons (pv 9) pa_nil)))))
      (pss_cons (ps_if (pt_not (pt_val (pe_cG c_l_alike hr hG (by decide) rfl (pa_cons (pe_lamS (k := 9) (T := TB2 tb tb2) rfl hm hk lk hcg hb_h sc_l_heard rfl (Or.inl rfl) (gives_heard ES c_error) TB rfl (tb2_1 _ _) (tb2_o1 hne) (hr.mono (by decide)) hG (LamX.lamS_by (sc := defScope s_law) (by decide +kernel)) rfl (fun _ _ _ _ _ => rfl) (fun A2 outer2 s2 H2 E2 f2 c2 hr2 hG2 => (pe_cG c_l_asked_of hr2 hG2 (by decide) rfl (pa_cons (pe_mtN M_without (pv 6) hr2 hG2 (by decide) (fun σ => L2N.passAt (L2N.takes_of rfl rfl rfl rfl) σ) (pa_cons (pv 9) pa_nil)) pa_nil)))) (pa_cons (pe_cG c_l_tells hr hG (by decide) rfl (pa_cons (pv 12) pa_nil)) pa_nil))))) (pss_one (ps_ret pe_bl)) pss_nil)
      (pss_cons (ps_set (i := 12) sc_law.nd rfl (Or.inl rfl) (pe_tup (pa_cons pe_str (pa_cons (pv 9) pa_nil))))
      (Evl.pss_cut (ps_if (PW.pt (pw_and (pt_val (pv 11)) (pw_and1 (pt_cmpR (opEq hr) (pe_op opAdd (pv 9) pe_int) (pe_callB callLen (by rfl) T.len PySem.boot_len (pa_cons (pv 4) pa_nil)) (nomark _))))) (pss_one (ps_set (i := 12) sc_law.nd rfl (Or.inl rfl) (pe_tup (pa_cons pe_str (pa_cons (pe_op opAdd (pv 9) pe_int) pa_nil))))) (pss_one (ps_if (pt_val (pv 11)) (pss_cons (ps_set (i := 14) sc_law.nd rfl (Or.inl rfl) (pe_lst (pa_cons (pe_ix ixAny (pv 4) (pe_op opAdd (pv 9) pe_int) (fun _ _ => rfl)) (pa_cons (pe_ix ixAny (pv 4) (pv 9) (fun _ _ => rfl)) pa_nil))))
      (pss_one (ps_set (i := 12) sc_law.nd rfl (Or.inl rfl) (pe_cG c_l_made hr hG (by decide) rfl (pa_cons (pe_op opAdd (pe_op opAdd (pe_slice slAny (pv 4) po_none (po_some (pv 9))) (pv 14)) (pe_slice slAny (pv 4) (po_some (pe_op opAdd (pv 9) pe_int)) po_none)) pa_nil))))) pss_nil)))
      (pss_one (ps_if (pt_not (pt_val (pe_cG c_l_alike hr hG (by decide) rfl (pa_cons (pe_lamS (k := 9) (T := TB2 tb tb2) rfl hm hk lk hcg hb_h sc_l_heard rfl (Or.inl rfl) (gives_heard ES c_error) TB rfl (tb2_1 _ _) (tb2_o1 hne) (hr.mono (by decide)) hG (LamX.lamS_by (sc := defScope s_law) (by decide +kernel)) rfl (fun _ _ _ _ _ => rfl) (fun A2 outer2 s2 H2 E2 f2 c2 hr2 hG2 => (pe_cG c_l_asked_of hr2 hG2 (by decide) rfl (pa_cons (pe_mtN M_swapped (pv 6) hr2 hG2 (by decide) (fun σ => L2N.passAt (L2N.takes_of rfl rfl rfl rfl) σ) (pa_cons (pv 9) pa_nil)) pa_nil)))) (pa_cons (pe_cG c_l_tells hr hG (by decide) rfl (pa_cons (pv 12) pa_nil)) pa_nil))))) (pss_one (ps_ret pe_bl)) pss_nil))))))))))))))
      (pss_one (ps_if (pt_not (pt_val (pe_cG c_l_both_right hr hG (by decide) rfl (pa_cons (pv 6) (pa_cons (pv 7) (pa_cons (pv 4) (pa_cons (pv 5) pa_nil))))))) (pss_one (ps_ret pe_bl)) pss_nil))))))))
      (pss_one (ps_ret pe_bl)))), ?_⟩
    refine ⟨_, rfl, a, ms, rfl, ha, hl, fun H1 b e1 hb => ?_⟩
    have tabs1 : LamX.Tabs (TB2 tb tb2) H1 := fun p hp => by
      simp only [TB2, List.mem_cons, List.not_mem_nil, or_false] at hp
      rcases hp with rfl | rfl
      · exact ⟨#[], e1 _ _ (htb tb (by simp)), by exact trivial, fun pos cv hc => by cases hc⟩
      · exact ⟨#[], e1 _ _ (htb tb2 (by simp)), by exact trivial, fun pos cv hc => by cases hc⟩
    refine ⟨8, rfl, by decide, by decide, ?_⟩
    refine frG (walk_range (lo := 0) (n := 8)) (fun i σ H' => ∃ x2 x3 x4 x5 x6 x7 x8 x9 x10 x11 x12 x13 x14 : Option V, σ = [some (.ref a), some (.ref b), x2, x3, x4, x5, x6, x7, x8, x9, x10, x11, x12, x13, x14] ∧ BagAt H' b ∧ LamX.Tabs (TB2 tb tb2) H') ⟨_, _, _, _, _, _, _, _, _, _, _, _, _, rfl, hb, tabs1⟩ (fun _ _ _ _ _ => trivial) ?_ ?_
    · rintro i x σ H2 H2' hi ⟨x2, x3, x4, x5, x6, x7, x8, x9, x10, x11, x12, x13, x14, rfl, hb2, tabs2⟩ ⟨rfl, rfl⟩
      refine ⟨_, rfl, b, rfl, hb2, fun H3 wv ns ts e3 hwv hw => ?_⟩
      refine ⟨_, rfl, _, rfl, b, wv, ns, ts, rfl, hb2.ex e3, hwv, hw, fun H4 ls xs ds e4 n4 hls hA okd ncd ld => ?_⟩
      refine ⟨_, rfl, _, rfl, b, wv, ns, ts, rfl, hb2.ex (e3.trans e4), hwv.ex e4, hw, fun H5 lm zs es e5 n5 hlm hB oke nce le => ?_⟩
      refine ⟨_, _, rfl, ?_⟩
      have e25 := (e3.trans e4).trans e5
      have hxl := hA.len
      have hzl := hB.len
      refine ⟨_, rfl, fun y1 d1 m1 m2 m3 => mk_sc m1 m2 m3 (.inl (e5 _ _ hls)) (DaAll.ex e5 _ hA) okd ncd fun H6 e6 sc1 => ⟨rfl, ?_⟩⟩
      refine ⟨_, rfl, fun y2 d2 m4 m5 m6 => mk_sc m4 m5 m6 (.inl (e6 _ _ hlm)) (DaAll.ex e6 _ hB) oke nce fun H7 e7 sc2 => ⟨rfl, ?_⟩⟩
      refine ⟨by show 2 ≤ sizeLine; decide, fun tp np => ?_⟩
      generalize hq8 : upd H7 tp _ = H8
      obtain ⟨e8, h8⟩ := gen1 hq8 np
      refine ⟨tp, _, rfl, st_of h8, rfl, _, _, rfl, _, _, rfl, rfl, ?_⟩
      have e58 := (e6.trans e7).trans e8
      have e28 := e25.trans e58
      have kp8 : Kp C b tb tb2 wv ns ts y1 y2 ls lm xs zs ds es H8 := ⟨hb2.ex e28, hwv.ex (e4.trans (e5.trans e58)), tabs_ex e28 tabs2, (e5.trans e58) _ _ hls, DaAll.ex (e5.trans e58) _ hA, e58 _ _ hlm, DaAll.ex e58 _ hB, sc1.ex (e7.trans e8), sc2.ex e8⟩
      refine ⟨3, rfl, by decide, by decide, ?_⟩
      refine frG (walk_range (lo := 0) (n := 3)) (fun k σ H' => ∃ x8 x9 x10 x11 x12 x13 x14 : Option V, σ = [some (.ref a), some (.ref b), some (.int (0 + (i : Int))), some wv, some (.ref ls), some (.ref lm), some (.ref y1), some (.ref y2), x8, x9, x10, x11, x12, x13, x14] ∧ Kp C b tb tb2 wv ns ts y1 y2 ls lm xs zs ds es H') ⟨_, _, _, _, _, _, _, rfl, kp8⟩ (fun _ _ _ _ _ => trivial) ?_ ?_
      · rintro k x σ H9 H9' hk ⟨x8, x9, x10, x11, x12, x13, x14, rfl, kp9⟩ ⟨rfl, rfl⟩
        refine ⟨_, rfl, _, rfl, .inl ⟨ls, xs, rfl, .inl (sq_of kp9.ls), b, ds.length, by rw [← hxl]; rfl, kp9.bag, by omega, fun H10 vi d e10 hd hid => ?_⟩⟩
        refine ⟨_, rfl, _, rfl, by show 1 ≤ sizeLine; decide, fun l11 n11 => ?_⟩
        generalize hq11 : upd H10 l11 _ = H11
        obtain ⟨e11, h11⟩ := gen1 hq11 n11
        refine ⟨by show 0 ≤ sizeLine; decide, fun l12 n12 => ?_⟩
        generalize hq12 : upd H11 l12 _ = H12
        obtain ⟨e12, h12⟩ := gen1 hq12 n12
        refine ⟨by show 2 ≤ sizeLine; decide, fun t13 n13 => ?_⟩
        generalize hq13 : upd H12 t13 _ = H13
        obtain ⟨e13, h13⟩ := gen1 hq13 n13
        have e1013 := (e11.trans e12).trans e13
        have kp13 := kp9.ex (e10.trans e1013)
        refine ⟨b, wv, ns, ts, t13, l11, l12, .non, [.int 1], [], rfl, kp13.bag, kp13.wrl, hw, h13, (e12.trans e13) _ _ h11, e13 _ _ h12, by decide, by decide, fun H14 p14 z14 es14 e14 hp14 hst14 hok14 => ?_⟩
        refine ⟨by show 2 ≤ sizeLine; decide, fun t15 n15 => ?_⟩
        generalize hq15 : upd H14 t15 _ = H15
        obtain ⟨e15, h15⟩ := gen1 hq15 n15
        refine ⟨t15, _, rfl, st_of h15, rfl, _, _, rfl, _, _, rfl, rfl, ?_⟩
        have e1415 := e14.trans e15
        have kp15 := kp13.ex e1415
        have hd15 := Da.ex (e1013.trans e1415) _ hd
        have hg15 := Da.ex e15 _ hp14
        have hid' : IdOk ds.length d := hid
        obtain ⟨kd, fd⟩ := idok_fin (by omega) hid'
        refine ⟨fun σ' H' => ∃ (vg : V) (g : PyData), σ' = [some (.ref a), some (.ref b), some (.int (0 + (i : Int))), some wv, some (.ref ls), some (.ref lm), some (.ref y1), some (.ref y2), some (.int (0 + (k : Int))), some vi, some vg, x11, x12, x13, x14] ∧ Kp C b tb tb2 wv ns ts y1 y2 ls lm xs zs ds es H' ∧ Da H' vi d ∧ Da H' vg g ∧ okD 40 16000000 g, ?_, ?_⟩
        · refine ⟨_, rfl, b, 3, rfl, kp15.bag, by decide, by decide, fun H16 r _ _ e16 => .inl ⟨rfl, _, rfl, ite2 (fun _ => ?_) (fun _ => ?_)⟩⟩
          · refine ⟨_, rfl, _, rfl, b, .ref p14, _, rfl, kp15.bag.ex e16, Da.ex e16 _ hg15, nl_step (d := .tuple (.str z14 :: es14)) hst14, hok14.1, by have := hok14.2.1; omega, by have := hok14.2.2; omega, fun H17 v17 d17 e17 hd17 kd17 => ?_⟩
            have e1617 := e16.trans e17
            refine ⟨_, _, rfl, kp15.ex e1617, Da.ex e1617 _ hd15, DaA.da _ hd17, kd17.mono (by have := hok14.2.1; omega) (by have := hok14.2.2; omega)⟩
          · refine ⟨_, rfl, _, _, rfl, kp15.ex e16, Da.ex e16 _ hd15, Da.ex e16 _ hg15, hok14.mono (by decide) (by decide)⟩
        · rintro σ' H16 ⟨vg, g, rfl, kp16, hd16, hg16, kg⟩
          refine ⟨_, rfl, _, rfl, .inl ⟨ls, xs, rfl, .inl (sq_of kp16.ls), vi, d, ds.length, by rw [← hxl]; rfl, hd16, kd, fun H17 e17 => ?_⟩⟩
          refine ⟨_, rfl, by show 2 ≤ sizeLine; decide, fun t18 n18 => ?_⟩
          generalize hq18 : upd H17 t18 _ = H18
          obtain ⟨e18, h18⟩ := gen1 hq18 n18
          have e1618 := e17.trans e18
          have kp18 := kp16.ex e1618
          have hd18 := Da.ex e1618 _ hd16
          have hg18 := Da.ex e1618 _ hg16
          have dn18 : Da H18 (.ref t18) (tlE 3 d) := .tup h18 (.cons (.str _) (.cons hd18 .nil))
          refine ⟨fun σ' H' => ∃ (t : Addr) (x13 : Option V), σ' = [some (.ref a), some (.ref b), some (.int (0 + (i : Int))), some wv, some (.ref ls), some (.ref lm), some (.ref y1), some (.ref y2), some (.int (0 + (k : Int))), some vi, some vg, some (.bl (idx d ds.length).isSome), some (.ref t), x13, x14] ∧ Kp C b tb tb2 wv ns ts y1 y2 ls lm xs zs ds es H' ∧ Da H' vi d ∧ Da H' vg g ∧ Da H' (.ref t) (dueWs ds d g), ?_, ?_⟩
          · cases hi : idx d ds.length with
            | none =>
              refine ⟨_, rfl, _, rfl, iteF ⟨t18, x13, rfl, kp18, hd18, hg18, ?_⟩⟩
              rw [ws_n hi]
              exact dn18
            | some n =>
              obtain ⟨rfl, hn⟩ := idx_inv hi
              have := hd18.int_inv
              subst this
              refine ⟨_, rfl, _, rfl, iteT ?_⟩
              refine ⟨by show 2 ≤ sizeLine; decide, fun t20 n20 => ?_⟩
              generalize hq20 : upd H18 t20 _ = H20
              obtain ⟨e20, h20⟩ := gen1 hq20 n20
              refine ⟨_, rfl, vg, g, rfl, Da.ex e20 _ hg18, kg, fun H21 e21 => ⟨_, rfl, ?_⟩⟩
              have e1821 := e20.trans e21
              have kp21 := kp18.ex e1821
              have hd21 := Da.ex e1821 _ hd18
              have hg21 := Da.ex e1821 _ hg18
              cases ks : stepD g with
              | false =>
                refine iteF ⟨t20, x13, rfl, kp21, hd21, hg21, ?_⟩
                rw [ws_w hi ks]
                exact .tup (e21 _ _ h20) (.cons (.str _) (.cons (.int _) .nil))
              | true =>
                refine iteT ⟨_, rfl, _, rfl, .inl ⟨_, _, rfl, rfl, _, rfl, .inl ⟨ls, xs, rfl, sq_of kp21.ls, fun l22 n22 => ?_⟩⟩⟩
                generalize hq22 : upd H21 l22 _ = H22
                obtain ⟨e22, h22⟩ := gen1 hq22 n22
                rw [show (some ((n : Int) + 1)) = some ((n + 1 : Nat) : Int) from rfl, cut_from] at h22
                have kp22 := kp21.ex e22
                refine ⟨_, rfl, _, rfl, _, rfl, .inl ⟨ls, xs, rfl, sq_of kp22.ls, fun l23 n23 => ?_⟩⟩
                generalize hq23 : upd H22 l23 _ = H23
                obtain ⟨e23, h23⟩ := gen1 hq23 n23
                rw [cut_upto] at h23
                refine ⟨_, rfl, by show 1 ≤ sizeLine; decide, fun l24 n24 => ?_⟩
                generalize hq24 : upd H23 l24 _ = H24
                obtain ⟨e24, h24⟩ := gen1 hq24 n24
                have lt := List.length_take (i := n) (l := xs)
                have ldr := List.length_drop (i := n + 1) (l := xs)
                refine .inr (.inr (.inl ⟨l23, l24, _, _, rfl, rfl, e24 _ _ h23, h24, by rw [sizeLine_eq]; show _ + 1 ≤ _; omega, fun l25 n25 => ?_⟩))
                generalize hq25 : upd H24 l25 _ = H25
                obtain ⟨e25', h25⟩ := gen1 hq25 n25
                have e2225 := (e23.trans e24).trans e25'
                refine ⟨_, rfl, .inr (.inr (.inl ⟨l25, l22, _, _, rfl, rfl, h25, e2225 _ _ h22, by rw [sizeLine_eq, List.length_append]; show _ + 1 + _ ≤ _; omega, fun l26 n26 => ?_⟩))⟩
                generalize hq26 : upd H25 l26 _ = H26
                obtain ⟨e26, h26⟩ := gen1 hq26 n26
                have e2126 := e22.trans (e2225.trans e26)
                have kp26 := kp21.ex e2126
                refine ⟨l26, _, wsL ds n g, rfl, h26, ((kp26.A.take n).app (.cons (Da.ex e2126 _ hg21) .nil)).app (kp26.A.drop (n + 1)), (ws_ok okd ld hn ks (okd_step ks kg.1)).1, fun H27 t27 e27 hD27 => ?_⟩
                have e2127 := e2126.trans e27
                refine ⟨t27, _, rfl, kp21.ex e2127, Da.ex e2127 _ hd21, Da.ex e2127 _ hg21, ?_⟩
                rw [ws_m hi ks]
                exact hD27
          · rintro σ' H19 ⟨t19, x13, rfl, kp19, hd19, hg19, hD19⟩
            have dk1 := ws_due okd ld hid' (fun k => okd_step (d := g) k kg.1)
            refine ⟨kp19.tabs, fun H20 e20 tabs20 => ?_⟩
            have kp20 := kp19.nx e20 tabs20
            have hd20 := Da.nx e20 _ hd19
            have hg20 := Da.nx e20 _ hg19
            refine TTh_of (fun t H' => Ex H20 H' ∧ ∃ R, Da H' (.ref t) R ∧ DueR (dueWs ds d g) R) (fun t H21 ⟨e21, R, hR, dR⟩ => ?_) (fun E Z hE hZ => ?_)
            · refine ⟨_, rfl, t19, _, _, rfl, Da.within _ (Da.ex e21 _ (Da.nx e20 _ hD19)), dk1, fun H22 t22 R' e22 dR' hR' => ?_⟩
              obtain rfl := due_one dk1 dR' dR
              have fR := due_fine dk1 dR
              refine ⟨_, _, _, rfl, (Da.ex e22 _ hR).dp _ fR.1, (DaA.da _ hR').dp _ fR.1, fR, _, rfl, iteF ?_⟩
              have kp22 := kp20.ex (e21.trans e22)
              have hd22 := Da.ex (e21.trans e22) _ hd20
              clear kp15 kp16 kp18 kp19 kp20 hd15 hd16 hd18 hd19 hd20 hg15 hg16 hg18 hg19 hg20
              refine ⟨fun σ' H' => ∃ t : Addr, σ' = [some (.ref a), some (.ref b), some (.int (0 + (i : Int))), some wv, some (.ref ls), some (.ref lm), some (.ref y1), some (.ref y2), some (.int (0 + (k : Int))), some vi, some vg, some (.bl (idx d ds.length).isSome), some (.ref t), x13, x14] ∧ Kp C b tb tb2 wv ns ts y1 y2 ls lm xs zs ds es H' ∧ Da H' vi d ∧ Da H' (.ref t) (dueWo ds d), ?_, ?_⟩
              · cases hi : idx d ds.length with
                | none =>
                  refine ⟨_, rfl, _, rfl, iteF ⟨_, rfl, by show 2 ≤ sizeLine; decide, fun t23 n23 => ?_⟩⟩
                  generalize hq23 : upd H22 t23 _ = H23
                  obtain ⟨e23, h23⟩ := gen1 hq23 n23
                  refine ⟨t23, rfl, kp22.ex e23, Da.ex e23 _ hd22, ?_⟩
                  rw [wo_n hi]
                  exact .tup h23 (.cons (.str _) (.cons (Da.ex e23 _ hd22) .nil))
                | some n =>
                  obtain ⟨rfl, hn⟩ := idx_inv hi
                  have := hd22.int_inv
                  subst this
                  refine ⟨_, rfl, _, rfl, iteT ?_⟩
                  refine ⟨_, rfl, _, rfl, _, rfl, .inl ⟨ls, xs, rfl, sq_of kp22.ls, fun l23 n23 => ?_⟩⟩
                  generalize hq23 : upd H22 l23 _ = H23
                  obtain ⟨e23, h23⟩ := gen1 hq23 n23
                  rw [cut_upto] at h23
                  have kp23 := kp22.ex e23
                  refine ⟨_, rfl, _, rfl, .inl ⟨_, _, rfl, rfl, _, rfl, .inl ⟨ls, xs, rfl, sq_of kp23.ls, fun l24 n24 => ?_⟩⟩⟩
                  generalize hq24 : upd H23 l24 _ = H24
                  obtain ⟨e24, h24⟩ := gen1 hq24 n24
                  rw [show (some ((n : Int) + 1)) = some ((n + 1 : Nat) : Int) from rfl, cut_from] at h24
                  have lt := List.length_take (i := n) (l := xs)
                  have ldr := List.length_drop (i := n + 1) (l := xs)
                  refine .inr (.inr (.inl ⟨l23, l24, _, _, rfl, rfl, e24 _ _ h23, h24, by rw [sizeLine_eq]; omega, fun l25 n25 => ?_⟩))
                  generalize hq25 : upd H24 l25 _ = H25
                  obtain ⟨e25', h25⟩ := gen1 hq25 n25
                  refine ⟨by show 2 ≤ sizeLine; decide, fun t26 n26 => ?_⟩
                  generalize hq26 : upd H25 t26 _ = H26
                  obtain ⟨e26, h26⟩ := gen1 hq26 n26
                  have e2226 := (e23.trans e24).trans (e25'.trans e26)
                  have kp26 := kp22.ex e2226
                  refine ⟨t26, rfl, kp26, Da.ex e2226 _ hd22, ?_⟩
                  rw [wo_m hi]
                  exact .tup h26 (.cons (.str _) (.cons (.lst (e26 _ _ h25) ((kp26.A.take n).app (kp26.A.drop (n + 1)))) .nil))
              · rintro σ' H19 ⟨t19, rfl, kp19, hd19, hD19⟩
                clear kp22 hd22
                have dk2 := wo_due okd ld hid'
                refine ⟨kp19.tabs, fun H20 e20 tabs20 => ?_⟩
                have kp20 := kp19.nx e20 tabs20
                have hd20 := Da.nx e20 _ hd19
                refine TTh_of (fun t H' => Ex H20 H' ∧ ∃ R, Da H' (.ref t) R ∧ DueR (dueWo ds d) R) (fun t H21 ⟨e21, R, hR, dR⟩ => ?_) (fun E Z hE hZ => ?_)
                · refine ⟨_, rfl, t19, _, _, rfl, Da.within _ (Da.ex e21 _ (Da.nx e20 _ hD19)), dk2, fun H22 t22 R' e22 dR' hR' => ?_⟩
                  obtain rfl := due_one dk2 dR' dR
                  have fR := due_fine dk2 dR
                  refine ⟨_, _, _, rfl, (Da.ex e22 _ hR).dp _ fR.1, (DaA.da _ hR').dp _ fR.1, fR, _, rfl, iteF ?_⟩
                  have kp22 := kp20.ex (e21.trans e22)
                  have hd22 := Da.ex (e21.trans e22) _ hd20
                  clear kp19 kp20 hd19 hd20
                  refine ⟨_, rfl, by show 2 ≤ sizeLine; decide, fun t23 n23 => ?_⟩
                  generalize hq23 : upd H22 t23 _ = H23
                  obtain ⟨e23, h23⟩ := gen1 hq23 n23
                  have kp23 := kp22.ex e23
                  have hd23 := Da.ex e23 _ hd22
                  refine ⟨fun σ' H' => ∃ (t : Addr) (x14 : Option V), σ' = [some (.ref a), some (.ref b), some (.int (0 + (i : Int))), some wv, some (.ref ls), some (.ref lm), some (.ref y1), some (.ref y2), some (.int (0 + (k : Int))), some vi, some vg, some (.bl (idx d ds.length).isSome), some (.ref t), x13, x14] ∧ Kp C b tb tb2 wv ns ts y1 y2 ls lm xs zs ds es H' ∧ Da H' vi d ∧ Da H' (.ref t) (dueSw ds d), ?_, ?_⟩
                  · cases hi : idx d ds.length with
                    | none =>
                      refine ⟨_, rfl, _, rfl, iteF (iteF ⟨_, rfl, _, rfl, iteF ⟨t23, x14, rfl, kp23, hd23, ?_⟩⟩)⟩
                      rw [sw_n hi]
                      exact .tup h23 (.cons (.str _) (.cons hd23 .nil))
                    | some n =>
                      obtain ⟨rfl, hn⟩ := idx_inv hi
                      have := hd23.int_inv
                      subst this
                      refine ⟨_, rfl, _, rfl, iteT ⟨_, rfl, .inl ⟨_, _, rfl, rfl, _, rfl, .inl ⟨ls, xs, rfl, .inl (sq_of kp23.ls), .inl ⟨rfl, _, rfl, ite2 (fun h => ?_) (fun h => ?_)⟩⟩⟩⟩⟩
                      · rw [int_dec] at h
                        have h := of_decide_eq_true h
                        refine ⟨_, rfl, .inl ⟨_, _, rfl, rfl, by show 2 ≤ sizeLine; decide, fun t24 n24 => ?_⟩⟩
                        generalize hq24 : upd H23 t24 _ = H24
                        obtain ⟨e24, h24⟩ := gen1 hq24 n24
                        refine ⟨t24, x14, rfl, kp23.ex e24, Da.ex e24 _ hd23, ?_⟩
                        rw [sw_l hi (by omega)]
                        exact .tup h24 (.cons (.str _) (.cons (.int _) .nil))
                      · rw [int_dec] at h
                        have h : ¬ ((n : Int) + 1 = (xs.length : Int)) := fun z => h (decide_eq_true z)
                        have hn1 : n + 1 < xs.length := by omega
                        obtain ⟨s', hs1, hds⟩ := kp23.A.at (List.getElem?_eq_getElem (show n < xs.length by omega))
                        obtain ⟨t', ht1, hdt⟩ := kp23.A.at (List.getElem?_eq_getElem hn1)
                        refine ⟨_, rfl, _, rfl, iteT ?_⟩
                        refine ⟨_, rfl, _, rfl, .inl ⟨_, _, rfl, rfl, .inl ⟨ls, xs, ((n + 1 : Nat) : Int), _, rfl, rfl, sq_of kp23.ls, atI_nat (List.getElem?_eq_getElem hn1), ?_⟩⟩⟩
                        refine ⟨_, rfl, _, rfl, .inl ⟨ls, xs, (n : Int), _, rfl, rfl, sq_of kp23.ls, atI_nat (List.getElem?_eq_getElem (show n < xs.length by omega)), by show 2 ≤ sizeLine; decide, fun l24 n24 => ?_⟩⟩
                        generalize hq24 : upd H23 l24 _ = H24
                        obtain ⟨e24, h24⟩ := gen1 hq24 n24
                        have kp24 := kp23.ex e24
                        refine ⟨_, rfl, _, rfl, _, rfl, .inl ⟨ls, xs, rfl, sq_of kp24.ls, fun l25 n25 => ?_⟩⟩
                        generalize hq25 : upd H24 l25 _ = H25
                        obtain ⟨e25', h25⟩ := gen1 hq25 n25
                        rw [cut_upto] at h25
                        have lt := List.length_take (i := n) (l := xs)
                        have ldr := List.length_drop (i := n + 2) (l := xs)
                        refine ⟨_, rfl, .inr (.inr (.inl ⟨l25, l24, _, _, rfl, rfl, h25, e25' _ _ h24, by rw [sizeLine_eq]; show _ + 2 ≤ _; omega, fun l26 n26 => ?_⟩))⟩
                        generalize hq26 : upd H25 l26 _ = H26
                        obtain ⟨e26, h26⟩ := gen1 hq26 n26
                        have kp26 := kp24.ex (e25'.trans e26)
                        refine ⟨_, rfl, _, rfl, .inl ⟨_, _, rfl, rfl, _, rfl, .inl ⟨ls, xs, rfl, sq_of kp26.ls, fun l27 n27 => ?_⟩⟩⟩
                        generalize hq27 : upd H26 l27 _ = H27
                        obtain ⟨e27, h27⟩ := gen1 hq27 n27
                        rw [show (some ((n : Int) + 2)) = some ((n + 2 : Nat) : Int) from rfl, cut_from] at h27
                        refine .inr (.inr (.inl ⟨l26, l27, _, _, rfl, rfl, e27 _ _ h26, h27, by rw [sizeLine_eq, List.length_append]; show _ + 2 + _ ≤ _; omega, fun l28 n28 => ?_⟩))
                        generalize hq28 : upd H27 l28 _ = H28
                        obtain ⟨e28', h28⟩ := gen1 hq28 n28
                        have e2328 := (e24.trans e25').trans (e26.trans (e27.trans e28'))
                        have kp28 := kp23.ex e2328
                        refine ⟨l28, _, swL ds n s' t', rfl, h28, ((kp28.A.take n).app (.cons (Da.ex e2328 _ hdt) (.cons (Da.ex e2328 _ hds) .nil))).app (kp28.A.drop (n + 2)), (sw_ok okd ld hs1 ht1).1, fun H29 t29 e29 hD29 => ?_⟩
                        have e2329 := e2328.trans e29
                        refine ⟨t29, _, rfl, kp23.ex e2329, Da.ex e2329 _ hd23, ?_⟩
                        rw [sw_m hi hs1 ht1]
                        exact hD29
                  · rintro σ' H19 ⟨t19, x14, rfl, kp19, hd19, hD19⟩
                    have dk3 := sw_due okd ld hid'
                    refine ⟨kp19.tabs, fun H20 e20 tabs20 => ?_⟩
                    have kp20 := kp19.nx e20 tabs20
                    have hd20 := Da.nx e20 _ hd19
                    refine TTh_of (fun t H' => Ex H20 H' ∧ ∃ R, Da H' (.ref t) R ∧ DueR (dueSw ds d) R) (fun t H21 ⟨e21, R, hR, dR⟩ => ?_) (fun E Z hE hZ => ?_)
                    · refine ⟨_, rfl, t19, _, _, rfl, Da.within _ (Da.ex e21 _ (Da.nx e20 _ hD19)), dk3, fun H22 t22 R' e22 dR' hR' => ?_⟩
                      obtain rfl := due_one dk3 dR' dR
                      have fR := due_fine dk3 dR
                      refine ⟨_, _, _, rfl, (Da.ex e22 _ hR).dp _ fR.1, (DaA.da _ hR').dp _ fR.1, fR, _, rfl, iteF ?_⟩
                      exact ⟨_, _, _, _, _, _, _, rfl, kp20.ex (e21.trans e22)⟩
                    · obtain ⟨d1, l1, x1, i1, _⟩ := id kp20.s1
                      refine ⟨_, rfl, y1, d1, _, rfl, i1, by rfl, _, rfl, y1, vi, ds, d, rfl, kp20.s1, okd, hd20, kd, fun hn H' dd e' hd' => ?_, fun n hi hl H' dd e' hd' => ?_, fun n s t hi h1 h2 => ⟨fun j hj H' dd e' hd' => ?_, fun hn H' y' e' sc => ?_⟩⟩
                      · exact hE 3 vi d dd H' (.inr (.inl rfl)) hd' (Da.ex e' _ hd20) fun H2 t e2 hD => ⟨e'.trans e2, _, hD, .inl ⟨3, d, by simp, sw_n hn, rfl⟩⟩
                      · exact hE 3 _ (.int ((n : Int) + 1)) dd H' (.inr (.inl rfl)) hd' (.int _) fun H2 t e2 hD => ⟨e'.trans e2, _, hD, .inl ⟨3, _, by simp, sw_l hi hl, rfl⟩⟩
                      · exact hE 2 (.int (j : Int)) (.int (j : Int)) dd H' (.inl rfl) hd' (.int _) fun H2 t e2 hD => ⟨e'.trans e2, _, hD, .inl ⟨2, _, by simp, (sw_m hi h1 h2).trans (mk_b hj), rfl⟩⟩
                      · exact ⟨y', swL ds n s t, rfl, sc, (sw_ok okd ld h1 h2).1, fun H3 l3 ys pl e3 sn sp hD => hZ (.ref l3) H3 fun t nt => ⟨(e'.trans e3).trans (Ex.new nt), _, .tup upd_same (.cons (.str _) (.cons (Da.ex (Ex.new nt) _ hD) .nil)), .inr ⟨_, ys, pl, (sw_m hi h1 h2).trans (mk_t hn), sn, sp, rfl⟩⟩⟩
                · obtain ⟨d1, l1, x1, i1, _⟩ := id kp20.s1
                  refine ⟨_, rfl, y1, d1, _, rfl, i1, by rfl, _, rfl, y1, vi, ds, d, rfl, kp20.s1, okd, hd20, kd, fun hn H' dd e' hd' => ?_, fun n hi => ⟨fun j hj H' dd e' hd' => ?_, fun hn H' y' e' sc => ?_⟩⟩
                  · exact hE 3 vi d dd H' (.inr (.inl rfl)) hd' (Da.ex e' _ hd20) fun H2 t e2 hD => ⟨e'.trans e2, _, hD, .inl ⟨3, d, by simp, wo_n hn, rfl⟩⟩
                  · have z : fc (woL ds n) = none := wo_fc ncd
                    have hj : fc (woL ds n) = some j := hj
                    rw [z] at hj
                    cases hj
                  · exact ⟨y', woL ds n, rfl, sc, (wo_ok okd ld).1, fun H3 l3 ys pl e3 sn sp hD => hZ (.ref l3) H3 fun t nt => ⟨(e'.trans e3).trans (Ex.new nt), _, .tup upd_same (.cons (.str _) (.cons (Da.ex (Ex.new nt) _ hD) .nil)), .inr ⟨_, ys, pl, wo_m hi, sn, sp, rfl⟩⟩⟩
            · obtain ⟨d1, l1, x1, i1, _⟩ := id kp20.s1
              refine ⟨_, rfl, y1, d1, _, rfl, i1, by rfl, _, rfl, _, rfl, y1, vi, vg, ds, d, g, rfl, kp20.s1, okd, by omega, hd20, kd, hg20, kg, fun k => okd_step k kg.1, fun hn H' dd e' hd' => ?_, fun n hi hs H' dd e' hd' => ?_, fun n hi hs => ⟨fun j hj H' dd e' hd' => ?_, fun hn H' y' e' sc => ?_⟩⟩
              · exact hE 3 vi d dd H' (.inr (.inl rfl)) hd' (Da.ex e' _ hd20) fun H2 t e2 hD => ⟨e'.trans e2, _, hD, .inl ⟨3, d, by simp, ws_n hn, rfl⟩⟩
              · exact hE 4 (.int 1) (.int 1) dd H' (.inr (.inr rfl)) hd' (.int _) fun H2 t e2 hD => ⟨e'.trans e2, _, hD, .inl ⟨4, _, by simp, ws_w hi hs, rfl⟩⟩
              · exact hE 2 (.int (j : Int)) (.int (j : Int)) dd H' (.inl rfl) hd' (.int _) fun H2 t e2 hD => ⟨e'.trans e2, _, hD, .inl ⟨2, _, by simp, (ws_m hi hs).trans (mk_b hj), rfl⟩⟩
              · have hb := (idx_inv hi).2
                exact ⟨y', wsL ds n g, rfl, sc, (ws_ok okd ld hb hs (okd_step hs kg.1)).1, fun H3 l3 ys pl e3 sn sp hD => hZ (.ref l3) H3 fun t nt => ⟨(e'.trans e3).trans (Ex.new nt), _, .tup upd_same (.cons (.str _) (.cons (Da.ex (Ex.new nt) _ hD) .nil)), .inr ⟨_, ys, pl, (ws_m hi hs).trans (mk_t hn), sn, sp, rfl⟩⟩⟩
      · rintro σ H9 ⟨x8, x9, x10, x11, x12, x13, x14, rfl, kp9⟩
        refine ⟨_, rfl, _, rfl, _, rfl, _, rfl, y1, y2, ls, lm, xs, zs, ds, es, rfl, kp9.tabs, kp9.s1, kp9.s2, okd, oke, ⟨fun s hs => (List.mem_append.mp hs).elim (okd.1 s) (oke.1 s), by rw [List.length_append]; omega⟩, by rw [List.length_append]; omega, kp9.ls, kp9.A, kp9.lm, kp9.B, fun H10 e10 t10 => ⟨_, rfl, iteF ?_⟩⟩
        exact ⟨_, _, _, _, _, _, _, _, _, _, _, _, _, rfl, BagAt.nx e10 kp9.bag, t10⟩
    · rintro σ H2 _
      exact q _
end
end Own

namespace Own
open PySem PySem.Spec PyProof.Rows L2 Evl
/-! ### the classes of the errors -/
abbrev veB : List Value := [.type "ValueError", .type "Exception", .type "BaseException", .type "object"]
/-- what the text of the program says of one of these classes -/
structure ClsOk (K : PySem.W.Frag) (C PE_ : Addr) : Prop where
  mro : ∀ b : Value, PySem.W.subIn K (.ref C) b = some ((Value.ref C :: .ref PE_ :: veB).contains b)
  cls : (PySem.W.clsIn K C).isSome = true
  ty : PySem.W.typeIn K (.ref C) = some (.type "type")
theorem clsOk_of {K : PySem.W.Frag} {C PE_ : Addr} {nm qn : Str} {NN : Addr} {bs : List Value} {hd : Bool} {sn : List Str} {sub : List Value} {ab : Bool} {col : Option Bool} {dd : Option Addr} {k0 k1 k2 k3 k5 : Option Value}
    (l : K.lookup C = some (excClassObj nm qn C NN bs (.ref PE_ :: veB) hd sn sub ab col dd k0 k1 k2 k3 k5 "ValueError.__new__")) : ClsOk K C PE_ := by
  refine ⟨fun b => ?_, ?_, ?_⟩
  · show PySem.W.mroIn K C b = _
    unfold PySem.W.mroIn PySem.W.clsIn
    rw [l]
    rfl
  · unfold PySem.W.clsIn
    rw [l]
    rfl
  · show (K.lookup C).map (·.cls) = _
    rw [l]
    rfl
theorem kit_of {K : PySem.W.Frag} {cl : Nat → Addr} {PE_ : Addr} (ok : ∀ i, i < 6 → ClsOk K (cl i) PE_) (nd : ∀ i, i < 6 → ∀ j, j < 6 → i ≠ j → cl i ≠ cl j) (np : ∀ j, j < 6 → cl j ≠ PE_) (i j : Nat) (hi : i < 6) (hj : j < 6) :
    PySem.W.kitOne K (.ref (cl i)) (.ref (cl j)) = some (decide (i = j)) := by
  unfold PySem.W.kitOne
  by_cases e : i = j
  · subst e
    rw [if_pos (beq_self_eq_true _), decide_eq_true rfl]
  · have n1 := nd i hi j hj e
    rw [if_neg (fun z => n1 (Value.ref.inj (beq_iff_eq.mp z))), decide_eq_false e]
    show (if ((PySem.W.clsIn K (cl j)).isSome && PySem.W.typeIn K (.ref (cl j)) == some (.type "type")) = true then PySem.W.subIn K (.ref (cl i)) (.ref (cl j)) else none) = some false
    rw [if_pos (by rw [(ok j hj).cls, (ok j hj).ty]; rfl), (ok i hi).mro]
    congr 1
    have n2 := np j hj
    show ((Value.ref (cl j) == Value.ref (cl i)) || ((Value.ref (cl j) == Value.ref PE_) || false)) = false
    have b1 : (Value.ref (cl j) == Value.ref (cl i)) = false := by
      refine Bool.eq_false_iff.mpr fun z => n1 ?_
      exact (Value.ref.inj (beq_iff_eq.mp z)).symm
    have b2 : (Value.ref (cl j) == Value.ref PE_) = false := Bool.eq_false_iff.mpr fun z => n2 (Value.ref.inj (beq_iff_eq.mp z))
    rw [b1, b2]
    rfl
theorem sub_has {K : PySem.W.Frag} {C PE_ : Addr} (ok : ClsOk K C PE_) {T : String} (h : veB.contains (.type T) = true) : PySem.W.subIn K (.ref C) (.type T) = some true := by
  rw [ok.mro]
  refine congrArg some ?_
  show ((Value.type T == Value.ref C) || ((Value.type T == Value.ref PE_) || veB.contains (.type T))) = true
  rw [h, Bool.or_true, Bool.or_true]
theorem sub_pe {K : PySem.W.Frag} {C PE_ : Addr} (ok : ClsOk K C PE_) : PySem.W.subIn K (.ref C) (.ref PE_) = some true := by
  rw [ok.mro]
  refine congrArg some ?_
  show ((Value.ref PE_ == Value.ref C) || ((Value.ref PE_ == Value.ref PE_) || _)) = true
  rw [beq_self_eq_true, Bool.true_or, Bool.or_true]
theorem ve_of {K : PySem.W.Frag} {C PE_ : Addr} (ok : ClsOk K C PE_) : PySem.W.kitOne K (.ref C) (.type "ValueError") = some true := by
  unfold PySem.W.kitOne
  rw [if_neg (by intro z; cases beq_iff_eq.mp z)]
  show (if PySem.W.kitMeta "ValueError" = true then PySem.W.subIn K (.ref C) (.type "ValueError") else none) = some true
  rw [if_pos (by kernel_rfl)]
  exact sub_has ok (by decide +kernel)
abbrev s_l_alike : Stmt := top 41
theorem sc_l_alike : FnScope ["_law_found", "_law_due"] ["_law_found", "_law_due"] (defScope s_l_alike) := ⟨rfl, rfl, rfl, by decide +kernel, rfl, by decide +kernel, by decide +kernel⟩
section
variable {P : Program} {w : World} {K : PySem.W.Frag} {mg : Str → Option Value} {base : Heap}
theorem ok_alike (T : Txt0 mg) (D : Df K mg "_law_alike" s_l_alike) : CalG P w K mg base 1 "_law_alike" (spAlike K) := by
  refine cal_mk D sc_l_alike (fun _ _ _ _ _ _ us hl => match us, hl with | [_, _], _ => rfl) (fun vs H Q E h => ?_) (fun f cdv A outer s H vs Q E hr hG h => ?_)
  · obtain ⟨a, b, d, rfl, _⟩ := h
    rfl
  · obtain ⟨a, b, d, rfl, ha, hb, hf, q⟩ := h
    refine ⟨_, (pss_one (ps_ret (pe_and (pe_cmpR (opEq hr) (pv 0) (pv 1) (nomark _)) (pe_one (pe_cmpR (opEq hr) (pe_callB (callReprA hG hr) (by rfl) T.repr (by decide +kernel) (pa_cons (pv 0) pa_nil)) (pe_callB (callReprA hG hr) (by rfl) T.repr (by decide +kernel) (pa_cons (pv 1) pa_nil)) (nomark _)))))), ?_⟩
    refine ⟨_, rfl, _, rfl, .inr ⟨d, d, ha, hb, hf.shp, hf.shp, _, rfl, ?_⟩⟩
    rw [PySem.SeqAt.eqv_refl d hf.1]
    refine ⟨_, rfl, a, d, rfl, ha, hf, ?_⟩
    refine ⟨_, rfl, b, d, rfl, hb, hf, ?_⟩
    refine .inl ⟨rfl, ?_⟩
    rw [decide_eq_true rfl]
    exact q
end
end Own

namespace Own
open PySem PySem.Spec PyProof.Rows L2 Evl
/-! ### the end of a law that makes lambdas: the table of its code object is tracked from the start -/
/-- what is tracked at the start: the script, if it is not written, and the table -/
structure Begin (P : Program) (w : World) (K : PySem.W.Frag) (h : Heap) (a tb : Addr) (H : Hp) : Prop where
  tab : H tb = some (.tbl #[])
  only : ∀ b, H b = none ∨ b = tb ∨ (b = a ∧ ∃ o xs, H b = some (.frz o (.lst xs)))
  ok : HOk P w H h
  no : H a ≠ none → K.lookup a = none
section
variable {P : Program} {w : World} {K : PySem.W.Frag} {mg mb : Str → Option Value} {k : Nat} {fa a c tb : Addr} {fd : FuncData} {x : Str} {sp : Sp} {st : Shared} {vs : List Value} {ns : List Int} {H : Hp}
theorem Begin.free (B : Begin P w K st.heap a tb H) (at0 : st.heap.get? a = some { cls := .type "list", data := .seq vs.toArray }) (tab0 : st.heap.get? tb = some { cls := .none, data := .fields #[] }) {b : Addr} {o : Obj} (e : st.heap.get? b = some o) (h1 : ∀ us n, o.data ≠ .seq us n) (h2 : o.data ≠ .fields #[]) : H b = none := by
  rcases B.only b with z | rfl | ⟨rfl, _⟩
  · exact z
  · rw [tab0] at e
    cases e
    exact (h2 rfl).elim
  · rw [at0] at e
    cases e
    exact (h1 _ _ rfl).elim
theorem run_begin (B : Begin P w K st.heap a tb H) (inK : K.In st.heap) (gN : st.heap.Ns mainGlobals mg) (bN : st.heap.Ns builtinsNs mb) (bN0 : ∀ x : Str, x ≠ "__name__" → mb x = bootBuiltins x) (noL : st.heap.NoLimit) (g0 : st.gens = #[])
    (at0 : st.heap.get? a = some { cls := .type "list", data := .seq vs.toArray }) (tab0 : st.heap.get? tb = some { cls := .none, data := .fields #[] }) (tabK : K.lookup tb = none) (code : PySem.W.codeHdIn K c tb = true)
    (bm : ∃ (bm : Addr) (ob : Obj), mg "__builtins__" = some (.ref bm) ∧ bm ≠ builtinsNs ∧ st.heap.get? bm = some ob ∧ ob.cls = .type "module" ∧ ob.dict = some builtinsNs ∧ ob.data = .plain) (sysN : ∃ mm, st.heap.Ns sysModules mm) (hr : Room k callerA)
    (F : ∀ base : Heap, K.In base → base.Ns mainGlobals mg → SysAt base → LamX.TabB base mg c tb → FnG P w K mg base k fa fd [x] sp) (bnd : ∀ (s : Shared) (u : Value), BindsTo s fd ⟨[u], []⟩ [(x, u)])
    (want : sp [.ref a] H (fun v _ => v = .bl true) fun _ _ _ => False) :
    codeAny (model P w) callerA (.call (.ref fa) ⟨[.ref a], []⟩) (fun r s' => r = .ok (.ret (.bool true)) ∧ OldK st.heap s'.heap ∧ s'.os = st.os ∧ AllBare s'.gens) st := by
  have dictFree : ∀ {b : Addr} {o : Obj} {es : Array DictEntry} {ep : Nat}, st.heap.get? b = some o → o.data = .dict es ep → H b = none := fun {b o es ep} e d => B.free at0 tab0 e (fun us n z => by rw [d] at z; cases z) (fun z => by rw [d] at z; cases z)
  have nsB : ∀ {b : Addr} {m : Str → Option Value}, st.heap.Ns b m → (hidT st.heap H).Ns b m := fun {b m} ⟨o, es, ep, e, d, r⟩ => ⟨o, es, ep, hidT_get e (dictFree e d), d, r⟩
  have kB : K.In (hidT st.heap H) := fun b o e => hidT_get (inK b o e) (by
    rcases B.only b with z | rfl | ⟨rfl, o2, xs, z⟩
    · exact z
    · rw [tabK] at e
      cases e
    · rw [B.no (by rw [z]; simp)] at e
      cases e)
  have tbB : LamX.TabB (hidT st.heap H) mg c tb := by
    refine ⟨PySem.W.codeHd_of_K kB code, ?_, fun z => ?_⟩
    · obtain ⟨bm, ob, b1, b2, b3, b4, b5, b6⟩ := bm
      refine ⟨bm, ob, b1, b2, fun q => ?_, fun q => ?_, hidT_get b3 (B.free at0 tab0 b3 (fun us n z => by rw [b6] at z; cases z) (fun z => by rw [b6] at z; cases z)), b4, b5, b6⟩
      · obtain ⟨o, es, ep, e, hd, _⟩ := gN
        rw [q, e] at b3
        cases b3
        rw [hd] at b6
        cases b6
      · rw [q, tab0] at b3
        cases b3
        cases b6
    · obtain ⟨o, es, ep, e, hd, _⟩ := gN
      rw [z, tab0] at e
      cases e
      cases hd
  have mdl : L2.Mod K mg (hidT st.heap H) := ⟨kB, nsB gN, ⟨mb, nsB bN, bN0⟩, let ⟨mc, h1, h2⟩ := noL; ⟨mc, nsB h1, h2⟩⟩
  have envs : Env0 P w K mg (hidT st.heap H) callerA [] st H := ⟨rfl, mdl, fun b o e => of_hidT e, Nat.le_of_eq (hidT_size _ _), trivial, fun b hb => absurd (show b ∈ ([] : List Addr) from hb) (by simp), B.ok, .of_eq g0⟩
  refine codeAny_mono ((F _ kB (nsB gN) (let ⟨mm, z⟩ := sysN; ⟨mm, nsB z⟩) tbB).run callerA [] st H ⟨[.ref a], []⟩ [.ref a] [.ref a] _ _ hr rfl envs (bnd st (.ref a)) (.cons rfl .nil) want) fun r s' h => ?_
  cases r with
  | error e => exact (show False from h).elim
  | ok fl =>
    cases fl with
    | next => exact False.elim h
    | brk => exact False.elim h
    | cont => exact False.elim h
    | ret u =>
      obtain ⟨v, H', oss, br, uu, okH', rv, qq⟩ := h
      have q' : v = .bl true := qq
      subst q'
      obtain rfl : u = Value.bool true := rv
      have same : ∀ b o, b ≠ tb → st.heap.get? b = some o → s'.heap.get? b = some o := fun b o nb e => by
        rcases B.only b with z | z | ⟨_, o2, xs, z⟩
        · exact uu.keep b o e z (by intro y; exact absurd (show b ∈ ([] : List Addr) from y) (by simp)) (by simp)
        · exact absurd z nb
        · obtain ⟨e1, _⟩ := B.ok b _ z
          obtain ⟨e2, _⟩ := okH' b _ (uu.frzs b o2 _ z)
          rw [e] at e1
          cases e1
          exact e2
      obtain ⟨more, grown⟩ : ∃ more : Array Value, s'.heap.get? tb = some { cls := .none, data := .fields more } := by
        obtain ⟨more, z⟩ := uu.tbls tb #[] B.tab
        exact ⟨_, okH' tb _ z⟩
      have hd := PySem.W.codeHd_of_K inK code
      refine ⟨rfl, ⟨fun b o e => ?_, fun b o e => ?_⟩, oss, br⟩
      · by_cases hb : b = tb
        · rw [hb] at e ⊢
          rw [tab0] at e
          cases e
          exact .inr (.inl ⟨(hd.tab tab0).isCodeTable, rfl, #[], more, rfl, by rw [Array.empty_append]; exact grown⟩)
        · exact .inl (same b o hb e)
      · by_cases hb : b = tb
        · rw [hb]
          exact ⟨_, grown⟩
        · exact ⟨o, same b o hb e⟩
/-- such a beginning there is -/
theorem begin_at (inK : K.In st.heap) (at0 : st.heap.get? a = some { cls := .type "list", data := .seq vs.toArray }) (are : IntsAre vs ns) (few : ns.length ≤ sizeLine) (tab0 : st.heap.get? tb = some { cls := .none, data := .fields #[] }) :
    ∃ H : Hp, Begin P w K st.heap a tb H ∧ SqL K H a (ns.map V.int) := by
  have rvs := vals_ints are
  have lv := are.length
  have ne : a ≠ tb := fun z => by
    rw [z, tab0] at at0
    have z' : Data.fields #[] = Data.seq vs.toArray _ := congrArg Obj.data (Option.some.inj at0)
    cases z'
  cases lk : K.lookup a with
  | some o =>
    have e := inK a o lk
    rw [at0] at e
    cases e
    refine ⟨fun b => if b = tb then some (.tbl #[]) else none, ⟨if_pos rfl, fun b => ?_, fun b u z => ?_, fun z => absurd (if_neg ne) z⟩, .inr ⟨_, vs.toArray, _, lk, rfl, rfl, rfl, by rw [List.size_toArray, lv]; exact few, by simpa using rvs⟩⟩
    · by_cases hb : b = tb
      · exact .inr (.inl hb)
      · exact .inl (if_neg hb)
    · by_cases hb : b = tb
      · have z' := (if_pos hb).symm.trans z
        cases z'
        rw [hb]
        exact tab0
      · have z' := (if_neg hb).symm.trans z
        cases z'
  | none =>
    refine ⟨fun b => if b = tb then some (.tbl #[]) else if b = a then some (.frz { cls := .type "list", data := .seq vs.toArray } (.lst (ns.map V.int))) else none, ⟨if_pos rfl, fun b => ?_, fun b u z => ?_, fun _ => lk⟩, .inl (.inr ⟨{ cls := .type "list", data := .seq vs.toArray }, (if_neg ne).trans (if_pos rfl)⟩)⟩
    · by_cases hb : b = tb
      · exact .inr (.inl hb)
      · by_cases h2 : b = a
        · exact .inr (.inr ⟨h2, _, _, (if_neg hb).trans (if_pos h2)⟩)
        · exact .inl ((if_neg hb).trans (if_neg h2))
    · by_cases hb : b = tb
      · have z' := (if_pos hb).symm.trans z
        cases z'
        rw [hb]
        exact tab0
      · have z1 := (if_neg hb).symm.trans z
        by_cases h2 : b = a
        · have z' := (if_pos h2).symm.trans z1
          cases z'
          rw [h2]
          exact ⟨at0, by rw [List.length_map]; exact few, vs, _, rvs, at0⟩
        · have z' := (if_neg h2).symm.trans z1
          cases z'
end
theorem walk_T {l : PySem.W.OpenLaw} {n k : Nat} {q : Program} {loose : List Str} {XP : (Str → Option Value) → Heap → Prop} {YP : World → Heap → Prop} {d : DefRec} {K : Params → PySem.W.Frag} {sp : World → Addr → Sp} {x : Str}
    (most : l.most = some n) (small : n ≤ sizeLine) (nodf : d.params.defaults = []) (room : Room k callerA) (imps : importsNone q = true) (rec_ : ((recsOf q).any fun e => e.name == d.name) = true) (inn : ∀ (w : World) (h : Heap), YP w h → (K w.params).In h)
    (F : ∀ (w : World) (mg : Str → Option Value) (fa : Addr) (h : Heap), (K w.params).In h → h.Ns mainGlobals mg → mg d.name = some (.ref fa) → LamX.OwnTab (K w.params) fa h →
      ∃ (fd : FuncData) (c tb : Addr), h.get? tb = some { cls := .none, data := .fields #[] } ∧ (K w.params).lookup tb = none ∧ PySem.W.codeHdIn (K w.params) c tb = true ∧ (∀ (s : Shared) (u : Value), BindsTo s fd ⟨[u], []⟩ [(x, u)]) ∧
        ∀ base : Heap, (K w.params).In base → base.Ns mainGlobals mg → SysAt base → LamX.TabB base mg c tb → FnG l.prog w (K w.params) mg base k fa fd [x] (sp w tb))
    (want : ∀ (w : World) (tb : Addr) (H : Hp) (a : Addr) (ns : List Int), ns.length ≤ n → H tb = some (.tbl #[]) → SqL (K w.params) H a (ns.map V.int) → sp w tb [.ref a] H (fun v _ => v = .bl true) fun _ _ _ => False) :
    PySem.W.WalkO q loose XP YP l.row.toRowW d [] (fun f vs => PySem.call f vs) := by
  refine Att.attach_call most nodf fun w s₀ st mg mb fa o pm cd doc a vs ns G Y ho hd hcd hmg hobj hints hlen g0 => ?_
  have KI := inn w _ Y
  have own : LamX.OwnTab (K w.params) fa st.heap := fun c P o1 fd1 e dd vs1 sl k1 k2 k3 k4 k5 => by
    obtain ⟨dL, hm, hn1⟩ := List.any_eq_true.mp rec_
    obtain ⟨a', o', fd', c', P', h1, h2, h3, h4, _, h6⟩ := G.T.tab dL hm
    rw [show dL.name = d.name from beq_iff_eq.mp hn1, hmg] at h1
    cases h1
    rw [KI _ _ k1] at h2
    cases h2
    rw [k2] at h3
    cases h3
    rw [k3] at h4
    cases h4
    obtain ⟨⟨oc, vc, e1, _, e3, e4⟩, hP⟩ := h6
    rw [KI _ _ k4] at e1
    cases e1
    cases e3
    rw [k5] at e4
    cases e4
    exact hP
  obtain ⟨fd, c, tb, t0, tK, ch, bd, good⟩ := F w mg fa _ KI G.T.g hmg own
  obtain ⟨H, B, sq⟩ := begin_at (P := l.prog) (w := w) KI hobj hints (Nat.le_trans hlen small) t0
  exact run_begin B KI G.T.g G.T.b G.T.builtins G.T.nolimit g0 hobj t0 tK ch G.T.bmain (let ⟨mm, z, _⟩ := (G.T.seer imps).mods; ⟨mm, z⟩) room good bd (want w tb H a ns hlen B.tab sq)
theorem df_mk {K : PySem.W.Frag} {h : Heap} {mg : Str → Option Value} {x : Str} {st : Stmt} {f : Addr} {oc : Value} {od an : Option Addr} {sl : Array (Option Value)} {kV doc pm cdv ct : Value} (X : K.In h) (G : h.Ns mainGlobals mg)
    (a : PySem.W.nsIn K mainGlobals x = some (some (.ref f))) (l : K.lookup f = some ⟨oc, od, .func (PySem.W.fnOf x x (defArgs st) (defBody st) (defScope st) .none kV doc pm an cdv ct), sl⟩) (c : PySem.W.codeIn K cdv x = true) (kp : PySem.W.keepIn K (.ref f) = true) : Df K mg x st :=
  ⟨f, _, PySem.W.mg_of X G a, fun_mk l c kp⟩
end Own

namespace Own
open PySem PySem.Spec PyProof.Rows L2 Evl
/-! ### as EndT, where several defs make lambdas: a table for each code object; z.1 the code object, z.2 its table -/
structure BeginM (P : Program) (w : World) (K : PySem.W.Frag) (h : Heap) (a : Addr) (cts : List (Addr × Addr)) (H : Hp) : Prop where
  tab : ∀ z ∈ cts, H z.2 = some (.tbl #[])
  only : ∀ b, H b = none ∨ (∃ z ∈ cts, b = z.2) ∨ (b = a ∧ ∃ o xs, H b = some (.frz o (.lst xs)))
  ok : HOk P w H h
  no : H a ≠ none → K.lookup a = none
section
variable {P : Program} {w : World} {K : PySem.W.Frag} {mg mb : Str → Option Value} {k : Nat} {fa a : Addr} {cts : List (Addr × Addr)} {fd : FuncData} {x : Str} {sp : Sp} {st : Shared} {vs : List Value} {ns : List Int} {H : Hp}
theorem BeginM.free (B : BeginM P w K st.heap a cts H) (at0 : st.heap.get? a = some { cls := .type "list", data := .seq vs.toArray }) (tab0 : ∀ z ∈ cts, st.heap.get? z.2 = some { cls := .none, data := .fields #[] }) {b : Addr} {o : Obj} (e : st.heap.get? b = some o) (h1 : ∀ us n, o.data ≠ .seq us n) (h2 : o.data ≠ .fields #[]) : H b = none := by
  rcases B.only b with z | ⟨z, hz, rfl⟩ | ⟨rfl, _⟩
  · exact z
  · rw [tab0 z hz] at e
    cases e
    exact (h2 rfl).elim
  · rw [at0] at e
    cases e
    exact (h1 _ _ rfl).elim
theorem run_beginM (B : BeginM P w K st.heap a cts H) (inK : K.In st.heap) (gN : st.heap.Ns mainGlobals mg) (bN : st.heap.Ns builtinsNs mb) (bN0 : ∀ x : Str, x ≠ "__name__" → mb x = bootBuiltins x) (noL : st.heap.NoLimit) (g0 : st.gens = #[])
    (at0 : st.heap.get? a = some { cls := .type "list", data := .seq vs.toArray }) (tab0 : ∀ z ∈ cts, st.heap.get? z.2 = some { cls := .none, data := .fields #[] }) (tabK : ∀ z ∈ cts, K.lookup z.2 = none) (code : ∀ z ∈ cts, PySem.W.codeHdIn K z.1 z.2 = true)
    (bm : ∃ (bm : Addr) (ob : Obj), mg "__builtins__" = some (.ref bm) ∧ bm ≠ builtinsNs ∧ st.heap.get? bm = some ob ∧ ob.cls = .type "module" ∧ ob.dict = some builtinsNs ∧ ob.data = .plain) (sysN : ∃ mm, st.heap.Ns sysModules mm) (hr : Room k callerA)
    (F : ∀ base : Heap, K.In base → base.Ns mainGlobals mg → SysAt base → (∀ z ∈ cts, LamX.TabB base mg z.1 z.2) → FnG P w K mg base k fa fd [x] sp) (bnd : ∀ (s : Shared) (u : Value), BindsTo s fd ⟨[u], []⟩ [(x, u)])
    (want : sp [.ref a] H (fun v _ => v = .bl true) fun _ _ _ => False) :
    codeAny (model P w) callerA (.call (.ref fa) ⟨[.ref a], []⟩) (fun r s' => r = .ok (.ret (.bool true)) ∧ OldK st.heap s'.heap ∧ s'.os = st.os ∧ AllBare s'.gens) st := by
  have dictFree : ∀ {b : Addr} {o : Obj} {es : Array DictEntry} {ep : Nat}, st.heap.get? b = some o → o.data = .dict es ep → H b = none := fun {b o es ep} e d => B.free at0 tab0 e (fun us n z => by rw [d] at z; cases z) (fun z => by rw [d] at z; cases z)
  have nsB : ∀ {b : Addr} {m : Str → Option Value}, st.heap.Ns b m → (hidT st.heap H).Ns b m := fun {b m} ⟨o, es, ep, e, d, r⟩ => ⟨o, es, ep, hidT_get e (dictFree e d), d, r⟩
  have kB : K.In (hidT st.heap H) := fun b o e => hidT_get (inK b o e) (by
    rcases B.only b with z | ⟨z, hz, rfl⟩ | ⟨rfl, o2, xs, z⟩
    · exact z
    · rw [tabK z hz] at e
      cases e
    · rw [B.no (by rw [z]; simp)] at e
      cases e)
  have tbB : ∀ z ∈ cts, LamX.TabB (hidT st.heap H) mg z.1 z.2 := fun z hz => by
    refine ⟨PySem.W.codeHd_of_K kB (code z hz), ?_, fun y => ?_⟩
    · obtain ⟨bm, ob, b1, b2, b3, b4, b5, b6⟩ := bm
      refine ⟨bm, ob, b1, b2, fun q => ?_, fun q => ?_, hidT_get b3 (B.free at0 tab0 b3 (fun us n z => by rw [b6] at z; cases z) (fun z => by rw [b6] at z; cases z)), b4, b5, b6⟩
      · obtain ⟨o, es, ep, e, hd, _⟩ := gN
        rw [q, e] at b3
        cases b3
        rw [hd] at b6
        cases b6
      · rw [q, tab0 z hz] at b3
        cases b3
        cases b6
    · obtain ⟨o, es, ep, e, hd, _⟩ := gN
      rw [y, tab0 z hz] at e
      cases e
      cases hd
  have mdl : L2.Mod K mg (hidT st.heap H) := ⟨kB, nsB gN, ⟨mb, nsB bN, bN0⟩, let ⟨mc, h1, h2⟩ := noL; ⟨mc, nsB h1, h2⟩⟩
  have envs : Env0 P w K mg (hidT st.heap H) callerA [] st H := ⟨rfl, mdl, fun b o e => of_hidT e, Nat.le_of_eq (hidT_size _ _), trivial, fun b hb => absurd (show b ∈ ([] : List Addr) from hb) (by simp), B.ok, .of_eq g0⟩
  refine codeAny_mono ((F _ kB (nsB gN) (let ⟨mm, z⟩ := sysN; ⟨mm, nsB z⟩) tbB).run callerA [] st H ⟨[.ref a], []⟩ [.ref a] [.ref a] _ _ hr rfl envs (bnd st (.ref a)) (.cons rfl .nil) want) fun r s' h => ?_
  cases r with
  | error e => exact (show False from h).elim
  | ok fl =>
    cases fl with
    | next => exact False.elim h
    | brk => exact False.elim h
    | cont => exact False.elim h
    | ret u =>
      obtain ⟨v, H', oss, br, uu, okH', rv, qq⟩ := h
      have q' : v = .bl true := qq
      subst q'
      obtain rfl : u = Value.bool true := rv
      have same : ∀ b o, (∀ z ∈ cts, b ≠ z.2) → st.heap.get? b = some o → s'.heap.get? b = some o := fun b o nb e => by
        rcases B.only b with z | ⟨z, hz, hb⟩ | ⟨_, o2, xs, z⟩
        · exact uu.keep b o e z (by intro y; exact absurd (show b ∈ ([] : List Addr) from y) (by simp)) (by simp)
        · exact absurd hb (nb z hz)
        · obtain ⟨e1, _⟩ := B.ok b _ z
          obtain ⟨e2, _⟩ := okH' b _ (uu.frzs b o2 _ z)
          rw [e] at e1
          cases e1
          exact e2
      have grown : ∀ z ∈ cts, ∃ more : Array Value, s'.heap.get? z.2 = some { cls := .none, data := .fields more } := fun z hz => by
        obtain ⟨more, y⟩ := uu.tbls z.2 #[] (B.tab z hz)
        exact ⟨_, okH' z.2 _ y⟩
      refine ⟨rfl, ⟨fun b o e => ?_, fun b o e => ?_⟩, oss, br⟩
      · by_cases hb : ∃ z ∈ cts, b = z.2
        · obtain ⟨z, hz, rfl⟩ := hb
          rw [tab0 z hz] at e
          cases e
          obtain ⟨more, g⟩ := grown z hz
          exact .inr (.inl ⟨((PySem.W.codeHd_of_K inK (code z hz)).tab (tab0 z hz)).isCodeTable, rfl, #[], more, rfl, by rw [Array.empty_append]; exact g⟩)
        · exact .inl (same b o (fun z hz h => hb ⟨z, hz, h⟩) e)
      · by_cases hb : ∃ z ∈ cts, b = z.2
        · obtain ⟨z, hz, rfl⟩ := hb
          obtain ⟨more, g⟩ := grown z hz
          exact ⟨_, g⟩
        · exact ⟨o, same b o (fun z hz h => hb ⟨z, hz, h⟩) e⟩
/-- such a beginning there is -/
theorem begin_atM (inK : K.In st.heap) (at0 : st.heap.get? a = some { cls := .type "list", data := .seq vs.toArray }) (are : IntsAre vs ns) (few : ns.length ≤ sizeLine) (tab0 : ∀ z ∈ cts, st.heap.get? z.2 = some { cls := .none, data := .fields #[] }) :
    ∃ H : Hp, BeginM P w K st.heap a cts H ∧ SqL K H a (ns.map V.int) := by
  haveI : ∀ b : Addr, Decidable (∃ z ∈ cts, b = z.2) := fun b => Classical.propDecidable _
  have rvs := vals_ints are
  have lv := are.length
  have ne : ¬ ∃ z ∈ cts, a = z.2 := fun ⟨z, hz, e⟩ => by
    rw [e, tab0 z hz] at at0
    have z' : Data.fields #[] = Data.seq vs.toArray _ := congrArg Obj.data (Option.some.inj at0)
    cases z'
  cases lk : K.lookup a with
  | some o =>
    have e := inK a o lk
    rw [at0] at e
    cases e
    refine ⟨fun b => if ∃ z ∈ cts, b = z.2 then some (.tbl #[]) else none, ⟨fun z hz => if_pos ⟨z, hz, rfl⟩, fun b => ?_, fun b u z => ?_, fun z => absurd (if_neg ne) z⟩, .inr ⟨_, vs.toArray, _, lk, rfl, rfl, rfl, by rw [List.size_toArray, lv]; exact few, by simpa using rvs⟩⟩
    · by_cases hb : ∃ z ∈ cts, b = z.2
      · exact .inr (.inl hb)
      · exact .inl (if_neg hb)
    · by_cases hb : ∃ z ∈ cts, b = z.2
      · have z' := (if_pos hb).symm.trans z
        cases z'
        obtain ⟨y, hy, rfl⟩ := hb
        exact tab0 y hy
      · have z' := (if_neg hb).symm.trans z
        cases z'
  | none =>
    refine ⟨fun b => if ∃ z ∈ cts, b = z.2 then some (.tbl #[]) else if b = a then some (.frz { cls := .type "list", data := .seq vs.toArray } (.lst (ns.map V.int))) else none, ⟨fun z hz => if_pos ⟨z, hz, rfl⟩, fun b => ?_, fun b u z => ?_, fun _ => lk⟩, .inl (.inr ⟨{ cls := .type "list", data := .seq vs.toArray }, (if_neg ne).trans (if_pos rfl)⟩)⟩
    · by_cases hb : ∃ z ∈ cts, b = z.2
      · exact .inr (.inl hb)
      · by_cases h2 : b = a
        · exact .inr (.inr ⟨h2, _, _, (if_neg hb).trans (if_pos h2)⟩)
        · exact .inl ((if_neg hb).trans (if_neg h2))
    · by_cases hb : ∃ z ∈ cts, b = z.2
      · have z' := (if_pos hb).symm.trans z
        cases z'
        obtain ⟨y, hy, rfl⟩ := hb
        exact tab0 y hy
      · have z1 := (if_neg hb).symm.trans z
        by_cases h2 : b = a
        · have z' := (if_pos h2).symm.trans z1
          cases z'
          rw [h2]
          exact ⟨at0, by rw [List.length_map]; exact few, vs, _, rvs, at0⟩
        · have z' := (if_neg h2).symm.trans z1
          cases z'
end
theorem walk_M {l : PySem.W.OpenLaw} {n k : Nat} {q : Program} {loose : List Str} {XP : (Str → Option Value) → Heap → Prop} {YP : World → Heap → Prop} {d : DefRec} {K : Params → PySem.W.Frag} {sp : World → List Addr → Sp} {x : Str} {names : List Str}
    (most : l.most = some n) (small : n ≤ sizeLine) (nodf : d.params.defaults = []) (room : Room k callerA) (imps : importsNone q = true) (rec_ : (names.all fun y => (recsOf q).any fun e => e.name == y) = true) (inn : ∀ (w : World) (h : Heap), YP w h → (K w.params).In h)
    (F : ∀ (w : World) (mg : Str → Option Value) (fa : Addr) (h : Heap), (K w.params).In h → h.Ns mainGlobals mg → mg d.name = some (.ref fa) → (∀ y f, y ∈ names → mg y = some (.ref f) → LamX.OwnTab (K w.params) f h) →
      ∃ (fd : FuncData) (cts : List (Addr × Addr)), (∀ z ∈ cts, h.get? z.2 = some { cls := .none, data := .fields #[] }) ∧ (∀ z ∈ cts, (K w.params).lookup z.2 = none) ∧ (∀ z ∈ cts, PySem.W.codeHdIn (K w.params) z.1 z.2 = true) ∧ (∀ (s : Shared) (u : Value), BindsTo s fd ⟨[u], []⟩ [(x, u)]) ∧
        ∀ base : Heap, (K w.params).In base → base.Ns mainGlobals mg → SysAt base → (∀ z ∈ cts, LamX.TabB base mg z.1 z.2) → FnG l.prog w (K w.params) mg base k fa fd [x] (sp w (cts.map Prod.snd)))
    (want : ∀ (w : World) (ts : List Addr) (H : Hp) (a : Addr) (ns : List Int), ns.length ≤ n → (∀ t ∈ ts, H t = some (.tbl #[])) → SqL (K w.params) H a (ns.map V.int) → sp w ts [.ref a] H (fun v _ => v = .bl true) fun _ _ _ => False) :
    PySem.W.WalkO q loose XP YP l.row.toRowW d [] (fun f vs => PySem.call f vs) := by
  refine Att.attach_call most nodf fun w s₀ st mg mb fa o pm cd doc a vs ns G Y ho hd hcd hmg hobj hints hlen g0 => ?_
  have KI := inn w _ Y
  have own : ∀ y f, y ∈ names → mg y = some (.ref f) → LamX.OwnTab (K w.params) f st.heap := fun y f hy hf c P o1 fd1 e dd vs1 sl k1 k2 k3 k4 k5 => by
    obtain ⟨dL, hm, hn1⟩ := List.any_eq_true.mp (List.all_eq_true.mp rec_ y hy)
    obtain ⟨a', o', fd', c', P', h1, h2, h3, h4, _, h6⟩ := G.T.tab dL hm
    rw [show dL.name = y from beq_iff_eq.mp hn1, hf] at h1
    cases h1
    rw [KI _ _ k1] at h2
    cases h2
    rw [k2] at h3
    cases h3
    rw [k3] at h4
    cases h4
    obtain ⟨⟨oc, vc, e1, _, e3, e4⟩, hP⟩ := h6
    rw [KI _ _ k4] at e1
    cases e1
    cases e3
    rw [k5] at e4
    cases e4
    exact hP
  obtain ⟨fd, cts, t0, tK, ch, bd, good⟩ := F w mg fa _ KI G.T.g hmg own
  obtain ⟨H, B, sq⟩ := begin_atM (P := l.prog) (w := w) KI hobj hints (Nat.le_trans hlen small) t0
  refine run_beginM B KI G.T.g G.T.b G.T.builtins G.T.nolimit g0 hobj t0 tK ch G.T.bmain (let ⟨mm, z, _⟩ := (G.T.seer imps).mods; ⟨mm, z⟩) room good bd (want w _ H a ns hlen (fun t ht => ?_) sq)
  obtain ⟨z, hz, rfl⟩ := List.mem_map.mp ht
  exact B.tab z hz
end Own

namespace Own
open PySem PySem.Spec PyProof.Rows L2 Evl
theorem all_mk {P : Program} {w : World} {K : PySem.W.Frag} {h : Heap} {mg : Str → Option Value} {fa : Addr} (X : K.In h) (G : h.Ns mainGlobals mg) (hfa : mg "law" = some (.ref fa)) (own : ∀ y f, y ∈ (["law", "_law_both_right"] : List Str) → mg y = some (.ref f) → LamX.OwnTab K f h)
    {od0 an0 : Option Addr} {sl0 : Array (Option Value)} {oc0 kV0 dc0 pm0 cd0 ct0 : Value} {f0 : Addr}
    {od1 an1 : Option Addr} {sl1 : Array (Option Value)} {oc1 kV1 dc1 pm1 cd1 ct1 : Value} {f1 : Addr}
    {od2 an2 : Option Addr} {sl2 : Array (Option Value)} {oc2 kV2 dc2 pm2 cd2 ct2 : Value} {f2 : Addr}
    {od3 an3 : Option Addr} {sl3 : Array (Option Value)} {oc3 kV3 dc3 pm3 cd3 ct3 : Value} {f3 : Addr}
    {od4 an4 : Option Addr} {sl4 : Array (Option Value)} {oc4 kV4 dc4 pm4 cd4 ct4 : Value} {f4 : Addr}
    {od5 an5 : Option Addr} {sl5 : Array (Option Value)} {oc5 kV5 dc5 pm5 cd5 ct5 : Value} {f5 : Addr}
    {od6 an6 : Option Addr} {sl6 : Array (Option Value)} {oc6 kV6 dc6 pm6 cd6 ct6 : Value} {f6 : Addr}
    {od7 an7 : Option Addr} {sl7 : Array (Option Value)} {oc7 kV7 dc7 pm7 cd7 ct7 : Value} {f7 : Addr}
    {od8 an8 : Option Addr} {sl8 : Array (Option Value)} {oc8 kV8 dc8 pm8 cd8 ct8 : Value} {f8 : Addr}
    {od9 an9 : Option Addr} {sl9 : Array (Option Value)} {oc9 kV9 dc9 pm9 cd9 ct9 : Value} {f9 : Addr}
    {od10 an10 : Option Addr} {sl10 : Array (Option Value)} {oc10 kV10 dc10 pm10 cd10 ct10 : Value} {f10 : Addr}
    {od11 an11 : Option Addr} {sl11 : Array (Option Value)} {oc11 kV11 dc11 pm11 cd11 ct11 : Value} {f11 : Addr}
    {od12 an12 : Option Addr} {sl12 : Array (Option Value)} {oc12 kV12 dc12 pm12 cd12 ct12 : Value} {f12 : Addr}
    {od13 an13 : Option Addr} {sl13 : Array (Option Value)} {oc13 kV13 dc13 pm13 cd13 ct13 : Value} {f13 : Addr}
    {od14 an14 : Option Addr} {sl14 : Array (Option Value)} {oc14 kV14 dc14 pm14 cd14 ct14 : Value} {f14 : Addr}
    {od15 an15 : Option Addr} {sl15 : Array (Option Value)} {oc15 kV15 dc15 pm15 cd15 ct15 : Value} {f15 : Addr}
    {od16 an16 : Option Addr} {sl16 : Array (Option Value)} {oc16 kV16 dc16 pm16 cd16 ct16 : Value} {f16 : Addr}
    {od17 an17 : Option Addr} {sl17 : Array (Option Value)} {oc17 kV17 dc17 pm17 cd17 ct17 : Value} {f17 : Addr}
    {od18 an18 : Option Addr} {sl18 : Array (Option Value)} {oc18 kV18 dc18 pm18 cd18 ct18 : Value} {f18 : Addr}
    {od19 an19 : Option Addr} {sl19 : Array (Option Value)} {oc19 kV19 dc19 pm19 cd19 ct19 : Value} {f19 : Addr}
    {od20 an20 : Option Addr} {sl20 : Array (Option Value)} {oc20 kV20 dc20 pm20 cd20 ct20 : Value} {f20 : Addr}
    {od21 an21 : Option Addr} {sl21 : Array (Option Value)} {oc21 kV21 dc21 pm21 cd21 ct21 : Value} {f21 : Addr}
    {od22 an22 : Option Addr} {sl22 : Array (Option Value)} {oc22 kV22 dc22 pm22 cd22 ct22 : Value} {f22 : Addr}
    {od23 an23 : Option Addr} {sl23 : Array (Option Value)} {oc23 kV23 dc23 pm23 cd23 ct23 : Value} {f23 : Addr}
    {od24 an24 : Option Addr} {sl24 : Array (Option Value)} {oc24 kV24 dc24 pm24 cd24 ct24 : Value} {f24 : Addr}
    {od25 an25 : Option Addr} {sl25 : Array (Option Value)} {oc25 kV25 dc25 pm25 cd25 ct25 : Value} {f25 : Addr}
    {od26 an26 : Option Addr} {sl26 : Array (Option Value)} {oc26 kV26 dc26 pm26 cd26 ct26 : Value} {f26 : Addr}
    {od27 an27 : Option Addr} {sl27 : Array (Option Value)} {oc27 kV27 dc27 pm27 cd27 ct27 : Value} {f27 : Addr}
    {od28 an28 : Option Addr} {sl28 : Array (Option Value)} {oc28 kV28 dc28 pm28 cd28 ct28 : Value} {f28 : Addr}
    {od29 an29 : Option Addr} {sl29 : Array (Option Value)} {oc29 kV29 dc29 pm29 cd29 ct29 : Value} {f29 : Addr}
    {od30 an30 : Option Addr} {sl30 : Array (Option Value)} {oc30 kV30 dc30 pm30 cd30 ct30 : Value} {f30 : Addr}
    {od31 an31 : Option Addr} {sl31 : Array (Option Value)} {oc31 kV31 dc31 pm31 cd31 ct31 : Value} {f31 : Addr}
    {od32 an32 : Option Addr} {sl32 : Array (Option Value)} {oc32 kV32 dc32 pm32 cd32 ct32 : Value} {f32 : Addr}
    {od33 an33 : Option Addr} {sl33 : Array (Option Value)} {oc33 kV33 dc33 pm33 cd33 ct33 : Value} {f33 : Addr}
    {od34 an34 : Option Addr} {sl34 : Array (Option Value)} {oc34 kV34 dc34 pm34 cd34 ct34 : Value} {f34 : Addr}
    {od35 an35 : Option Addr} {sl35 : Array (Option Value)} {oc35 kV35 dc35 pm35 cd35 ct35 : Value} {f35 : Addr}
    {od36 an36 : Option Addr} {sl36 : Array (Option Value)} {oc36 kV36 dc36 pm36 cd36 ct36 : Value} {f36 : Addr}
    {od37 an37 : Option Addr} {sl37 : Array (Option Value)} {oc37 kV37 dc37 pm37 cd37 ct37 : Value} {f37 : Addr}
    {od38 an38 : Option Addr} {sl38 : Array (Option Value)} {oc38 kV38 dc38 pm38 cd38 ct38 : Value} {f38 : Addr}
    {od39 an39 : Option Addr} {sl39 : Array (Option Value)} {oc39 kV39 dc39 pm39 cd39 ct39 : Value} {f39 : Addr}
    {od40 an40 : Option Addr} {sl40 : Array (Option Value)} {oc40 kV40 dc40 pm40 cd40 ct40 : Value} {f40 : Addr}
    {od41 an41 : Option Addr} {sl41 : Array (Option Value)} {oc41 kV41 dc41 pm41 cd41 ct41 : Value} {f41 : Addr}
    {od42 an42 : Option Addr} {sl42 : Array (Option Value)} {oc42 kV42 dc42 pm42 cd42 ct42 : Value} {f42 : Addr}
    {od43 an43 : Option Addr} {sl43 : Array (Option Value)} {oc43 kV43 dc43 pm43 cd43 ct43 : Value} {f43 : Addr}
    {od44 an44 : Option Addr} {sl44 : Array (Option Value)} {oc44 kV44 dc44 pm44 cd44 ct44 : Value} {f44 : Addr}
    {od45 an45 : Option Addr} {sl45 : Array (Option Value)} {oc45 kV45 dc45 pm45 cd45 ct45 : Value} {f45 : Addr}
    {od46 an46 : Option Addr} {sl46 : Array (Option Value)} {oc46 kV46 dc46 pm46 ct46 : Value} {f46 ctl46 tb46 : Addr} {ecl46 : Value} {ddl46 : Option Addr} {vcl46 : Array Value} {sll46 : Array (Option Value)}
    {od47 an47 : Option Addr} {sl47 : Array (Option Value)} {oc47 kV47 dc47 pm47 cd47 ct47 : Value} {f47 : Addr}
    {od48 an48 : Option Addr} {sl48 : Array (Option Value)} {oc48 kV48 dc48 pm48 cd48 ct48 : Value} {f48 : Addr}
    {od49 an49 : Option Addr} {sl49 : Array (Option Value)} {oc49 kV49 dc49 pm49 ct49 : Value} {f49 ctl49 tb49 : Addr} {ecl49 : Value} {ddl49 : Option Addr} {vcl49 : Array Value} {sll49 : Array (Option Value)} {rel : Addr} {odR : Option Addr} {nR : Nat} {slR : Array (Option Value)} {tL u1 u2 u3 : Tok} {kn : Addr} {odkn : Option Addr} {nkn : Nat} {slkn : Array (Option Value)} {kn0 kn1 kn2 kn3 kn4 kn5 kn6 : Tok} {na : Addr} {odna : Option Addr} {nna : Nat} {slna : Array (Option Value)} {na0 na1 na2 : Tok} {os : Addr} {odos : Option Addr} {nos : Nat} {slos : Array (Option Value)} {os0 os1 : Tok} {PE_ : Addr} {C0 NN0 : Addr} {nm0 qn0 : Str} {bs0 sub0 : List Value} {sn0 : List Str} {ab0 : Bool} {col0 : Option Bool} {dd0 : Option Addr} {p0 q0 r0 s0 t0 : Option Value} {C1 NN1 : Addr} {nm1 qn1 : Str} {bs1 sub1 : List Value} {sn1 : List Str} {ab1 : Bool} {col1 : Option Bool} {dd1 : Option Addr} {p1 q1 r1 s1 t1 : Option Value} {C2 NN2 : Addr} {nm2 qn2 : Str} {bs2 sub2 : List Value} {sn2 : List Str} {ab2 : Bool} {col2 : Option Bool} {dd2 : Option Addr} {p2 q2 r2 s2 t2 : Option Value} {C3 NN3 : Addr} {nm3 qn3 : Str} {bs3 sub3 : List Value} {sn3 : List Str} {ab3 : Bool} {col3 : Option Bool} {dd3 : Option Addr} {p3 q3 r3 s3 t3 : Option Value} {C4 NN4 : Addr} {nm4 qn4 : Str} {bs4 sub4 : List Value} {sn4 : List Str} {ab4 : Bool} {col4 : Option Bool} {dd4 : Option Addr} {p4 q4 r4 s4 t4 : Option Value} {C5 NN5 : Addr} {nm5 qn5 : Str} {bs5 sub5 : List Value} {sn5 : List Str} {ab5 : Bool} {col5 : Option Bool} {dd5 : Option Addr} {p5 q5 r5 s5 t5 : Option Value} {fe4 : Addr} {ode4 ane4 : Option Addr} {sle4 : Array (Option Value)} {oce4 kVe4 dce4 pme4 cde4 cte4 : Value} {fe2 : Addr} {ode2 ane2 : Option Addr} {sle2 : Array (Option Value)} {oce2 kVe2 dce2 pme2 cde2 cte2 : Value} {fe3 : Addr} {ode3 ane3 : Option Addr} {sle3 : Array (Option Value)} {oce3 kVe3 dce3 pme3 cde3 cte3 : Value} {C : Addr} {fSinit : Addr} {odSinit anSinit : Option Addr} {slSinit : Array (Option Value)} {ocSinit kVSinit dcSinit pmSinit cdSinit ctSinit : Value} {fSeq : Addr} {odSeq anSeq : Option Addr} {slSeq : Array (Option Value)} {ocSeq kVSeq dcSeq pmSeq cdSeq ctSeq : Value} {fSlen : Addr} {odSlen anSlen : Option Addr} {slSlen : Array (Option Value)} {ocSlen kVSlen dcSlen pmSlen cdSlen ctSlen : Value} {fSadd : Addr} {odSadd anSadd : Option Addr} {slSadd : Array (Option Value)} {ocSadd kVSadd dcSadd pmSadd cdSadd ctSadd : Value} {fScheckindex : Addr} {odScheckindex anScheckindex : Option Addr} {slScheckindex : Array (Option Value)} {ocScheckindex kVScheckindex dcScheckindex pmScheckindex cdScheckindex ctScheckindex : Value} {fSsteps : Addr} {odSsteps anSsteps : Option Addr} {slSsteps : Array (Option Value)} {ocSsteps kVSsteps dcSsteps pmSsteps cdSsteps ctSsteps : Value} {fSwithstep : Addr} {odSwithstep anSwithstep : Option Addr} {slSwithstep : Array (Option Value)} {ocSwithstep kVSwithstep dcSwithstep pmSwithstep cdSwithstep ctSwithstep : Value} {fSwithout : Addr} {odSwithout anSwithout : Option Addr} {slSwithout : Array (Option Value)} {ocSwithout kVSwithout dcSwithout pmSwithout cdSwithout ctSwithout : Value} {fSswapped : Addr} {odSswapped anSswapped : Option Addr} {slSswapped : Array (Option Value)} {ocSswapped kVSswapped dcSswapped pmSswapped cdSswapped ctSswapped : Value} {fSpicksinorder : Addr} {odSpicksinorder anSpicksinorder : Option Addr} {slSpicksinorder : Array (Option Value)} {ocSpicksinorder kVSpicksinorder dcSpicksinorder pmSpicksinorder cdSpicksinorder ctSpicksinorder : Value} {fSnames : Addr} {odSnames anSnames : Option Addr} {slSnames : Array (Option Value)} {ocSnames kVSnames dcSnames pmSnames cdSnames ctSnames : Value} {fSpatterns : Addr} {odSpatterns anSpatterns : Option Addr} {slSpatterns : Array (Option Value)} {ocSpatterns kVSpatterns dcSpatterns pmSpatterns cdSpatterns ctSpatterns : Value} {fSplaces : Addr} {odSplaces anSplaces : Option Addr} {slSplaces : Array (Option Value)} {ocSplaces kVSplaces dcSplaces pmSplaces cdSplaces ctSplaces : Value}
    (a0 : PySem.W.nsIn K mainGlobals "is_integer" = some (some (.ref f0))) (l0 : K.lookup f0 = some ⟨oc0, od0, .func (PySem.W.fnOf "is_integer" "is_integer" (defArgs s_is_integer) (defBody s_is_integer) (defScope s_is_integer) .none kV0 dc0 pm0 an0 cd0 ct0), sl0⟩) (c0 : PySem.W.codeIn K cd0 "is_integer" = true) (k0 : PySem.W.keepIn K (.ref f0) = true)
    (a1 : PySem.W.nsIn K mainGlobals "is_index" = some (some (.ref f1))) (l1 : K.lookup f1 = some ⟨oc1, od1, .func (PySem.W.fnOf "is_index" "is_index" (defArgs s_is_index) (defBody s_is_index) (defScope s_is_index) .none kV1 dc1 pm1 an1 cd1 ct1), sl1⟩) (c1 : PySem.W.codeIn K cd1 "is_index" = true) (k1 : PySem.W.keepIn K (.ref f1) = true)
    (a2 : PySem.W.nsIn K mainGlobals "is_name" = some (some (.ref f2))) (l2 : K.lookup f2 = some ⟨oc2, od2, .func (PySem.W.fnOf "is_name" "is_name" (defArgs s_is_name) (defBody s_is_name) (defScope s_is_name) .none kV2 dc2 pm2 an2 cd2 ct2), sl2⟩) (c2 : PySem.W.codeIn K cd2 "is_name" = true) (k2 : PySem.W.keepIn K (.ref f2) = true)
    (a3 : PySem.W.nsIn K mainGlobals "is_relation" = some (some (.ref f3))) (l3 : K.lookup f3 = some ⟨oc3, od3, .func (PySem.W.fnOf "is_relation" "is_relation" (defArgs s_is_relation) (defBody s_is_relation) (defScope s_is_relation) .none kV3 dc3 pm3 an3 cd3 ct3), sl3⟩) (c3 : PySem.W.codeIn K cd3 "is_relation" = true) (k3 : PySem.W.keepIn K (.ref f3) = true)
    (a4 : PySem.W.nsIn K mainGlobals "is_blank" = some (some (.ref f4))) (l4 : K.lookup f4 = some ⟨oc4, od4, .func (PySem.W.fnOf "is_blank" "is_blank" (defArgs s_is_blank) (defBody s_is_blank) (defScope s_is_blank) .none kV4 dc4 pm4 an4 cd4 ct4), sl4⟩) (c4 : PySem.W.codeIn K cd4 "is_blank" = true) (k4 : PySem.W.keepIn K (.ref f4) = true)
    (a5 : PySem.W.nsIn K mainGlobals "is_pattern" = some (some (.ref f5))) (l5 : K.lookup f5 = some ⟨oc5, od5, .func (PySem.W.fnOf "is_pattern" "is_pattern" (defArgs s_is_pattern) (defBody s_is_pattern) (defScope s_is_pattern) .none kV5 dc5 pm5 an5 cd5 ct5), sl5⟩) (c5 : PySem.W.codeIn K cd5 "is_pattern" = true) (k5 : PySem.W.keepIn K (.ref f5) = true)
    (a6 : PySem.W.nsIn K mainGlobals "is_bare_pick" = some (some (.ref f6))) (l6 : K.lookup f6 = some ⟨oc6, od6, .func (PySem.W.fnOf "is_bare_pick" "is_bare_pick" (defArgs s_is_bare_pick) (defBody s_is_bare_pick) (defScope s_is_bare_pick) .none kV6 dc6 pm6 an6 cd6 ct6), sl6⟩) (c6 : PySem.W.codeIn K cd6 "is_bare_pick" = true) (k6 : PySem.W.keepIn K (.ref f6) = true)
    (a7 : PySem.W.nsIn K mainGlobals "is_pick" = some (some (.ref f7))) (l7 : K.lookup f7 = some ⟨oc7, od7, .func (PySem.W.fnOf "is_pick" "is_pick" (defArgs s_is_pick) (defBody s_is_pick) (defScope s_is_pick) .none kV7 dc7 pm7 an7 cd7 ct7), sl7⟩) (c7 : PySem.W.codeIn K cd7 "is_pick" = true) (k7 : PySem.W.keepIn K (.ref f7) = true)
    (a8 : PySem.W.nsIn K mainGlobals "home_of" = some (some (.ref f8))) (l8 : K.lookup f8 = some ⟨oc8, od8, .func (PySem.W.fnOf "home_of" "home_of" (defArgs s_home_of) (defBody s_home_of) (defScope s_home_of) .none kV8 dc8 pm8 an8 cd8 ct8), sl8⟩) (c8 : PySem.W.codeIn K cd8 "home_of" = true) (k8 : PySem.W.keepIn K (.ref f8) = true)
    (a9 : PySem.W.nsIn K mainGlobals "bare" = some (some (.ref f9))) (l9 : K.lookup f9 = some ⟨oc9, od9, .func (PySem.W.fnOf "bare" "bare" (defArgs s_bare) (defBody s_bare) (defScope s_bare) .none kV9 dc9 pm9 an9 cd9 ct9), sl9⟩) (c9 : PySem.W.codeIn K cd9 "bare" = true) (k9 : PySem.W.keepIn K (.ref f9) = true)
    (a10 : PySem.W.nsIn K mainGlobals "is_single" = some (some (.ref f10))) (l10 : K.lookup f10 = some ⟨oc10, od10, .func (PySem.W.fnOf "is_single" "is_single" (defArgs s_is_single) (defBody s_is_single) (defScope s_is_single) .none kV10 dc10 pm10 an10 cd10 ct10), sl10⟩) (c10 : PySem.W.codeIn K cd10 "is_single" = true) (k10 : PySem.W.keepIn K (.ref f10) = true)
    (a11 : PySem.W.nsIn K mainGlobals "name_of" = some (some (.ref f11))) (l11 : K.lookup f11 = some ⟨oc11, od11, .func (PySem.W.fnOf "name_of" "name_of" (defArgs s_name_of) (defBody s_name_of) (defScope s_name_of) .none kV11 dc11 pm11 an11 cd11 ct11), sl11⟩) (c11 : PySem.W.codeIn K cd11 "name_of" = true) (k11 : PySem.W.keepIn K (.ref f11) = true)
    (a12 : PySem.W.nsIn K mainGlobals "place_of" = some (some (.ref f12))) (l12 : K.lookup f12 = some ⟨oc12, od12, .func (PySem.W.fnOf "place_of" "place_of" (defArgs s_place_of) (defBody s_place_of) (defScope s_place_of) .none kV12 dc12 pm12 an12 cd12 ct12), sl12⟩) (c12 : PySem.W.codeIn K cd12 "place_of" = true) (k12 : PySem.W.keepIn K (.ref f12) = true)
    (a13 : PySem.W.nsIn K mainGlobals "pattern_of" = some (some (.ref f13))) (l13 : K.lookup f13 = some ⟨oc13, od13, .func (PySem.W.fnOf "pattern_of" "pattern_of" (defArgs s_pattern_of) (defBody s_pattern_of) (defScope s_pattern_of) .none kV13 dc13 pm13 an13 cd13 ct13), sl13⟩) (c13 : PySem.W.codeIn K cd13 "pattern_of" = true) (k13 : PySem.W.keepIn K (.ref f13) = true)
    (a14 : PySem.W.nsIn K mainGlobals "picks_in" = some (some (.ref f14))) (l14 : K.lookup f14 = some ⟨oc14, od14, .func (PySem.W.fnOf "picks_in" "picks_in" (defArgs s_picks_in) (defBody s_picks_in) (defScope s_picks_in) .none kV14 dc14 pm14 an14 cd14 ct14), sl14⟩) (c14 : PySem.W.codeIn K cd14 "picks_in" = true) (k14 : PySem.W.keepIn K (.ref f14) = true)
    (a15 : PySem.W.nsIn K mainGlobals "is_pick_for" = some (some (.ref f15))) (l15 : K.lookup f15 = some ⟨oc15, od15, .func (PySem.W.fnOf "is_pick_for" "is_pick_for" (defArgs s_is_pick_for) (defBody s_is_pick_for) (defScope s_is_pick_for) .none kV15 dc15 pm15 an15 cd15 ct15), sl15⟩) (c15 : PySem.W.codeIn K cd15 "is_pick_for" = true) (k15 : PySem.W.keepIn K (.ref f15) = true)
    (a16 : PySem.W.nsIn K mainGlobals "is_step" = some (some (.ref f16))) (l16 : K.lookup f16 = some ⟨oc16, od16, .func (PySem.W.fnOf "is_step" "is_step" (defArgs s_is_step) (defBody s_is_step) (defScope s_is_step) .none kV16 dc16 pm16 an16 cd16 ct16), sl16⟩) (c16 : PySem.W.codeIn K cd16 "is_step" = true) (k16 : PySem.W.keepIn K (.ref f16) = true)
    (a17 : PySem.W.nsIn K mainGlobals "picks_of" = some (some (.ref f17))) (l17 : K.lookup f17 = some ⟨oc17, od17, .func (PySem.W.fnOf "picks_of" "picks_of" (defArgs s_picks_of) (defBody s_picks_of) (defScope s_picks_of) .none kV17 dc17 pm17 an17 cd17 ct17), sl17⟩) (c17 : PySem.W.codeIn K cd17 "picks_of" = true) (k17 : PySem.W.keepIn K (.ref f17) = true)
    (a18 : PySem.W.nsIn K mainGlobals "check_closes" = some (some (.ref f18))) (l18 : K.lookup f18 = some ⟨oc18, od18, .func (PySem.W.fnOf "check_closes" "check_closes" (defArgs s_check_closes) (defBody s_check_closes) (defScope s_check_closes) .none kV18 dc18 pm18 an18 cd18 ct18), sl18⟩) (c18 : PySem.W.codeIn K cd18 "check_closes" = true) (k18 : PySem.W.keepIn K (.ref f18) = true)
    (a19 : PySem.W.nsIn K mainGlobals "_law_bag" = some (some (.ref f19))) (l19 : K.lookup f19 = some ⟨oc19, od19, .func (PySem.W.fnOf "_law_bag" "_law_bag" (defArgs s_l_bag) (defBody s_l_bag) (defScope s_l_bag) .none kV19 dc19 pm19 an19 cd19 ct19), sl19⟩) (c19 : PySem.W.codeIn K cd19 "_law_bag" = true) (k19 : PySem.W.keepIn K (.ref f19) = true)
    (a20 : PySem.W.nsIn K mainGlobals "_law_take" = some (some (.ref f20))) (l20 : K.lookup f20 = some ⟨oc20, od20, .func (PySem.W.fnOf "_law_take" "_law_take" (defArgs s_l_take) (defBody s_l_take) (defScope s_l_take) .none kV20 dc20 pm20 an20 cd20 ct20), sl20⟩) (c20 : PySem.W.codeIn K cd20 "_law_take" = true) (k20 : PySem.W.keepIn K (.ref f20) = true)
    (a21 : PySem.W.nsIn K mainGlobals "_law_alike" = some (some (.ref f21))) (l21 : K.lookup f21 = some ⟨oc21, od21, .func (PySem.W.fnOf "_law_alike" "_law_alike" (defArgs s_l_alike) (defBody s_l_alike) (defScope s_l_alike) .none kV21 dc21 pm21 an21 cd21 ct21), sl21⟩) (c21 : PySem.W.codeIn K cd21 "_law_alike" = true) (k21 : PySem.W.keepIn K (.ref f21) = true)
    (a22 : PySem.W.nsIn K mainGlobals "_law_some" = some (some (.ref f22))) (l22 : K.lookup f22 = some ⟨oc22, od22, .func (PySem.W.fnOf "_law_some" "_law_some" (defArgs s_l_some) (defBody s_l_some) (defScope s_l_some) .none kV22 dc22 pm22 an22 cd22 ct22), sl22⟩) (c22 : PySem.W.codeIn K cd22 "_law_some" = true) (k22 : PySem.W.keepIn K (.ref f22) = true)
    (a23 : PySem.W.nsIn K mainGlobals "_law_names" = some (some (.ref f23))) (l23 : K.lookup f23 = some ⟨oc23, od23, .func (PySem.W.fnOf "_law_names" "_law_names" (defArgs s_l_names) (defBody s_l_names) (defScope s_l_names) .none kV23 dc23 pm23 an23 cd23 ct23), sl23⟩) (c23 : PySem.W.codeIn K cd23 "_law_names" = true) (k23 : PySem.W.keepIn K (.ref f23) = true)
    (a24 : PySem.W.nsIn K mainGlobals "_law_world" = some (some (.ref f24))) (l24 : K.lookup f24 = some ⟨oc24, od24, .func (PySem.W.fnOf "_law_world" "_law_world" (defArgs s_l_world) (defBody s_l_world) (defScope s_l_world) .none kV24 dc24 pm24 an24 cd24 ct24), sl24⟩) (c24 : PySem.W.codeIn K cd24 "_law_world" = true) (k24 : PySem.W.keepIn K (.ref f24) = true)
    (a25 : PySem.W.nsIn K mainGlobals "_law_atom" = some (some (.ref f25))) (l25 : K.lookup f25 = some ⟨oc25, od25, .func (PySem.W.fnOf "_law_atom" "_law_atom" (defArgs s_l_atom) (defBody s_l_atom) (defScope s_l_atom) .none kV25 dc25 pm25 an25 cd25 ct25), sl25⟩) (c25 : PySem.W.codeIn K cd25 "_law_atom" = true) (k25 : PySem.W.keepIn K (.ref f25) = true)
    (a26 : PySem.W.nsIn K mainGlobals "_law_pattern" = some (some (.ref f26))) (l26 : K.lookup f26 = some ⟨oc26, od26, .func (PySem.W.fnOf "_law_pattern" "_law_pattern" (defArgs s_l_pattern) (defBody s_l_pattern) (defScope s_l_pattern) .none kV26 dc26 pm26 an26 cd26 ct26), sl26⟩) (c26 : PySem.W.codeIn K cd26 "_law_pattern" = true) (k26 : PySem.W.keepIn K (.ref f26) = true)
    (a27 : PySem.W.nsIn K mainGlobals "_law_pick" = some (some (.ref f27))) (l27 : K.lookup f27 = some ⟨oc27, od27, .func (PySem.W.fnOf "_law_pick" "_law_pick" (defArgs s_l_pick) (defBody s_l_pick) (defScope s_l_pick) .none kV27 dc27 pm27 an27 cd27 ct27), sl27⟩) (c27 : PySem.W.codeIn K cd27 "_law_pick" = true) (k27 : PySem.W.keepIn K (.ref f27) = true)
    (a28 : PySem.W.nsIn K mainGlobals "_law_step" = some (some (.ref f28))) (l28 : K.lookup f28 = some ⟨oc28, od28, .func (PySem.W.fnOf "_law_step" "_law_step" (defArgs s_l_step) (defBody s_l_step) (defScope s_l_step) .none kV28 dc28 pm28 an28 cd28 ct28), sl28⟩) (c28 : PySem.W.codeIn K cd28 "_law_step" = true) (k28 : PySem.W.keepIn K (.ref f28) = true)
    (a29 : PySem.W.nsIn K mainGlobals "_law_bare" = some (some (.ref f29))) (l29 : K.lookup f29 = some ⟨oc29, od29, .func (PySem.W.fnOf "_law_bare" "_law_bare" (defArgs s_l_bare) (defBody s_l_bare) (defScope s_l_bare) .none kV29 dc29 pm29 an29 cd29 ct29), sl29⟩) (c29 : PySem.W.codeIn K cd29 "_law_bare" = true) (k29 : PySem.W.keepIn K (.ref f29) = true)
    (a30 : PySem.W.nsIn K mainGlobals "_law_picks" = some (some (.ref f30))) (l30 : K.lookup f30 = some ⟨oc30, od30, .func (PySem.W.fnOf "_law_picks" "_law_picks" (defArgs s_l_picks) (defBody s_l_picks) (defScope s_l_picks) .none kV30 dc30 pm30 an30 cd30 ct30), sl30⟩) (c30 : PySem.W.codeIn K cd30 "_law_picks" = true) (k30 : PySem.W.keepIn K (.ref f30) = true)
    (a31 : PySem.W.nsIn K mainGlobals "_law_is_name" = some (some (.ref f31))) (l31 : K.lookup f31 = some ⟨oc31, od31, .func (PySem.W.fnOf "_law_is_name" "_law_is_name" (defArgs s_l_is_name) (defBody s_l_is_name) (defScope s_l_is_name) .none kV31 dc31 pm31 an31 cd31 ct31), sl31⟩) (c31 : PySem.W.codeIn K cd31 "_law_is_name" = true) (k31 : PySem.W.keepIn K (.ref f31) = true)
    (a32 : PySem.W.nsIn K mainGlobals "_law_is_atomic" = some (some (.ref f32))) (l32 : K.lookup f32 = some ⟨oc32, od32, .func (PySem.W.fnOf "_law_is_atomic" "_law_is_atomic" (defArgs s_l_is_atomic) (defBody s_l_is_atomic) (defScope s_l_is_atomic) .none kV32 dc32 pm32 an32 cd32 ct32), sl32⟩) (c32 : PySem.W.codeIn K cd32 "_law_is_atomic" = true) (k32 : PySem.W.keepIn K (.ref f32) = true)
    (a33 : PySem.W.nsIn K mainGlobals "_law_is_count" = some (some (.ref f33))) (l33 : K.lookup f33 = some ⟨oc33, od33, .func (PySem.W.fnOf "_law_is_count" "_law_is_count" (defArgs s_l_is_count) (defBody s_l_is_count) (defScope s_l_is_count) .none kV33 dc33 pm33 an33 cd33 ct33), sl33⟩) (c33 : PySem.W.codeIn K cd33 "_law_is_count" = true) (k33 : PySem.W.keepIn K (.ref f33) = true)
    (a34 : PySem.W.nsIn K mainGlobals "_law_is_bare" = some (some (.ref f34))) (l34 : K.lookup f34 = some ⟨oc34, od34, .func (PySem.W.fnOf "_law_is_bare" "_law_is_bare" (defArgs s_l_is_bare) (defBody s_l_is_bare) (defScope s_l_is_bare) .none kV34 dc34 pm34 an34 cd34 ct34), sl34⟩) (c34 : PySem.W.codeIn K cd34 "_law_is_bare" = true) (k34 : PySem.W.keepIn K (.ref f34) = true)
    (a35 : PySem.W.nsIn K mainGlobals "_law_is_pick" = some (some (.ref f35))) (l35 : K.lookup f35 = some ⟨oc35, od35, .func (PySem.W.fnOf "_law_is_pick" "_law_is_pick" (defArgs s_l_is_pick) (defBody s_l_is_pick) (defScope s_l_is_pick) .none kV35 dc35 pm35 an35 cd35 ct35), sl35⟩) (c35 : PySem.W.codeIn K cd35 "_law_is_pick" = true) (k35 : PySem.W.keepIn K (.ref f35) = true)
    (a36 : PySem.W.nsIn K mainGlobals "_law_is_step" = some (some (.ref f36))) (l36 : K.lookup f36 = some ⟨oc36, od36, .func (PySem.W.fnOf "_law_is_step" "_law_is_step" (defArgs s_l_is_step) (defBody s_l_is_step) (defScope s_l_is_step) .none kV36 dc36 pm36 an36 cd36 ct36), sl36⟩) (c36 : PySem.W.codeIn K cd36 "_law_is_step" = true) (k36 : PySem.W.keepIn K (.ref f36) = true)
    (a37 : PySem.W.nsIn K mainGlobals "_law_odd" = some (some (.ref f37))) (l37 : K.lookup f37 = some ⟨oc37, od37, .func (PySem.W.fnOf "_law_odd" "_law_odd" (defArgs s_l_odd) (defBody s_l_odd) (defScope s_l_odd) .none kV37 dc37 pm37 an37 cd37 ct37), sl37⟩) (c37 : PySem.W.codeIn K cd37 "_law_odd" = true) (k37 : PySem.W.keepIn K (.ref f37) = true)
    (a38 : PySem.W.nsIn K mainGlobals "_law_bent" = some (some (.ref f38))) (l38 : K.lookup f38 = some ⟨oc38, od38, .func (PySem.W.fnOf "_law_bent" "_law_bent" (defArgs s_l_bent) (defBody s_l_bent) (defScope s_l_bent) .none kV38 dc38 pm38 an38 cd38 ct38), sl38⟩) (c38 : PySem.W.codeIn K cd38 "_law_bent" = true) (k38 : PySem.W.keepIn K (.ref f38) = true)
    (a39 : PySem.W.nsIn K mainGlobals "_law_step_any" = some (some (.ref f39))) (l39 : K.lookup f39 = some ⟨oc39, od39, .func (PySem.W.fnOf "_law_step_any" "_law_step_any" (defArgs s_l_step_any) (defBody s_l_step_any) (defScope s_l_step_any) .none kV39 dc39 pm39 an39 cd39 ct39), sl39⟩) (c39 : PySem.W.codeIn K cd39 "_law_step_any" = true) (k39 : PySem.W.keepIn K (.ref f39) = true)
    (a40 : PySem.W.nsIn K mainGlobals "_law_error" = some (some (.ref f40))) (l40 : K.lookup f40 = some ⟨oc40, od40, .func (PySem.W.fnOf "_law_error" "_law_error" (defArgs s_l_error) (defBody s_l_error) (defScope s_l_error) .none kV40 dc40 pm40 an40 cd40 ct40), sl40⟩) (c40 : PySem.W.codeIn K cd40 "_law_error" = true) (k40 : PySem.W.keepIn K (.ref f40) = true)
    (a41 : PySem.W.nsIn K mainGlobals "_law_heard" = some (some (.ref f41))) (l41 : K.lookup f41 = some ⟨oc41, od41, .func (PySem.W.fnOf "_law_heard" "_law_heard" (defArgs s_l_heard) (defBody s_l_heard) (defScope s_l_heard) .none kV41 dc41 pm41 an41 cd41 ct41), sl41⟩) (c41 : PySem.W.codeIn K cd41 "_law_heard" = true) (k41 : PySem.W.keepIn K (.ref f41) = true)
    (a42 : PySem.W.nsIn K mainGlobals "_law_drawn" = some (some (.ref f42))) (l42 : K.lookup f42 = some ⟨oc42, od42, .func (PySem.W.fnOf "_law_drawn" "_law_drawn" (defArgs s_l_drawn) (defBody s_l_drawn) (defScope s_l_drawn) .none kV42 dc42 pm42 an42 cd42 ct42), sl42⟩) (c42 : PySem.W.codeIn K cd42 "_law_drawn" = true) (k42 : PySem.W.keepIn K (.ref f42) = true)
    (a43 : PySem.W.nsIn K mainGlobals "_law_made" = some (some (.ref f43))) (l43 : K.lookup f43 = some ⟨oc43, od43, .func (PySem.W.fnOf "_law_made" "_law_made" (defArgs s_l_made) (defBody s_l_made) (defScope s_l_made) .none kV43 dc43 pm43 an43 cd43 ct43), sl43⟩) (c43 : PySem.W.codeIn K cd43 "_law_made" = true) (k43 : PySem.W.keepIn K (.ref f43) = true)
    (a44 : PySem.W.nsIn K mainGlobals "_law_asked_of" = some (some (.ref f44))) (l44 : K.lookup f44 = some ⟨oc44, od44, .func (PySem.W.fnOf "_law_asked_of" "_law_asked_of" (defArgs s_l_asked_of) (defBody s_l_asked_of) (defScope s_l_asked_of) .none kV44 dc44 pm44 an44 cd44 ct44), sl44⟩) (c44 : PySem.W.codeIn K cd44 "_law_asked_of" = true) (k44 : PySem.W.keepIn K (.ref f44) = true)
    (a45 : PySem.W.nsIn K mainGlobals "_law_tells" = some (some (.ref f45))) (l45 : K.lookup f45 = some ⟨oc45, od45, .func (PySem.W.fnOf "_law_tells" "_law_tells" (defArgs s_l_tells) (defBody s_l_tells) (defScope s_l_tells) .none kV45 dc45 pm45 an45 cd45 ct45), sl45⟩) (c45 : PySem.W.codeIn K cd45 "_law_tells" = true) (k45 : PySem.W.keepIn K (.ref f45) = true)
    (a46 : PySem.W.nsIn K mainGlobals "_law_both_right" = some (some (.ref f46))) (l46 : K.lookup f46 = some ⟨oc46, od46, .func (PySem.W.fnOf "_law_both_right" "_law_both_right" (defArgs s_l_both_right) (defBody s_l_both_right) (defScope s_l_both_right) .none kV46 dc46 pm46 an46 (.ref ctl46) ct46), sl46⟩) (c46 : PySem.W.codeIn K (.ref ctl46) "_law_both_right" = true) (k46 : PySem.W.keepIn K (.ref f46) = true) (hct46 : K.lookup ctl46 = some ⟨ecl46, ddl46, .fields vcl46, sll46⟩) (hvt46 : vcl46[11]? = some (.ref tb46)) (hch46 : PySem.W.codeHdIn K ctl46 tb46 = true) (htn46 : K.lookup tb46 = none)
    (a47 : PySem.W.nsIn K mainGlobals "_law_index" = some (some (.ref f47))) (l47 : K.lookup f47 = some ⟨oc47, od47, .func (PySem.W.fnOf "_law_index" "_law_index" (defArgs s_l_index) (defBody s_l_index) (defScope s_l_index) .none kV47 dc47 pm47 an47 cd47 ct47), sl47⟩) (c47 : PySem.W.codeIn K cd47 "_law_index" = true) (k47 : PySem.W.keepIn K (.ref f47) = true)
    (a48 : PySem.W.nsIn K mainGlobals "_law_is_index" = some (some (.ref f48))) (l48 : K.lookup f48 = some ⟨oc48, od48, .func (PySem.W.fnOf "_law_is_index" "_law_is_index" (defArgs s_l_is_index) (defBody s_l_is_index) (defScope s_l_is_index) .none kV48 dc48 pm48 an48 cd48 ct48), sl48⟩) (c48 : PySem.W.codeIn K cd48 "_law_is_index" = true) (k48 : PySem.W.keepIn K (.ref f48) = true)
    (a49 : PySem.W.nsIn K mainGlobals "law" = some (some (.ref f49))) (l49 : K.lookup f49 = some ⟨oc49, od49, .func (PySem.W.fnOf "law" "law" (defArgs s_law) (defBody s_law) (defScope s_law) .none kV49 dc49 pm49 an49 (.ref ctl49) ct49), sl49⟩) (c49 : PySem.W.codeIn K (.ref ctl49) "law" = true) (k49 : PySem.W.keepIn K (.ref f49) = true) (hct49 : K.lookup ctl49 = some ⟨ecl49, ddl49, .fields vcl49, sll49⟩) (hvt49 : vcl49[11]? = some (.ref tb49)) (hch49 : PySem.W.codeHdIn K ctl49 tb49 = true) (htn49 : K.lookup tb49 = none)
    (ne49_46 : tb49 ≠ tb46)
    (z_abs : PySem.W.nsIn K mainGlobals "abs" = some none)
    (z_all : PySem.W.nsIn K mainGlobals "all" = some none)
    (z_any : PySem.W.nsIn K mainGlobals "any" = some none)
    (z_bool : PySem.W.nsIn K mainGlobals "bool" = some none)
    (z_dict : PySem.W.nsIn K mainGlobals "dict" = some none)
    (z_enumerate : PySem.W.nsIn K mainGlobals "enumerate" = some none)
    (z_int : PySem.W.nsIn K mainGlobals "int" = some none)
    (z_isinstance : PySem.W.nsIn K mainGlobals "isinstance" = some none)
    (z_len : PySem.W.nsIn K mainGlobals "len" = some none)
    (z_list : PySem.W.nsIn K mainGlobals "list" = some none)
    (z_range : PySem.W.nsIn K mainGlobals "range" = some none)
    (z_repr : PySem.W.nsIn K mainGlobals "repr" = some none)
    (z_set : PySem.W.nsIn K mainGlobals "set" = some none)
    (z_sorted : PySem.W.nsIn K mainGlobals "sorted" = some none)
    (z_str : PySem.W.nsIn K mainGlobals "str" = some none)
    (z_tuple : PySem.W.nsIn K mainGlobals "tuple" = some none)
    (z_zip : PySem.W.nsIn K mainGlobals "zip" = some none)
    (gLong : PySem.W.nsIn K mainGlobals "LONGEST_NAME" = some (some (.int 8 tL)))
    (gRel : PySem.W.nsIn K mainGlobals "RELATIONS" = some (some (.ref rel)))
    (lRel : K.lookup rel = some ⟨.type "tuple", odR, .seq #[.str "eq" u1, .str "lt" u2, .str "gt" u3] nR, slR⟩)
    (gkn : PySem.W.nsIn K mainGlobals "KINDS" = some (some (.ref kn)))
    (lkn : K.lookup kn = some ⟨.type "tuple", odkn, .seq #[.str "turn" kn0, .str "part" kn1, .str "drop" kn2, .str "call" kn3, .str "copy" kn4, .str "chain" kn5, .str "close" kn6] nkn, slkn⟩)
    (gna : PySem.W.nsIn K mainGlobals "NAMING" = some (some (.ref na)))
    (lna : K.lookup na = some ⟨.type "tuple", odna, .seq #[.str "call" na0, .str "copy" na1, .str "chain" na2] nna, slna⟩)
    (gos : PySem.W.nsIn K mainGlobals "ONLY_SINGLE" = some (some (.ref os)))
    (los : K.lookup os = some ⟨.type "tuple", odos, .seq #[.str "chain" os0, .str "close" os1] nos, slos⟩)
    (xg0 : PySem.W.nsIn K mainGlobals "NotPicked" = some (some (.ref C0)))
    (l0x : K.lookup C0 = some (excClassObj nm0 qn0 C0 NN0 bs0 (.ref PE_ :: veB) true sn0 sub0 ab0 col0 dd0 p0 q0 r0 s0 t0 "ValueError.__new__"))
    (xg1 : PySem.W.nsIn K mainGlobals "Stopped" = some (some (.ref C1)))
    (l1x : K.lookup C1 = some (excClassObj nm1 qn1 C1 NN1 bs1 (.ref PE_ :: veB) true sn1 sub1 ab1 col1 dd1 p1 q1 r1 s1 t1 "ValueError.__new__"))
    (xg2 : PySem.W.nsIn K mainGlobals "BadStep" = some (some (.ref C2)))
    (l2x : K.lookup C2 = some (excClassObj nm2 qn2 C2 NN2 bs2 (.ref PE_ :: veB) true sn2 sub2 ab2 col2 dd2 p2 q2 r2 s2 t2 "ValueError.__new__"))
    (xg3 : PySem.W.nsIn K mainGlobals "NoStep" = some (some (.ref C3)))
    (l3x : K.lookup C3 = some (excClassObj nm3 qn3 C3 NN3 bs3 (.ref PE_ :: veB) true sn3 sub3 ab3 col3 dd3 p3 q3 r3 s3 t3 "ValueError.__new__"))
    (xg4 : PySem.W.nsIn K mainGlobals "Wrong" = some (some (.ref C4)))
    (l4x : K.lookup C4 = some (excClassObj nm4 qn4 C4 NN4 bs4 (.ref PE_ :: veB) true sn4 sub4 ab4 col4 dd4 p4 q4 r4 s4 t4 "ValueError.__new__"))
    (xg5 : PySem.W.nsIn K mainGlobals "Stuck" = some (some (.ref C5)))
    (l5x : K.lookup C5 = some (excClassObj nm5 qn5 C5 NN5 bs5 (.ref PE_ :: veB) true sn5 sub5 ab5 col5 dd5 p5 q5 r5 s5 t5 "ValueError.__new__"))
    (ga4 : PySem.W.findIn K (.ref C4) "__getattribute__" = some (some (.builtin "BaseException.__getattribute__")))
    (gg4 : PySem.W.findIn K (.ref C4) "__getattr__" = some none)
    (hd4 : PySem.W.hasDictIn K C4 = true)
    (ha4 : PySem.W.findIn K (.ref C4) "__class__" = some (some (.builtin "object.__class__")))
    (mr4 : PySem.W.mroIn K C4 (.type "object") = some true)
    (kp4 : PySem.W.keepIn K (.ref C4) = true)
    (sa4 : PySem.W.findIn K (.ref C4) "__setattr__" = some (some (.builtin "object.__setattr__")))
    (in4 : PySem.W.findIn K (.ref C4) "__init__" = some (some (.ref fe4)))
    (fn4 : PySem.W.typeIn K (.ref fe4) = some (.type "function"))
    (lk4 : K.lookup fe4 = some ⟨oce4, ode4, .func (PySem.W.fnOf "__init__" "Wrong.__init__" (defArgs s_Wrong___init__) (defBody s_Wrong___init__) (defScope s_Wrong___init__) .none kVe4 dce4 pme4 ane4 cde4 cte4), sle4⟩)
    (cc4 : PySem.W.codeIn K cde4 "Wrong.__init__" = true)
    (kk4 : PySem.W.keepIn K (.ref fe4) = true)
    (no4 : PySem.W.findIn K (.ref C4) "place" = some none)
    (ga2 : PySem.W.findIn K (.ref C2) "__getattribute__" = some (some (.builtin "BaseException.__getattribute__")))
    (gg2 : PySem.W.findIn K (.ref C2) "__getattr__" = some none)
    (hd2 : PySem.W.hasDictIn K C2 = true)
    (ha2 : PySem.W.findIn K (.ref C2) "__class__" = some (some (.builtin "object.__class__")))
    (mr2 : PySem.W.mroIn K C2 (.type "object") = some true)
    (kp2 : PySem.W.keepIn K (.ref C2) = true)
    (sa2 : PySem.W.findIn K (.ref C2) "__setattr__" = some (some (.builtin "object.__setattr__")))
    (in2 : PySem.W.findIn K (.ref C2) "__init__" = some (some (.ref fe2)))
    (fn2 : PySem.W.typeIn K (.ref fe2) = some (.type "function"))
    (lk2 : K.lookup fe2 = some ⟨oce2, ode2, .func (PySem.W.fnOf "__init__" "BadStep.__init__" (defArgs s_BadStep___init__) (defBody s_BadStep___init__) (defScope s_BadStep___init__) .none kVe2 dce2 pme2 ane2 cde2 cte2), sle2⟩)
    (cc2 : PySem.W.codeIn K cde2 "BadStep.__init__" = true)
    (kk2 : PySem.W.keepIn K (.ref fe2) = true)
    (no2 : PySem.W.findIn K (.ref C2) "index" = some none)
    (ga3 : PySem.W.findIn K (.ref C3) "__getattribute__" = some (some (.builtin "BaseException.__getattribute__")))
    (gg3 : PySem.W.findIn K (.ref C3) "__getattr__" = some none)
    (hd3 : PySem.W.hasDictIn K C3 = true)
    (ha3 : PySem.W.findIn K (.ref C3) "__class__" = some (some (.builtin "object.__class__")))
    (mr3 : PySem.W.mroIn K C3 (.type "object") = some true)
    (kp3 : PySem.W.keepIn K (.ref C3) = true)
    (sa3 : PySem.W.findIn K (.ref C3) "__setattr__" = some (some (.builtin "object.__setattr__")))
    (in3 : PySem.W.findIn K (.ref C3) "__init__" = some (some (.ref fe3)))
    (fn3 : PySem.W.typeIn K (.ref fe3) = some (.type "function"))
    (lk3 : K.lookup fe3 = some ⟨oce3, ode3, .func (PySem.W.fnOf "__init__" "NoStep.__init__" (defArgs s_NoStep___init__) (defBody s_NoStep___init__) (defScope s_NoStep___init__) .none kVe3 dce3 pme3 ane3 cde3 cte3), sle3⟩)
    (cc3 : PySem.W.codeIn K cde3 "NoStep.__init__" = true)
    (kk3 : PySem.W.keepIn K (.ref fe3) = true)
    (no3 : PySem.W.findIn K (.ref C3) "index" = some none)
    (gP : PySem.W.nsIn K mainGlobals "PickError" = some (some (.ref PE_)))
    (cHn : PySem.W.specialIn K (.builtin "object.__class__") "__get__" = some (some (.builtin "getset_descriptor.__get__")))
    (cTk : PySem.W.takesIn K (.builtin "object.__class__") = some true)
    (pEx : PySem.W.subIn K (.ref PE_) (.type "BaseException") = some true)
    (pHd : PySem.W.hasDictIn K PE_ = true)
    (pTy : PySem.W.typeIn K (.ref PE_) = some (.type "type"))
    (nd : ∀ i, i < 6 → ∀ j, j < 6 → i ≠ j → ([C0, C1, C2, C3, C4, C5] : List Addr).getD i 0 ≠ ([C0, C1, C2, C3, C4, C5] : List Addr).getD j 0)
    (np : ∀ j, j < 6 → ([C0, C1, C2, C3, C4, C5] : List Addr).getD j 0 ≠ PE_)
    (gS : PySem.W.nsIn K mainGlobals "Script" = some (some (.ref C)))
    (aSinit : PySem.W.findIn K (.ref C) "__init__" = some (some (.ref fSinit)))
    (iSinit : PySem.W.isFn K (.ref fSinit) = true)
    (lkSinit : K.lookup fSinit = some ⟨ocSinit, odSinit, .func (PySem.W.fnOf "__init__" "Script.__init__" (defArgs s_Script___init__) (defBody s_Script___init__) (defScope s_Script___init__) .none kVSinit dcSinit pmSinit anSinit cdSinit ctSinit), slSinit⟩)
    (cSinit : PySem.W.codeIn K cdSinit "Script.__init__" = true)
    (kSinit : PySem.W.keepIn K (.ref fSinit) = true)
    (aSeq : PySem.W.findIn K (.ref C) "__eq__" = some (some (.ref fSeq)))
    (iSeq : PySem.W.isFn K (.ref fSeq) = true)
    (lkSeq : K.lookup fSeq = some ⟨ocSeq, odSeq, .func (PySem.W.fnOf "__eq__" "Script.__eq__" (defArgs s_Script___eq__) (defBody s_Script___eq__) (defScope s_Script___eq__) .none kVSeq dcSeq pmSeq anSeq cdSeq ctSeq), slSeq⟩)
    (cSeq : PySem.W.codeIn K cdSeq "Script.__eq__" = true)
    (kSeq : PySem.W.keepIn K (.ref fSeq) = true)
    (aSlen : PySem.W.findIn K (.ref C) "__len__" = some (some (.ref fSlen)))
    (iSlen : PySem.W.isFn K (.ref fSlen) = true)
    (lkSlen : K.lookup fSlen = some ⟨ocSlen, odSlen, .func (PySem.W.fnOf "__len__" "Script.__len__" (defArgs s_Script___len__) (defBody s_Script___len__) (defScope s_Script___len__) .none kVSlen dcSlen pmSlen anSlen cdSlen ctSlen), slSlen⟩)
    (cSlen : PySem.W.codeIn K cdSlen "Script.__len__" = true)
    (kSlen : PySem.W.keepIn K (.ref fSlen) = true)
    (aSadd : PySem.W.findIn K (.ref C) "__add__" = some (some (.ref fSadd)))
    (iSadd : PySem.W.isFn K (.ref fSadd) = true)
    (lkSadd : K.lookup fSadd = some ⟨ocSadd, odSadd, .func (PySem.W.fnOf "__add__" "Script.__add__" (defArgs s_Script___add__) (defBody s_Script___add__) (defScope s_Script___add__) .none kVSadd dcSadd pmSadd anSadd cdSadd ctSadd), slSadd⟩)
    (cSadd : PySem.W.codeIn K cdSadd "Script.__add__" = true)
    (kSadd : PySem.W.keepIn K (.ref fSadd) = true)
    (aScheckindex : PySem.W.findIn K (.ref C) "check_index" = some (some (.ref fScheckindex)))
    (iScheckindex : PySem.W.isFn K (.ref fScheckindex) = true)
    (lkScheckindex : K.lookup fScheckindex = some ⟨ocScheckindex, odScheckindex, .func (PySem.W.fnOf "check_index" "Script.check_index" (defArgs s_Script_check_index) (defBody s_Script_check_index) (defScope s_Script_check_index) .none kVScheckindex dcScheckindex pmScheckindex anScheckindex cdScheckindex ctScheckindex), slScheckindex⟩)
    (cScheckindex : PySem.W.codeIn K cdScheckindex "Script.check_index" = true)
    (kScheckindex : PySem.W.keepIn K (.ref fScheckindex) = true)
    (aSsteps : PySem.W.findIn K (.ref C) "steps" = some (some (.ref fSsteps)))
    (iSsteps : PySem.W.isFn K (.ref fSsteps) = true)
    (lkSsteps : K.lookup fSsteps = some ⟨ocSsteps, odSsteps, .func (PySem.W.fnOf "steps" "Script.steps" (defArgs s_Script_steps) (defBody s_Script_steps) (defScope s_Script_steps) .none kVSsteps dcSsteps pmSsteps anSsteps cdSsteps ctSsteps), slSsteps⟩)
    (cSsteps : PySem.W.codeIn K cdSsteps "Script.steps" = true)
    (kSsteps : PySem.W.keepIn K (.ref fSsteps) = true)
    (aSwithstep : PySem.W.findIn K (.ref C) "with_step" = some (some (.ref fSwithstep)))
    (iSwithstep : PySem.W.isFn K (.ref fSwithstep) = true)
    (lkSwithstep : K.lookup fSwithstep = some ⟨ocSwithstep, odSwithstep, .func (PySem.W.fnOf "with_step" "Script.with_step" (defArgs s_Script_with_step) (defBody s_Script_with_step) (defScope s_Script_with_step) .none kVSwithstep dcSwithstep pmSwithstep anSwithstep cdSwithstep ctSwithstep), slSwithstep⟩)
    (cSwithstep : PySem.W.codeIn K cdSwithstep "Script.with_step" = true)
    (kSwithstep : PySem.W.keepIn K (.ref fSwithstep) = true)
    (aSwithout : PySem.W.findIn K (.ref C) "without" = some (some (.ref fSwithout)))
    (iSwithout : PySem.W.isFn K (.ref fSwithout) = true)
    (lkSwithout : K.lookup fSwithout = some ⟨ocSwithout, odSwithout, .func (PySem.W.fnOf "without" "Script.without" (defArgs s_Script_without) (defBody s_Script_without) (defScope s_Script_without) .none kVSwithout dcSwithout pmSwithout anSwithout cdSwithout ctSwithout), slSwithout⟩)
    (cSwithout : PySem.W.codeIn K cdSwithout "Script.without" = true)
    (kSwithout : PySem.W.keepIn K (.ref fSwithout) = true)
    (aSswapped : PySem.W.findIn K (.ref C) "swapped" = some (some (.ref fSswapped)))
    (iSswapped : PySem.W.isFn K (.ref fSswapped) = true)
    (lkSswapped : K.lookup fSswapped = some ⟨ocSswapped, odSswapped, .func (PySem.W.fnOf "swapped" "Script.swapped" (defArgs s_Script_swapped) (defBody s_Script_swapped) (defScope s_Script_swapped) .none kVSswapped dcSswapped pmSswapped anSswapped cdSswapped ctSswapped), slSswapped⟩)
    (cSswapped : PySem.W.codeIn K cdSswapped "Script.swapped" = true)
    (kSswapped : PySem.W.keepIn K (.ref fSswapped) = true)
    (aSpicksinorder : PySem.W.findIn K (.ref C) "picks_in_order" = some (some (.ref fSpicksinorder)))
    (iSpicksinorder : PySem.W.isFn K (.ref fSpicksinorder) = true)
    (lkSpicksinorder : K.lookup fSpicksinorder = some ⟨ocSpicksinorder, odSpicksinorder, .func (PySem.W.fnOf "picks_in_order" "Script.picks_in_order" (defArgs s_Script_picks_in_order) (defBody s_Script_picks_in_order) (defScope s_Script_picks_in_order) .none kVSpicksinorder dcSpicksinorder pmSpicksinorder anSpicksinorder cdSpicksinorder ctSpicksinorder), slSpicksinorder⟩)
    (cSpicksinorder : PySem.W.codeIn K cdSpicksinorder "Script.picks_in_order" = true)
    (kSpicksinorder : PySem.W.keepIn K (.ref fSpicksinorder) = true)
    (aSnames : PySem.W.findIn K (.ref C) "names" = some (some (.ref fSnames)))
    (iSnames : PySem.W.isFn K (.ref fSnames) = true)
    (lkSnames : K.lookup fSnames = some ⟨ocSnames, odSnames, .func (PySem.W.fnOf "names" "Script.names" (defArgs s_Script_names) (defBody s_Script_names) (defScope s_Script_names) .none kVSnames dcSnames pmSnames anSnames cdSnames ctSnames), slSnames⟩)
    (cSnames : PySem.W.codeIn K cdSnames "Script.names" = true)
    (kSnames : PySem.W.keepIn K (.ref fSnames) = true)
    (aSpatterns : PySem.W.findIn K (.ref C) "patterns" = some (some (.ref fSpatterns)))
    (iSpatterns : PySem.W.isFn K (.ref fSpatterns) = true)
    (lkSpatterns : K.lookup fSpatterns = some ⟨ocSpatterns, odSpatterns, .func (PySem.W.fnOf "patterns" "Script.patterns" (defArgs s_Script_patterns) (defBody s_Script_patterns) (defScope s_Script_patterns) .none kVSpatterns dcSpatterns pmSpatterns anSpatterns cdSpatterns ctSpatterns), slSpatterns⟩)
    (cSpatterns : PySem.W.codeIn K cdSpatterns "Script.patterns" = true)
    (kSpatterns : PySem.W.keepIn K (.ref fSpatterns) = true)
    (aSplaces : PySem.W.findIn K (.ref C) "places" = some (some (.ref fSplaces)))
    (iSplaces : PySem.W.isFn K (.ref fSplaces) = true)
    (lkSplaces : K.lookup fSplaces = some ⟨ocSplaces, odSplaces, .func (PySem.W.fnOf "places" "Script.places" (defArgs s_Script_places) (defBody s_Script_places) (defScope s_Script_places) .none kVSplaces dcSplaces pmSplaces anSplaces cdSplaces ctSplaces), slSplaces⟩)
    (cSplaces : PySem.W.codeIn K cdSplaces "Script.places" = true)
    (kSplaces : PySem.W.keepIn K (.ref fSplaces) = true)
    (pgS : PySem.W.plainGet K C Str.empty = true)
    (hdS : PySem.W.hasDictIn K C = true)
    (poS : PySem.W.plainOver K C = true)
    (saS : PySem.W.findIn K (.ref C) "__setattr__" = some (some (.builtin "object.__setattr__")))
    (mkS : PySem.W.makesIn K C = true)
    (kcS : PySem.W.keepIn K (.ref C) = true)
    (nS0 : PySem.W.findIn K (.ref C) "all_steps" = some none)
    (haS : PySem.W.findIn K (.ref C) "__class__" = some (some (.builtin "object.__class__")))
    (mrS : PySem.W.mroIn K C (.type "object") = some true)
    (sfC : PySem.W.selfFirst K C = true) :
    ∃ (fd : FuncData) (cts : List (Addr × Addr)), (∀ z ∈ cts, h.get? z.2 = some { cls := .none, data := .fields #[] }) ∧ (∀ z ∈ cts, K.lookup z.2 = none) ∧ (∀ z ∈ cts, PySem.W.codeHdIn K z.1 z.2 = true) ∧ (∀ (s : Shared) (v : Value), BindsTo s fd ⟨[v], []⟩ [("_law_script", v)]) ∧ ∀ base : Heap, K.In base → base.Ns mainGlobals mg → SysAt base → (∀ z ∈ cts, LamX.TabB base mg z.1 z.2) → FnG P w K mg base 13 fa fd ["_law_script"] (spLaw K (cts.map Prod.snd)) := by
  have e := hfa.symm.trans (PySem.W.mg_of X G a49)
  cases e
  have D_is_integer : Df K mg "is_integer" s_is_integer := df_mk X G a0 l0 c0 k0
  have D_is_index : Df K mg "is_index" s_is_index := df_mk X G a1 l1 c1 k1
  have D_is_name : Df K mg "is_name" s_is_name := df_mk X G a2 l2 c2 k2
  have D_is_relation : Df K mg "is_relation" s_is_relation := df_mk X G a3 l3 c3 k3
  have D_is_blank : Df K mg "is_blank" s_is_blank := df_mk X G a4 l4 c4 k4
  have D_is_pattern : Df K mg "is_pattern" s_is_pattern := df_mk X G a5 l5 c5 k5
  have D_is_bare_pick : Df K mg "is_bare_pick" s_is_bare_pick := df_mk X G a6 l6 c6 k6
  have D_is_pick : Df K mg "is_pick" s_is_pick := df_mk X G a7 l7 c7 k7
  have D_home_of : Df K mg "home_of" s_home_of := df_mk X G a8 l8 c8 k8
  have D_bare : Df K mg "bare" s_bare := df_mk X G a9 l9 c9 k9
  have D_is_single : Df K mg "is_single" s_is_single := df_mk X G a10 l10 c10 k10
  have D_name_of : Df K mg "name_of" s_name_of := df_mk X G a11 l11 c11 k11
  have D_place_of : Df K mg "place_of" s_place_of := df_mk X G a12 l12 c12 k12
  have D_pattern_of : Df K mg "pattern_of" s_pattern_of := df_mk X G a13 l13 c13 k13
  have D_picks_in : Df K mg "picks_in" s_picks_in := df_mk X G a14 l14 c14 k14
  have D_is_pick_for : Df K mg "is_pick_for" s_is_pick_for := df_mk X G a15 l15 c15 k15
  have D_is_step : Df K mg "is_step" s_is_step := df_mk X G a16 l16 c16 k16
  have D_picks_of : Df K mg "picks_of" s_picks_of := df_mk X G a17 l17 c17 k17
  have D_check_closes : Df K mg "check_closes" s_check_closes := df_mk X G a18 l18 c18 k18
  have D_l_bag : Df K mg "_law_bag" s_l_bag := df_mk X G a19 l19 c19 k19
  have D_l_take : Df K mg "_law_take" s_l_take := df_mk X G a20 l20 c20 k20
  have D_l_alike : Df K mg "_law_alike" s_l_alike := df_mk X G a21 l21 c21 k21
  have D_l_some : Df K mg "_law_some" s_l_some := df_mk X G a22 l22 c22 k22
  have D_l_names : Df K mg "_law_names" s_l_names := df_mk X G a23 l23 c23 k23
  have D_l_world : Df K mg "_law_world" s_l_world := df_mk X G a24 l24 c24 k24
  have D_l_atom : Df K mg "_law_atom" s_l_atom := df_mk X G a25 l25 c25 k25
  have D_l_pattern : Df K mg "_law_pattern" s_l_pattern := df_mk X G a26 l26 c26 k26
  have D_l_pick : Df K mg "_law_pick" s_l_pick := df_mk X G a27 l27 c27 k27
  have D_l_step : Df K mg "_law_step" s_l_step := df_mk X G a28 l28 c28 k28
  have D_l_bare : Df K mg "_law_bare" s_l_bare := df_mk X G a29 l29 c29 k29
  have D_l_picks : Df K mg "_law_picks" s_l_picks := df_mk X G a30 l30 c30 k30
  have D_l_is_name : Df K mg "_law_is_name" s_l_is_name := df_mk X G a31 l31 c31 k31
  have D_l_is_atomic : Df K mg "_law_is_atomic" s_l_is_atomic := df_mk X G a32 l32 c32 k32
  have D_l_is_count : Df K mg "_law_is_count" s_l_is_count := df_mk X G a33 l33 c33 k33
  have D_l_is_bare : Df K mg "_law_is_bare" s_l_is_bare := df_mk X G a34 l34 c34 k34
  have D_l_is_pick : Df K mg "_law_is_pick" s_l_is_pick := df_mk X G a35 l35 c35 k35
  have D_l_is_step : Df K mg "_law_is_step" s_l_is_step := df_mk X G a36 l36 c36 k36
  have D_l_odd : Df K mg "_law_odd" s_l_odd := df_mk X G a37 l37 c37 k37
  have D_l_bent : Df K mg "_law_bent" s_l_bent := df_mk X G a38 l38 c38 k38
  have D_l_step_any : Df K mg "_law_step_any" s_l_step_any := df_mk X G a39 l39 c39 k39
  have D_l_error : Df K mg "_law_error" s_l_error := df_mk X G a40 l40 c40 k40
  have D_l_heard : Df K mg "_law_heard" s_l_heard := df_mk X G a41 l41 c41 k41
  have D_l_drawn : Df K mg "_law_drawn" s_l_drawn := df_mk X G a42 l42 c42 k42
  have D_l_made : Df K mg "_law_made" s_l_made := df_mk X G a43 l43 c43 k43
  have D_l_asked_of : Df K mg "_law_asked_of" s_l_asked_of := df_mk X G a44 l44 c44 k44
  have D_l_tells : Df K mg "_law_tells" s_l_tells := df_mk X G a45 l45 c45 k45
  have F_l_both_right := fun_mk (st := s_l_both_right) l46 c46 k46
  have D_l_index : Df K mg "_law_index" s_l_index := df_mk X G a47 l47 c47 k47
  have D_l_is_index : Df K mg "_law_is_index" s_l_is_index := df_mk X G a48 l48 c48 k48
  have F_law := fun_mk (st := s_law) l49 c49 k49
  refine ⟨PySem.W.fnOf "law" "law" (defArgs s_law) (defBody s_law) (defScope s_law) .none kV49 dc49 pm49 an49 (.ref ctl49) ct49, [(ctl49, tb49), (ctl46, tb46)], ?_, ?_, ?_, fun s v => .of_eq rfl, fun base _ _ hsys TBs => ?_⟩
  · intro z hz
    simp only [List.mem_cons, List.not_mem_nil, or_false] at hz
    rcases hz with rfl | rfl
    · exact own "law" fa (.head _) (hfa) ctl49 tb49 _ _ _ _ _ _ l49 rfl rfl hct49 hvt49
    · exact own "_law_both_right" f46 (.tail _ (.head _)) (PySem.W.mg_of X G a46) ctl46 tb46 _ _ _ _ _ _ l46 rfl rfl hct46 hvt46
  · intro z hz
    simp only [List.mem_cons, List.not_mem_nil, or_false] at hz
    rcases hz with rfl | rfl
    · exact htn49
    · exact htn46
  · intro z hz
    simp only [List.mem_cons, List.not_mem_nil, or_false] at hz
    rcases hz with rfl | rfl
    · exact hch49
    · exact hch46
  have TB_law : LamX.TabB base mg ctl49 tb49 := TBs (ctl49, tb49) (.head _)
  have TB_l_both_right : LamX.TabB base mg ctl46 tb46 := TBs (ctl46, tb46) (.tail _ (.head _))
  have T : Txt0 mg := ⟨PySem.W.mg_none_of X G z_abs, PySem.W.mg_none_of X G z_int, PySem.W.mg_none_of X G z_len, PySem.W.mg_none_of X G z_tuple, PySem.W.mg_none_of X G z_list, PySem.W.mg_none_of X G z_all, PySem.W.mg_none_of X G z_any, PySem.W.mg_none_of X G z_zip, PySem.W.mg_none_of X G z_range, PySem.W.mg_none_of X G z_repr, PySem.W.mg_none_of X G z_dict⟩
  have TI : TxtI K mg rel := ⟨PySem.W.mg_none_of X G z_isinstance, PySem.W.mg_none_of X G z_str, PySem.W.mg_none_of X G z_bool, T.tuple, ⟨_, PySem.W.mg_of X G gLong⟩, PySem.W.mg_of X G gRel, fun H => .inr ⟨_, _, _, lRel, rfl, rfl, by show 3 ≤ sizeLine; decide, .cons ⟨_, rfl⟩ (.cons ⟨_, rfl⟩ (.cons ⟨_, rfl⟩ .nil))⟩⟩
  have TK : TxtK K mg kn na os := ⟨PySem.W.mg_of X G gkn, PySem.W.mg_of X G gna, PySem.W.mg_of X G gos, fun H => .inr ⟨_, _, _, lkn, rfl, rfl, by show 7 ≤ sizeLine; decide, .cons ⟨_, rfl⟩ (.cons ⟨_, rfl⟩ (.cons ⟨_, rfl⟩ (.cons ⟨_, rfl⟩ (.cons ⟨_, rfl⟩ (.cons ⟨_, rfl⟩ (.cons ⟨_, rfl⟩ (.nil)))))))⟩, fun H => .inr ⟨_, _, _, lna, rfl, rfl, by show 3 ≤ sizeLine; decide, .cons ⟨_, rfl⟩ (.cons ⟨_, rfl⟩ (.cons ⟨_, rfl⟩ (.nil)))⟩, fun H => .inr ⟨_, _, _, los, rfl, rfl, by show 2 ≤ sizeLine; decide, .cons ⟨_, rfl⟩ (.cons ⟨_, rfl⟩ (.nil))⟩⟩
  let cl : Nat → Addr := fun i => ([C0, C1, C2, C3, C4, C5] : List Addr).getD i 0
  have ok0 := clsOk_of l0x
  have ok1 := clsOk_of l1x
  have ok2 := clsOk_of l2x
  have ok3 := clsOk_of l3x
  have ok4 := clsOk_of l4x
  have ok5 := clsOk_of l5x
  have oks : ∀ i, i < 6 → ClsOk K (cl i) PE_ := fun k hk => match k, hk with | 0, _ => ok0 | 1, _ => ok1 | 2, _ => ok2 | 3, _ => ok3 | 4, _ => ok4 | 5, _ => ok5 | n + 6, h => absurd h (by omega)
  have OX4 : OexC K C4 := ⟨⟨_, _, _, _, _, _, _, _, _, _, _, _, _, _, _, l4x, rfl⟩, sa4, sub_has ok4 (by decide +kernel), ok4.ty, kp4⟩
  have FI4 := fun_mk (st := s_Wrong___init__) lk4 cc4 kk4
  have BI4 := FI4.binds (ps := ["self", "place"]) fun _ _ _ _ _ _ us hl => match us, hl with | [_, _], _ => rfl
  have c_Wrong : ErrF P w K mg base "Wrong" "place" C4 := ⟨PySem.W.mg_of X G xg4, OX4, _, _, in4, fn4, ok_i_Wrong OX4 no4 FI4, BI4⟩
  have XC4 : ExcC K C4 := ⟨ga4, gg4, sub_has ok4 (by decide +kernel), hd4, ha4, cHn, cTk, mr4⟩
  have EM4 : PySem.W.exmOne K (.ref C4) (.ref PE_) = some true := PySem.W.exm_ref pEx pHd pTy (sub_pe ok4)
  have OX2 : OexC K C2 := ⟨⟨_, _, _, _, _, _, _, _, _, _, _, _, _, _, _, l2x, rfl⟩, sa2, sub_has ok2 (by decide +kernel), ok2.ty, kp2⟩
  have FI2 := fun_mk (st := s_BadStep___init__) lk2 cc2 kk2
  have BI2 := FI2.binds (ps := ["self", "index"]) fun _ _ _ _ _ _ us hl => match us, hl with | [_, _], _ => rfl
  have c_BadStep : ErrF P w K mg base "BadStep" "index" C2 := ⟨PySem.W.mg_of X G xg2, OX2, _, _, in2, fn2, ok_i_BadStep OX2 no2 FI2, BI2⟩
  have XC2 : ExcC K C2 := ⟨ga2, gg2, sub_has ok2 (by decide +kernel), hd2, ha2, cHn, cTk, mr2⟩
  have EM2 : PySem.W.exmOne K (.ref C2) (.ref PE_) = some true := PySem.W.exm_ref pEx pHd pTy (sub_pe ok2)
  have OX3 : OexC K C3 := ⟨⟨_, _, _, _, _, _, _, _, _, _, _, _, _, _, _, l3x, rfl⟩, sa3, sub_has ok3 (by decide +kernel), ok3.ty, kp3⟩
  have FI3 := fun_mk (st := s_NoStep___init__) lk3 cc3 kk3
  have BI3 := FI3.binds (ps := ["self", "index"]) fun _ _ _ _ _ _ us hl => match us, hl with | [_, _], _ => rfl
  have c_NoStep : ErrF P w K mg base "NoStep" "index" C3 := ⟨PySem.W.mg_of X G xg3, OX3, _, _, in3, fn3, ok_i_NoStep OX3 no3 FI3, BI3⟩
  have XC3 : ExcC K C3 := ⟨ga3, gg3, sub_has ok3 (by decide +kernel), hd3, ha3, cHn, cTk, mr3⟩
  have EM3 : PySem.W.exmOne K (.ref C3) (.ref PE_) = some true := PySem.W.exm_ref pEx pHd pTy (sub_pe ok3)
  have ES : Er33 P w K mg base cl PE_ := ⟨PySem.W.mg_of X G xg0, PySem.W.mg_of X G xg1, PySem.W.mg_of X G xg2, PySem.W.mg_of X G xg3, PySem.W.mg_of X G xg4, PySem.W.mg_of X G xg5, c_Wrong, c_BadStep, c_NoStep, PySem.W.mg_of X G gP, fun k hk => by rcases hk with rfl | rfl | rfl <;> assumption, no4, no2, no3, fun k j hk hj => kit_of oks nd np k j (by omega) hj, fun k hk => by rcases hk with rfl | rfl | rfl <;> assumption⟩
  have TZ : TxtZ mg := ⟨PySem.W.mg_none_of X G z_sorted, PySem.W.mg_none_of X G z_set, PySem.W.mg_none_of X G z_enumerate⟩
  have CL_S : Cls K C := ⟨pgS, hdS, poS, saS⟩
  have F_Sinit := fun_mk (st := s_Script___init__) lkSinit cSinit kSinit
  have bSinit := F_Sinit.binds (ps := ["self", "steps"]) fun _ _ _ _ _ _ us hl => match us, hl with | [_, _], _ => rfl
  have F_Seq := fun_mk (st := s_Script___eq__) lkSeq cSeq kSeq
  have bSeq := F_Seq.binds (ps := ["self", "other"]) fun _ _ _ _ _ _ us hl => match us, hl with | [_, _], _ => rfl
  have F_Slen := fun_mk (st := s_Script___len__) lkSlen cSlen kSlen
  have bSlen := F_Slen.binds (ps := ["self"]) fun _ _ _ _ _ _ us hl => match us, hl with | [_], _ => rfl
  have F_Sadd := fun_mk (st := s_Script___add__) lkSadd cSadd kSadd
  have bSadd := F_Sadd.binds (ps := ["self", "other"]) fun _ _ _ _ _ _ us hl => match us, hl with | [_, _], _ => rfl
  have F_Scheckindex := fun_mk (st := s_Script_check_index) lkScheckindex cScheckindex kScheckindex
  have bScheckindex := F_Scheckindex.binds (ps := ["self", "index"]) fun _ _ _ _ _ _ us hl => match us, hl with | [_, _], _ => rfl
  have F_Ssteps := fun_mk (st := s_Script_steps) lkSsteps cSsteps kSsteps
  have bSsteps := F_Ssteps.binds (ps := ["self"]) fun _ _ _ _ _ _ us hl => match us, hl with | [_], _ => rfl
  have F_Swithstep := fun_mk (st := s_Script_with_step) lkSwithstep cSwithstep kSwithstep
  have bSwithstep := F_Swithstep.binds (ps := ["self", "index", "step"]) fun _ _ _ _ _ _ us hl => match us, hl with | [_, _, _], _ => rfl
  have F_Swithout := fun_mk (st := s_Script_without) lkSwithout cSwithout kSwithout
  have bSwithout := F_Swithout.binds (ps := ["self", "index"]) fun _ _ _ _ _ _ us hl => match us, hl with | [_, _], _ => rfl
  have F_Sswapped := fun_mk (st := s_Script_swapped) lkSswapped cSswapped kSswapped
  have bSswapped := F_Sswapped.binds (ps := ["self", "index"]) fun _ _ _ _ _ _ us hl => match us, hl with | [_, _], _ => rfl
  have F_Spicksinorder := fun_mk (st := s_Script_picks_in_order) lkSpicksinorder cSpicksinorder kSpicksinorder
  have bSpicksinorder := F_Spicksinorder.binds (ps := ["self"]) fun _ _ _ _ _ _ us hl => match us, hl with | [_], _ => rfl
  have F_Snames := fun_mk (st := s_Script_names) lkSnames cSnames kSnames
  have bSnames := F_Snames.binds (ps := ["self"]) fun _ _ _ _ _ _ us hl => match us, hl with | [_], _ => rfl
  have F_Spatterns := fun_mk (st := s_Script_patterns) lkSpatterns cSpatterns kSpatterns
  have bSpatterns := F_Spatterns.binds (ps := ["self"]) fun _ _ _ _ _ _ us hl => match us, hl with | [_], _ => rfl
  have F_Splaces := fun_mk (st := s_Script_places) lkSplaces cSplaces kSplaces
  have bSplaces := F_Splaces.binds (ps := ["self"]) fun _ _ _ _ _ _ us hl => match us, hl with | [_], _ => rfl
  have c_l_take : CalG P w K mg base 1 "_law_take" spTake := take_ext (ok_takeL T D_l_take)
  have c_l_bag := bag_ext (ok_bagL (P := P) (w := w) (base := base) T D_l_bag)
  have c_l_some := ok_some T D_l_some c_l_take
  have c_l_names := ok_names T D_l_names c_l_take
  have c_l_atom := ok_atom T D_l_atom c_l_take c_l_some
  have c_l_pattern := ok_pattern T D_l_pattern c_l_take c_l_atom
  have c_is_name := ok_is_name (P := P) (w := w) (base := base) T TI D_is_name
  have c_is_relation := ok_is_relation (P := P) (w := w) (base := base) T TI D_is_relation
  have c_is_blank := ok_is_blank (P := P) (w := w) (base := base) T TI D_is_blank
  have c_is_pattern := ok_is_pattern T TI D_is_pattern c_is_relation c_is_name c_is_blank
  have c_l_world := ok_world T D_l_world c_l_take c_l_names
  have c_is_integer := ok_is_integer (P := P) (w := w) (base := base) T TI D_is_integer
  have c_is_bare_pick := ok_is_bare_pick T TI D_is_bare_pick c_is_name c_is_integer c_is_pattern
  have c_is_pick := ok_is_pick T TI D_is_pick c_is_bare_pick
  have c_home_of := ok_home_of (P := P) (w := w) (base := base) T D_home_of
  have c_bare := ok_bare (P := P) (w := w) (base := base) T D_bare
  have c_is_single := ok_is_single T D_is_single c_bare
  have c_picks_in := ok_picks_in (P := P) (w := w) (base := base) D_picks_in
  have c_is_pick_for := ok_is_pick_for T TK D_is_pick_for c_is_pick c_home_of c_is_single
  have c_is_step := ok_is_step T TI TK D_is_step c_picks_in c_is_pick_for c_is_name
  have c_l_is_name := ok_l_is_name (P := P) (w := w) (base := base) T TI D_l_is_name
  have c_l_is_atomic := ok_l_is_atomic T TI D_l_is_atomic c_l_is_name
  have c_l_is_count := ok_l_is_count (P := P) (w := w) (base := base) T TI D_l_is_count
  have c_l_is_bare := ok_l_is_bare T TI D_l_is_bare c_l_is_name c_l_is_count c_l_is_atomic
  have c_l_is_pick := ok_l_is_pick T TI D_l_is_pick c_l_is_bare
  have c_l_is_step := ok_l_is_step T TI D_l_is_step c_l_is_pick c_l_is_name
  have c_l_pick := ok_pk30 T D_l_pick c_l_take c_l_some c_l_pattern
  have c_l_step := ok_st30 T D_l_step c_l_take c_l_some c_l_pick
  have c_l_step_any := ok_sa30 T D_l_step_any c_l_take c_l_pick c_l_step
  have c_name_of := ok_name_of T D_name_of c_bare
  have c_place_of := ok_place_of T D_place_of c_bare
  have c_pattern_of := ok_pattern_of T D_pattern_of c_bare
  have c_l_picks := ok_l_picks (P := P) (w := w) (base := base) T D_l_picks
  have c_picks_of := ok_picks_of T D_picks_of c_picks_in
  have c_l_bare := ok_l_bare (P := P) (w := w) (base := base) T D_l_bare
  have c_l_odd := ok_odd T D_l_odd c_l_take
  have c_l_bent := ok_bent T TI D_l_bent c_l_take c_l_odd 7
  have c_check_closes := ok_check_closes T (PySem.W.mg_none_of X G z_enumerate) c_BadStep D_check_closes
  have c_is_index := ok_is_index D_is_index c_is_integer
  have c_l_error := ok_error (P := P) (w := w) (base := base) ES (PySem.W.mg_none_of X G z_isinstance) D_l_error
  have c_l_drawn := ok_drawn T D_l_drawn c_l_take c_l_step c_l_pick
  have c_l_is_index := ok_l_is_index D_l_is_index c_l_is_count
  have c_l_made := ok_made (P := P) (w := w) (base := base) T D_l_made
  have c_l_index := ok_index T D_l_index c_l_take
  have c_l_tells := ok_tells T TZ D_l_tells c_l_picks c_l_bare
  have c_l_alike := ok_alike (P := P) (w := w) (base := base) T D_l_alike
  have S : ClsP K C := ⟨CL_S, nS0⟩
  have SI : ClsI K C := ⟨haS, cHn, cTk, mrS⟩
  have MK : MakN P w K mg base 7 "Script" C (spSI K C (cl 4) (cl 2)) := ⟨PySem.W.mg_of X G gS, _, _, _, ok_sinit S T TI c_Wrong F_Sinit c_is_step c_check_closes, ⟨mkS, aSinit, iSinit, kcS⟩, bSinit⟩
  have M_len : MetG P w K mg base 1 C "__len__" (spLen C) := ⟨CL_S, _, _, _, ok_len32 S T F_Slen, ⟨aSlen, iSlen, kSlen⟩, bSlen⟩
  have M_steps : MetG P w K mg base 1 C "steps" (spStN C) := ⟨CL_S, _, _, _, ok_stepsN S T F_Ssteps, ⟨aSsteps, iSsteps, kSsteps⟩, bSsteps⟩
  have M_picks_in_order : MetG P w K mg base 3 C "picks_in_order" (spPio C) := ⟨CL_S, _, _, _, ok_pio S T c_picks_of F_Spicksinorder, ⟨aSpicksinorder, iSpicksinorder, kSpicksinorder⟩, bSpicksinorder⟩
  have M_names : MetG P w K mg base 4 C "names" (spNm C) := ⟨CL_S, _, _, _, ok_names32 S T TZ c_name_of M_picks_in_order F_Snames, ⟨aSnames, iSnames, kSnames⟩, bSnames⟩
  have M_patterns : MetG P w K mg base 4 C "patterns" (spPa C) := ⟨CL_S, _, _, _, ok_patterns32 S T TZ c_pattern_of M_picks_in_order F_Spatterns, ⟨aSpatterns, iSpatterns, kSpatterns⟩, bSpatterns⟩
  have M_places : MetG P w K mg base 3 C "places" (spPl C) := ⟨CL_S, _, _, _, ok_places32 S T TZ c_picks_of c_place_of F_Splaces, ⟨aSplaces, iSplaces, kSplaces⟩, bSplaces⟩
  have M_check_index : MetN P w K mg base 3 C "check_index" (spCI C (cl 3)) := ⟨CL_S, _, _, _, ok_ci S T c_NoStep c_is_index F_Scheckindex, ⟨aScheckindex, iScheckindex, kScheckindex⟩, bScheckindex⟩
  have M_without : MetN P w K mg base 9 C "without" (spWo C (cl 3) (cl 2)) := ⟨CL_S, _, _, _, ok_without S T M_check_index MK F_Swithout, ⟨aSwithout, iSwithout, kSwithout⟩, bSwithout⟩
  have M_with_step : MetN P w K mg base 9 C "with_step" (spWs C (cl 3) (cl 4) (cl 2)) := ⟨CL_S, _, _, _, ok_with_step S T c_Wrong c_is_step M_check_index MK F_Swithstep, ⟨aSwithstep, iSwithstep, kSwithstep⟩, bSwithstep⟩
  have M_swapped : MetN P w K mg base 9 C "swapped" (spSw C (cl 3) (cl 2)) := ⟨CL_S, _, _, _, ok_swapped S T M_check_index MK F_Sswapped, ⟨aSswapped, iSswapped, kSswapped⟩, bSswapped⟩
  have M_add : MetN P w K mg base 9 C "__add__" (spAd C (cl 2)) := ⟨CL_S, _, _, _, ok_add S SI TI (PySem.W.mg_of X G gS) MK F_Sadd, ⟨aSadd, iSadd, kSadd⟩, bSadd⟩
  have c_l_asked_of := ok_asked T D_l_asked_of M_steps M_names M_patterns M_places M_len
  have FH := fun_mk (st := s_l_heard) l41 c41 k41
  have BH := FH.binds (ps := ["_law_act"]) fun _ _ _ _ _ _ us hl => match us, hl with | [_], _ => rfl
  have c_l_both_right := ok_both T ne49_46 rfl TB_l_both_right (PySem.W.mg_of X G a46) F_l_both_right (PySem.W.mg_of X G a41) k41 l41 c41 BH ES c_l_error sfC M_add c_l_alike c_l_asked_of c_l_tells c_l_made
  exact ok_law T TI hsys ne49_46 rfl TB_law F_law (PySem.W.mg_of X G a41) k41 l41 c41 BH ES c_l_error (PySem.W.mg_of X G gS) S MK M_with_step M_without M_swapped c_l_bag c_l_take c_l_world c_l_drawn c_l_index c_l_step_any c_l_bent c_l_is_index c_l_is_step c_l_made c_l_alike c_l_asked_of c_l_tells c_l_both_right
theorem walk {l : PySem.W.OpenLaw} {q : Program} {loose : List Str} {XP : (Str → Option Value) → Heap → Prop} {YP : World → Heap → Prop} {d : DefRec} {K : Params → PySem.W.Frag} (most : l.most = some 63) (nodf : d.params.defaults = [])
    (inn : ∀ (w : World) (h : Heap), YP w h → (K w.params).In h)
    (rec_ : ((["law", "_law_both_right"] : List Str).all fun y => (recsOf q).any fun e => e.name == y) = true)
    (F : ∀ (w : World) (mg : Str → Option Value) (fa : Addr) (h : Heap), (K w.params).In h → h.Ns mainGlobals mg → mg d.name = some (.ref fa) → (∀ y f, y ∈ (["law", "_law_both_right"] : List Str) → mg y = some (.ref f) → LamX.OwnTab (K w.params) f h) →
      ∃ (fd : FuncData) (cts : List (Addr × Addr)), (∀ z ∈ cts, h.get? z.2 = some { cls := .none, data := .fields #[] }) ∧ (∀ z ∈ cts, (K w.params).lookup z.2 = none) ∧ (∀ z ∈ cts, PySem.W.codeHdIn (K w.params) z.1 z.2 = true) ∧ (∀ (s : Shared) (u : Value), BindsTo s fd ⟨[u], []⟩ [("_law_script", u)]) ∧ ∀ base : Heap, (K w.params).In base → base.Ns mainGlobals mg → SysAt base → (∀ z ∈ cts, LamX.TabB base mg z.1 z.2) → FnG l.prog w (K w.params) mg base 13 fa fd ["_law_script"] (spLaw (K w.params) (cts.map Prod.snd))) (imps : importsNone q = true) :
    PySem.W.WalkO q loose XP YP l.row.toRowW d [] (fun f vs => PySem.call f vs) :=
  walk_M (n := 63) (k := 13) (x := "_law_script") (sp := fun w ts => spLaw (K w.params) ts) most (by decide) nodf ⟨rfl, by decide, by decide⟩ imps rec_ inn F (fun _ _ _ a ns hl ht hS => ⟨a, ns, rfl, hS, hl, ht, fun _ => rfl⟩)
end Own
open PySem PySem.W PyProof.Rows in
set_option maxRecDepth 100000 in
set_option maxHeartbeats 0 in
theorem PySem.Challenge.cw_scriptpicks_k34_scripts_changed_holds : PySem.Challenge.rw_scriptpicks_k34_scripts_changed.Holds := by
  w_on; o_law; k_head; (case hw => w_witness2)
  k_fill
  refine Own.walk (l := PySem.Challenge.rw_scriptpicks_k34_scripts_changed) rfl rfl (fun w h Y => PySem.W.km_in_of Y) ?rec ?F ?imps
  case imps => decide +kernel
  case rec => decide +kernel
  case F =>
    intro w mg fa h KX G hmg own
    refine' Own.all_mk KX G hmg own ?a0 ?l0 ?c0 ?k0 ?a1 ?l1 ?c1 ?k1 ?a2 ?l2 ?c2 ?k2 ?a3 ?l3 ?c3 ?k3 ?a4 ?l4 ?c4 ?k4 ?a5 ?l5 ?c5 ?k5 ?a6 ?l6 ?c6 ?k6 ?a7 ?l7 ?c7 ?k7 ?a8 ?l8 ?c8 ?k8 ?a9 ?l9 ?c9 ?k9 ?a10 ?l10 ?c10 ?k10 ?a11 ?l11 ?c11 ?k11 ?a12 ?l12 ?c12 ?k12 ?a13 ?l13 ?c13 ?k13 ?a14 ?l14 ?c14 ?k14 ?a15 ?l15 ?c15 ?k15 ?a16 ?l16 ?c16 ?k16 ?a17 ?l17 ?c17 ?k17 ?a18 ?l18 ?c18 ?k18 ?a19 ?l19 ?c19 ?k19 ?a20 ?l20 ?c20 ?k20 ?a21 ?l21 ?c21 ?k21 ?a22 ?l22 ?c22 ?k22 ?a23 ?l23 ?c23 ?k23 ?a24 ?l24 ?c24 ?k24 ?a25 ?l25 ?c25 ?k25 ?a26 ?l26 ?c26 ?k26 ?a27 ?l27 ?c27 ?k27 ?a28 ?l28 ?c28 ?k28 ?a29 ?l29 ?c29 ?k29 ?a30 ?l30 ?c30 ?k30 ?a31 ?l31 ?c31 ?k31 ?a32 ?l32 ?c32 ?k32 ?a33 ?l33 ?c33 ?k33 ?a34 ?l34 ?c34 ?k34 ?a35 ?l35 ?c35 ?k35 ?a36 ?l36 ?c36 ?k36 ?a37 ?l37 ?c37 ?k37 ?a38 ?l38 ?c38 ?k38 ?a39 ?l39 ?c39 ?k39 ?a40 ?l40 ?c40 ?k40 ?a41 ?l41 ?c41 ?k41 ?a42 ?l42 ?c42 ?k42 ?a43 ?l43 ?c43 ?k43 ?a44 ?l44 ?c44 ?k44 ?a45 ?l45 ?c45 ?k45 ?a46 ?l46 ?c46 ?k46 ?hct46 ?hvt46 ?hch46 ?htn46 ?a47 ?l47 ?c47 ?k47 ?a48 ?l48 ?c48 ?k48 ?a49 ?l49 ?c49 ?k49 ?hct49 ?hvt49 ?hch49 ?htn49 ?ne49_46 ?z_abs ?z_all ?z_any ?z_bool ?z_dict ?z_enumerate ?z_int ?z_isinstance ?z_len ?z_list ?z_range ?z_repr ?z_set ?z_sorted ?z_str ?z_tuple ?z_zip ?gLong ?gRel ?lRel ?gkn ?lkn ?gna ?lna ?gos ?los ?xg0 ?l0x ?xg1 ?l1x ?xg2 ?l2x ?xg3 ?l3x ?xg4 ?l4x ?xg5 ?l5x ?ga4 ?gg4 ?hd4 ?ha4 ?mr4 ?kp4 ?sa4 ?in4 ?fn4 ?lk4 ?cc4 ?kk4 ?no4 ?ga2 ?gg2 ?hd2 ?ha2 ?mr2 ?kp2 ?sa2 ?in2 ?fn2 ?lk2 ?cc2 ?kk2 ?no2 ?ga3 ?gg3 ?hd3 ?ha3 ?mr3 ?kp3 ?sa3 ?in3 ?fn3 ?lk3 ?cc3 ?kk3 ?no3 ?gP ?cHn ?cTk ?pEx ?pHd ?pTy ?nd ?np ?gS ?aSinit ?iSinit ?lkSinit ?cSinit ?kSinit ?aSeq ?iSeq ?lkSeq ?cSeq ?kSeq ?aSlen ?iSlen ?lkSlen ?cSlen ?kSlen ?aSadd ?iSadd ?lkSadd ?cSadd ?kSadd ?aScheckindex ?iScheckindex ?lkScheckindex ?cScheckindex ?kScheckindex ?aSsteps ?iSsteps ?lkSsteps ?cSsteps ?kSsteps ?aSwithstep ?iSwithstep ?lkSwithstep ?cSwithstep ?kSwithstep ?aSwithout ?iSwithout ?lkSwithout ?cSwithout ?kSwithout ?aSswapped ?iSswapped ?lkSswapped ?cSswapped ?kSswapped ?aSpicksinorder ?iSpicksinorder ?lkSpicksinorder ?cSpicksinorder ?kSpicksinorder ?aSnames ?iSnames ?lkSnames ?cSnames ?kSnames ?aSpatterns ?iSpatterns ?lkSpatterns ?cSpatterns ?kSpatterns ?aSplaces ?iSplaces ?lkSplaces ?cSplaces ?kSplaces ?pgS ?hdS ?poS ?saS ?mkS ?kcS ?nS0 ?haS ?mrS ?sfC
    (case a0 => k_is)
    (case l0 => k_is)
    (case c0 => k_is)
    (case k0 => k_is)
    (case a1 => k_is)
    (case l1 => k_is)
    (case c1 => k_is)
    (case k1 => k_is)
    (case a2 => k_is)
    (case l2 => k_is)
    (case c2 => k_is)
    (case k2 => k_is)
    (case a3 => k_is)
    (case l3 => k_is)
    (case c3 => k_is)
    (case k3 => k_is)
    (case a4 => k_is)
    (case l4 => k_is)
    (case c4 => k_is)
    (case k4 => k_is)
    (case a5 => k_is)
    (case l5 => k_is)
    (case c5 => k_is)
    (case k5 => k_is)
    (case a6 => k_is)
    (case l6 => k_is)
    (case c6 => k_is)
    (case k6 => k_is)
    (case a7 => k_is)
    (case l7 => k_is)
    (case c7 => k_is)
    (case k7 => k_is)
    (case a8 => k_is)
    (case l8 => k_is)
    (case c8 => k_is)
    (case k8 => k_is)
    (case a9 => k_is)
    (case l9 => k_is)
    (case c9 => k_is)
    (case k9 => k_is)
    (case a10 => k_is)
    (case l10 => k_is)
    (case c10 => k_is)
    (case k10 => k_is)
    (case a11 => k_is)
    (case l11 => k_is)
    (case c11 => k_is)
    (case k11 => k_is)
    (case a12 => k_is)
    (case l12 => k_is)
    (case c12 => k_is)
    (case k12 => k_is)
    (case a13 => k_is)
    (case l13 => k_is)
    (case c13 => k_is)
    (case k13 => k_is)
    (case a14 => k_is)
    (case l14 => k_is)
    (case c14 => k_is)
    (case k14 => k_is)
    (case a15 => k_is)
    (case l15 => k_is)
    (case c15 => k_is)
    (case k15 => k_is)
    (case a16 => k_is)
    (case l16 => k_is)
    (case c16 => k_is)
    (case k16 => k_is)
    (case a17 => k_is)
    (case l17 => k_is)
    (case c17 => k_is)
    (case k17 => k_is)
    (case a18 => k_is)
    (case l18 => k_is)
    (case c18 => k_is)
    (case k18 => k_is)
    (case a19 => k_is)
    (case l19 => k_is)
    (case c19 => k_is)
    (case k19 => k_is)
    (case a20 => k_is)
    (case l20 => k_is)
    (case c20 => k_is)
    (case k20 => k_is)
    (case a21 => k_is)
    (case l21 => k_is)
    (case c21 => k_is)
    (case k21 => k_is)
    (case a22 => k_is)
    (case l22 => k_is)
    (case c22 => k_is)
    (case k22 => k_is)
    (case a23 => k_is)
    (case l23 => k_is)
    (case c23 => k_is)
    (case k23 => k_is)
    (case a24 => k_is)
    (case l24 => k_is)
    (case c24 => k_is)
    (case k24 => k_is)
    (case a25 => k_is)
    (case l25 => k_is)
    (case c25 => k_is)
    (case k25 => k_is)
    (case a26 => k_is)
    (case l26 => k_is)
    (case c26 => k_is)
    (case k26 => k_is)
    (case a27 => k_is)
    (case l27 => k_is)
    (case c27 => k_is)
    (case k27 => k_is)
    (case a28 => k_is)
    (case l28 => k_is)
    (case c28 => k_is)
    (case k28 => k_is)
    (case a29 => k_is)
    (case l29 => k_is)
    (case c29 => k_is)
    (case k29 => k_is)
    (case a30 => k_is)
    (case l30 => k_is)
    (case c30 => k_is)
    (case k30 => k_is)
    (case a31 => k_is)
    (case l31 => k_is)
    (case c31 => k_is)
    (case k31 => k_is)
    (case a32 => k_is)
    (case l32 => k_is)
    (case c32 => k_is)
    (case k32 => k_is)
    (case a33 => k_is)
    (case l33 => k_is)
    (case c33 => k_is)
    (case k33 => k_is)
    (case a34 => k_is)
    (case l34 => k_is)
    (case c34 => k_is)
    (case k34 => k_is)
    (case a35 => k_is)
    (case l35 => k_is)
    (case c35 => k_is)
    (case k35 => k_is)
    (case a36 => k_is)
    (case l36 => k_is)
    (case c36 => k_is)
    (case k36 => k_is)
    (case a37 => k_is)
    (case l37 => k_is)
    (case c37 => k_is)
    (case k37 => k_is)
    (case a38 => k_is)
    (case l38 => k_is)
    (case c38 => k_is)
    (case k38 => k_is)
    (case a39 => k_is)
    (case l39 => k_is)
    (case c39 => k_is)
    (case k39 => k_is)
    (case a40 => k_is)
    (case l40 => k_is)
    (case c40 => k_is)
    (case k40 => k_is)
    (case a41 => k_is)
    (case l41 => k_is)
    (case c41 => k_is)
    (case k41 => k_is)
    (case a42 => k_is)
    (case l42 => k_is)
    (case c42 => k_is)
    (case k42 => k_is)
    (case a43 => k_is)
    (case l43 => k_is)
    (case c43 => k_is)
    (case k43 => k_is)
    (case a44 => k_is)
    (case l44 => k_is)
    (case c44 => k_is)
    (case k44 => k_is)
    (case a45 => k_is)
    (case l45 => k_is)
    (case c45 => k_is)
    (case k45 => k_is)
    (case a46 => k_is)
    (case l46 => k_is)
    (case c46 => k_is)
    (case k46 => k_is)
    (case hct46 => k_is)
    (case hvt46 => exact rfl)
    (case hch46 => kernel_rfl)
    (case htn46 => kernel_rfl)
    (case a47 => k_is)
    (case l47 => k_is)
    (case c47 => k_is)
    (case k47 => k_is)
    (case a48 => k_is)
    (case l48 => k_is)
    (case c48 => k_is)
    (case k48 => k_is)
    (case a49 => k_is)
    (case l49 => k_is)
    (case c49 => k_is)
    (case k49 => k_is)
    (case hct49 => k_is)
    (case hvt49 => exact rfl)
    (case hch49 => kernel_rfl)
    (case htn49 => kernel_rfl)
    (case ne49_46 => decide +kernel)
    (case z_abs => k_is)
    (case z_all => k_is)
    (case z_any => k_is)
    (case z_bool => k_is)
    (case z_dict => k_is)
    (case z_enumerate => k_is)
    (case z_int => k_is)
    (case z_isinstance => k_is)
    (case z_len => k_is)
    (case z_list => k_is)
    (case z_range => k_is)
    (case z_repr => k_is)
    (case z_set => k_is)
    (case z_sorted => k_is)
    (case z_str => k_is)
    (case z_tuple => k_is)
    (case z_zip => k_is)
    (case gLong => k_is)
    (case gRel => k_is)
    (case lRel => k_is)
    (case gkn => k_is)
    (case lkn => k_is)
    (case gna => k_is)
    (case lna => k_is)
    (case gos => k_is)
    (case los => k_is)
    (case xg0 => k_is)
    (case l0x => k_is)
    (case xg1 => k_is)
    (case l1x => k_is)
    (case xg2 => k_is)
    (case l2x => k_is)
    (case xg3 => k_is)
    (case l3x => k_is)
    (case xg4 => k_is)
    (case l4x => k_is)
    (case xg5 => k_is)
    (case l5x => k_is)
    (case ga4 => k_is)
    (case gg4 => k_is)
    (case hd4 => k_is)
    (case ha4 => k_is)
    (case mr4 => k_is)
    (case kp4 => k_is)
    (case sa4 => k_is)
    (case in4 => k_is)
    (case fn4 => k_is)
    (case lk4 => k_is)
    (case cc4 => k_is)
    (case kk4 => k_is)
    (case no4 => k_is)
    (case ga2 => k_is)
    (case gg2 => k_is)
    (case hd2 => k_is)
    (case ha2 => k_is)
    (case mr2 => k_is)
    (case kp2 => k_is)
    (case sa2 => k_is)
    (case in2 => k_is)
    (case fn2 => k_is)
    (case lk2 => k_is)
    (case cc2 => k_is)
    (case kk2 => k_is)
    (case no2 => k_is)
    (case ga3 => k_is)
    (case gg3 => k_is)
    (case hd3 => k_is)
    (case ha3 => k_is)
    (case mr3 => k_is)
    (case kp3 => k_is)
    (case sa3 => k_is)
    (case in3 => k_is)
    (case fn3 => k_is)
    (case lk3 => k_is)
    (case cc3 => k_is)
    (case kk3 => k_is)
    (case no3 => k_is)
    (case gP => k_is)
    (case cHn => k_is)
    (case cTk => k_is)
    (case pEx => k_is)
    (case pHd => k_is)
    (case pTy => k_is)
    (case nd => decide +kernel)
    (case np => decide +kernel)
    (case gS => k_is)
    (case aSinit => k_is)
    (case iSinit => k_is)
    (case lkSinit => k_is)
    (case cSinit => k_is)
    (case kSinit => k_is)
    (case aSeq => k_is)
    (case iSeq => k_is)
    (case lkSeq => k_is)
    (case cSeq => k_is)
    (case kSeq => k_is)
    (case aSlen => k_is)
    (case iSlen => k_is)
    (case lkSlen => k_is)
    (case cSlen => k_is)
    (case kSlen => k_is)
    (case aSadd => k_is)
    (case iSadd => k_is)
    (case lkSadd => k_is)
    (case cSadd => k_is)
    (case kSadd => k_is)
    (case aScheckindex => k_is)
    (case iScheckindex => k_is)
    (case lkScheckindex => k_is)
    (case cScheckindex => k_is)
    (case kScheckindex => k_is)
    (case aSsteps => k_is)
    (case iSsteps => k_is)
    (case lkSsteps => k_is)
    (case cSsteps => k_is)
    (case kSsteps => k_is)
    (case aSwithstep => k_is)
    (case iSwithstep => k_is)
    (case lkSwithstep => k_is)
    (case cSwithstep => k_is)
    (case kSwithstep => k_is)
    (case aSwithout => k_is)
    (case iSwithout => k_is)
    (case lkSwithout => k_is)
    (case cSwithout => k_is)
    (case kSwithout => k_is)
    (case aSswapped => k_is)
    (case iSswapped => k_is)
    (case lkSswapped => k_is)
    (case cSswapped => k_is)
    (case kSswapped => k_is)
    (case aSpicksinorder => k_is)
    (case iSpicksinorder => k_is)
    (case lkSpicksinorder => k_is)
    (case cSpicksinorder => k_is)
    (case kSpicksinorder => k_is)
    (case aSnames => k_is)
    (case iSnames => k_is)
    (case lkSnames => k_is)
    (case cSnames => k_is)
    (case kSnames => k_is)
    (case aSpatterns => k_is)
    (case iSpatterns => k_is)
    (case lkSpatterns => k_is)
    (case cSpatterns => k_is)
    (case kSpatterns => k_is)
    (case aSplaces => k_is)
    (case iSplaces => k_is)
    (case lkSplaces => k_is)
    (case cSplaces => k_is)
    (case kSplaces => k_is)
    (case pgS => k_is)
    (case hdS => k_is)
    (case poS => k_is)
    (case saS => k_is)
    (case mkS => k_is)
    (case kcS => k_is)
    (case nS0 => k_is)
    (case haS => k_is)
    (case mrS => k_is)
    (case sfC => k_is)
