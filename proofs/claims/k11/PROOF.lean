import PyProof.Rows.All
import Wide.All
import OpenK.AllK
import Wide.FinOn
import HandS.ForMost
import HandS.Wide
import HandS.Zip
import HandS.Style
import HandS.TupAny
import HandS.Replace
import HandS.IsInst
import HandS.Codes
import HandS.Conv
import HandS.More
import HandS.Evl
import HandS.NoneIn
import HandS.Deep
import HandS.Flow
import PyProof.ReprRoads
import HandS.Walk
import PyProof.StrLawsRepr
import PyProof.Rows.RegStrFacts
import PyProof.P3Eq
import HandS.TupMul
import HandS.Dict
import KE.KRevSl
import HandS.WrittenGet
import HandS.ExcInit
import HandS.ExcField
import HandS.ExcIs
import HandS.ExcOwn
import HandS.WordsExc
import KE.KExcIs
import HandS.HotCalls
import KE.KEqNest
import HandS.RaiseMore
import HandS.ExcInitHot
import HandS.Set
import HandS.SetTxt0
import HandS.SetFor
import HandS.Strs
import PyProof.Rows.SortShellAny
import PyProof.SumAny
import PyProof.ListOps
import HandS.Property
import PyProof.EqKinds
import OpenK.KMeth
import HandS.DictComp
import PyProof.ListStr
import HandS.Ends
import PySem.Challenge.RW_scriptpicks_k11_words_known
set_option Elab.async false
set_option linter.all false
set_option maxRecDepth 100000
/-! rules of our own over the hand layer -/
namespace Own
open PySem PySem.Spec PyProof.Rows L2
section
variable {X : Cx}
theorem CallR.or {f : Value} {r r' : List V → Hp → VK → Prop} (h : CallR X f r) (h' : CallR X f r') : CallR X f (fun xs H Z => r xs H Z ∨ r' xs H Z) := by
  intro pk s τ H xs us Z I rs q
  rcases q with q | q
  · exact h pk s τ H xs us Z I rs q
  · exact h' pk s τ H xs us Z I rs q
theorem SlR.or {r r' : V → Option Int → Option Int → Hp → VK → Prop} (h : SlR X r) (h' : SlR X r') : SlR X (fun x lo hi H Z => r x lo hi H Z ∨ r' x lo hi H Z) := by
  intro pk s τ H x v vl vu lo hi sl Z I rx hst pl pu q
  rcases q with q | q
  · exact h pk s τ H x v vl vu lo hi sl Z I rx hst pl pu q
  · exact h' pk s τ H x v vl vu lo hi sl Z I rx hst pl pu q
theorem PI.or {tg iter : Expr} {w w' : TI} (h : PI X tg iter w) (h' : PI X tg iter w') : PI X tg iter (fun τ H R => w τ H R ∨ w' τ H R) :=
  ⟨fun pk s τ H R I q => q.elim (h.run pk s τ H R I) (h'.run pk s τ H R I)⟩
/-! ### unions: the reading chooses -/
def rAddI : R2 := rI0 fun i j => .int (i + j)
def rAddS : R2 := fun x y H Z => ∃ i j, x = .str i ∧ y = .str j ∧ i.length + j.length ≤ sizeLine ∧ Z (.str (i ++ j)) H
def rAdd (K : PySem.W.Frag) : R2 := fun x y H Z => rAddI x y H Z ∨ rAddS x y H Z ∨ rCat x y H Z ∨ rCatA K x y H Z
theorem opAdd : OpR X (binaryOp .Add) (rAdd X.K) := OpR.or op_add (OpR.or op_add_str (OpR.or op_cat op_catA))
def rMulI : R2 := rI CMul fun i j => .int (i * j)
def rMul : R2 := fun x y H Z => rMulI x y H Z ∨ rRep x y H Z
theorem opMul : OpR X (binaryOp .Mult) rMul := OpR.or op_mul op_rep
def rEqA (K : PySem.W.Frag) : R2 := fun x y H Z => rEq x y H Z ∨ rEqD K x y H Z
def rNeA (K : PySem.W.Frag) : R2 := fun x y H Z => rNe x y H Z ∨ rNeD K x y H Z
theorem opEq {k : Nat} (hr : Room k X.A) : OpR X (compareOp .Eq) (rEqA X.K) := OpR.or op_eq (op_eqD hr.units)
theorem opNe {k : Nat} (hr : Room k X.A) : OpR X (compareOp .NotEq) (rNeA X.K) := OpR.or op_ne (op_neD hr.units)
def rLtI : R2 := rI0 fun i j => .bl (decide (i < j))
def rLeI : R2 := rI0 fun i j => .bl (decide (i ≤ j))
def rGtI : R2 := rI0 fun i j => .bl (decide (j < i))
def rGeI : R2 := rI0 fun i j => .bl (decide (j ≤ i))
theorem opLt : OpR X (compareOp .Lt) rLtI := op_lt
theorem opLe : OpR X (compareOp .LtE) rLeI := op_le
theorem opGt : OpR X (compareOp .Gt) rGtI := op_gt
theorem opGe : OpR X (compareOp .GtE) rGeI := op_ge
def rInS : R2 := fun x y H Z => ∃ i j, x = .str i ∧ y = .str j ∧ Z (.bl (!(Builtin.Str.occurrences j i 0 j.length 1).isEmpty)) H
def rNotInS : R2 := fun x y H Z => ∃ i j, x = .str i ∧ y = .str j ∧ Z (.bl (!(!(Builtin.Str.occurrences j i 0 j.length 1).isEmpty))) H
def rInA (K : PySem.W.Frag) : R2 := fun x y H Z => rIn K false x y H Z ∨ rInS x y H Z
def rNotInA (K : PySem.W.Frag) : R2 := fun x y H Z => rIn K true x y H Z ∨ rNotInS x y H Z
theorem opIn : OpR X (compareOp .In) (rInA X.K) := OpR.or op_in_seq op_in_str
theorem opNotIn : OpR X (compareOp .NotIn) (rNotInA X.K) := OpR.or op_notIn_seq L2.op_notin_str
def rIxA (K : PySem.W.Frag) (w : World) : R2 := fun x y H Z => rIxL K x y H Z ∨ rIxT K x y H Z ∨ rIxS x y H Z ∨ rIxD K w x y H Z
theorem ixAny : IxR X (rIxA X.K X.w) := IxR.or ix_list (IxR.or ix_tup (IxR.or ix_str ix_kdict))
def rSlAny (K : PySem.W.Frag) : V → Option Int → Option Int → Hp → VK → Prop := fun x lo hi H Z => rSlL K x lo hi H Z ∨ rSlA K x lo hi H Z ∨ rSlS x lo hi H Z
theorem slAny : SlR X (rSlAny X.K) := SlR.or sl_list (SlR.or sl_tupA sl_str)
def iAny (K : PySem.W.Frag) (tl : TE) : TI := fun τ H R => iList K tl τ H R ∨ iTup K tl τ H R ∨ iStr tl τ H R
theorem piAny {tg l : Expr} {tl : TE} (hlen : PE X l tl) : PI X tg l (iAny X.K tl) := PI.or (pi_list hlen) (PI.or (pi_tup hlen) (pi_str hlen))
def rLenA (K : PySem.W.Frag) : List V → Hp → VK → Prop := fun xs H Z => (∃ p ys, xs = [.ref p] ∧ (SqL K H p ys ∨ SqT K H p ys) ∧ Z (.int ys.length) H) ∨ (∃ z, xs = [.str z] ∧ z.length ≤ sizeLine ∧ Z (.int z.length) H)
theorem callLen : CallR X (.builtin "len") (rLenA X.K) := CallR.or call_len_seq call_len_str
theorem pgetL : PGet X (rIxL X.K) := by
  intro pk s τ H x y v u Z I rx ry h
  obtain ⟨p, xs, i, z, rfl, rfl, hsq, hes, q⟩ := h
  cases rx
  obtain ⟨t, rfl⟩ := ry
  obtain ⟨gs, r, pl, hz⟩ := I.list hsq
  obtain ⟨j, h1, h2, h3, h4, h5⟩ := atI_get hes
  obtain ⟨w, ew, rw'⟩ := r.get h2
  have hlen := r.length
  have hn := line63
  have ready : EP X pk τ Z w s := ⟨z, H, I, rw', q⟩
  by_cases h0 : 0 ≤ i
  · have hj : i.toNat = j := by
      rw [seqIndex_of h0 h5] at h1
      exact Option.some.inj h1
    exact wpAny_getItem_list pl.isList h0 (by omega) (by rw [hj]; simpa using ew) ready
  · have hj : (i + (gs.toArray.size : Int)).toNat = j := by
      rw [seqIndex_neg (by omega) h4] at h1
      rw [List.size_toArray, ← hlen]
      exact Option.some.inj h1
    exact wpAny_getItem_list_neg pl.isList (by omega) (by rw [List.size_toArray] <;> omega) (by omega) (by rw [hj]; simpa using ew) ready
/-- repr of data -/
def rRepr (K : PySem.W.Frag) : List V → Hp → VK → Prop := fun xs H Z => ∃ a d, xs = [.ref a] ∧ Dp K H (.ref a) d ∧ d.showable = true ∧ d.hasDict = false ∧ d.depth ≤ 20 ∧ d.shown.length ≤ sizeLine ∧ Z (.str d.shown) H
theorem callRepr {k : Nat} (hg : X.A.guards = some []) (hr : Room k X.A) : CallR X (.builtin "repr") (rRepr X.K) := by
  intro pk s τ H xs us Z I r h
  obtain ⟨a, d, rfl, hd, hst, hn, hz, hlen, q⟩ := h
  rw [Vals.ref1 r]
  obtain ⟨as, rd⟩ := Dp.reads I d _ _ hd rfl
  have hu := hr.units
  exact repr_of_reads' rd hst (fun e => by rw [hn] at e; cases e) hg (by omega) (fun _ _ e => e) (fun h' u tk hkp => ⟨.str d.shown, H, I.kept (h' := h') (t' := tk) hkp, ⟨_, rfl⟩, q⟩) hlen
end
/-! ### defs that are called where no container is being shown -/
structure FnG (P : Program) (w : World) (K : PySem.W.Frag) (mg : Str → Option Value) (base : Heap) (k : Nat) (f : Addr) (fd : FuncData) (ps : List Str) (sp : Sp) : Prop where
  len : ∀ vs H Z EE, sp vs H Z EE → vs.length = ps.length
  run : ∀ (A : Around) (outer : List Env) (s : Shared) (H : Hp) (args : Args) (us : List Value) (vs : List V) (Z : VK) (EE : XK), Room k A → A.guards = some [] → Env0 P w K mg base A outer s H → BindsTo s fd args (ps.zip us) → Vals vs us → sp vs H Z EE →
    codeAny (model P w) A (.call (.ref f) args) (CR CX0 outer P w H s Z EE) s
structure CalG (P : Program) (w : World) (K : PySem.W.Frag) (mg : Str → Option Value) (base : Heap) (k : Nat) (x : Str) (sp : Sp) : Prop where
  ex : ∃ (f : Addr) (fd : FuncData) (ps : List Str), FnG P w K mg base k f fd ps sp ∧ mg x = some (.ref f) ∧ PySem.W.keepIn K (.ref f) = true ∧ Binds K fd ps []
structure Df (K : PySem.W.Frag) (mg : Str → Option Value) (x : Str) (st : Stmt) : Prop where
  ex : ∃ (f : Addr) (fd : FuncData), mg x = some (.ref f) ∧ Fun K x x st f fd
section
variable {P : Program} {w : World} {K : PySem.W.Frag} {mg : Str → Option Value} {base : Heap}
theorem CalG.imp {k : Nat} {x : Str} {sp sp' : Sp} (c : CalG P w K mg base k x sp) (h : ∀ vs H Z EE, sp' vs H Z EE → sp vs H Z EE) : CalG P w K mg base k x sp' := by
  obtain ⟨f, fd, ps, F, a, b, d⟩ := c.ex
  exact ⟨f, fd, ps, ⟨fun vs H Z EE q => F.len vs H Z EE (h _ _ _ _ q), fun A outer s H args us vs Z EE hr hg hes hbd hv hst => F.run A outer s H args us vs Z EE hr hg hes hbd hv (h _ _ _ _ hst)⟩, a, b, d⟩
theorem fn_mk {x : Str} {f : Addr} {fd : FuncData} {st : Stmt} {N ps : List Str} {k : Nat} {sp : Sp} (F : Fun K x x st f fd) (S : FnScope N ps (defScope st))
    (len : ∀ vs H Z EE, sp vs H Z EE → vs.length = ps.length)
    (hbody : ∀ (cdv : Value) (A : Around) (outer : List Env) (s : Shared) (H : Hp) (vs : List V) (Z : VK) (EE : XK), Room k (A.deeper (envOfC x (defScope st) s.heap.objs.size f cdv)) → (A.deeper (envOfC x (defScope st) s.heap.objs.size f cdv)).guards = some [] → sp vs H Z EE →
      ∃ t, PSs (cxOf CX0 P w K mg base N x (defScope st) f cdv A outer s H EE).nox (defBody st) t ∧ t { nx := fun _ H' => Z .non H', rt := Z } (start N vs) H) : FnG P w K mg base (k + 1) f fd ps sp := by
  obtain ⟨oc, od, kV, doc, pm, an, cdv, ct, sl, rfl, lkp, hcd⟩ := F.ex
  refine ⟨len, fun A outer s H args us vs Z EE hr hg e0 hbt r hsp => ?_⟩
  have body : ∀ (A : Around) (outer : List Env) (s : Shared) (H : Hp) (vs : List V) (Z : VK) (EE : XK), Room k (A.deeper (envOfC x (defScope st) s.heap.objs.size f cdv)) → A.guards = some [] → sp vs H Z EE →
      ∃ t, PSs (cxOf CX0 P w K mg base N x (defScope st) f cdv A outer s H EE) (defBody st) t ∧ t { nx := fun _ H' => Z .non H', rt := Z } (start N vs) H := fun A outer s H vs Z EE hr hg hsp => by
    obtain ⟨t, h, q⟩ := hbody cdv A outer s H vs Z EE hr hg hsp
    exact ⟨t, h.nox, q⟩
  have hlen := len _ _ _ _ hsp
  have KI : K.In s.heap := e0.mod.kin.keeps fun b o e => (e0.bs b o e).1
  have nlm : s.heap.NoLimit := e0.mod.nolimit.keeps fun b o e => (e0.bs b o e).1
  have hkind : ∀ y ∈ ps.zip us, (defScope st).names.lookup y.1 = some .local ∨ ((defScope st).names.lookup y.1 = some .cell ∧ ((cellsFrom (s.heap.objs.size + 1) (defScope st).names []).lookup y.1).isSome = true) := fun ⟨n, v⟩ hyy => by
    rcases S.par n (List.of_mem_zip hyy).1 with q | q
    · exact .inl q
    · exact .inr ⟨q, PySem.W.cellsFrom_some _ _ _ (.inl q)⟩
  refine codeAny_call_function hr.depth (KI _ _ lkp) rfl S.co S.gen rfl (PySem.W.codeRec_of KI hcd) (hbt _ _ _ _ ?_)
  refine wpAny_newFunctionEnv_cells S.kind hkind fun env hes st1 xx => ?_
  subst hes
  refine ⟨nlm.keeps xx.toInCall.keep, codeAny_func ?_⟩
  obtain ⟨t, ht, hsq⟩ := body A outer s H vs Z EE (hr.deeper _) hg hsp
  have I : Inv (cxOf CX0 P w K mg base N x (defScope st) f cdv A outer s H EE) [] (start N vs) H st1 := inv_start S hr.hd e0 hlen r xx
  refine wpAny_mono (ht.run [] st1 (start N vs) H _ I hsq) (fun fl s' hst => ?_) fun e s' hst => hst
  have ready : ∀ {τ' : L2.St} {H' : Hp} {v : V} {u : Value}, Inv (cxOf CX0 P w K mg base N x (defScope st) f cdv A outer s H EE) [] τ' H' s' → RelV v u → Z v H' → CE outer P w H s Z u s' :=
    fun {τ' H' v u} J rv q => ⟨v, H', J.os, J.bare, J.base, J.hok, rv, q⟩
  cases fl with
  | ret u =>
    obtain ⟨v, τ', H', J, rv, q⟩ := hst
    exact ready J rv q
  | next =>
    obtain ⟨τ', H', J, q⟩ := hst
    exact ready (v := V.non) (u := Value.none) J rfl q
  | brk =>
    obtain ⟨_, _, _, q⟩ := hst
    exact False.elim q
  | cont =>
    obtain ⟨_, _, _, q⟩ := hst
    exact False.elim q
theorem cal_mk {x : Str} {st : Stmt} {N ps : List Str} {k : Nat} {sp : Sp} (D : Df K mg x st) (S : FnScope N ps (defScope st))
    (hbd : ∀ (kV doc pm : Value) (an : Option Addr) (cdv ct : Value) (us : List Value), us.length = ps.length → bindArgs (PySem.W.fnOf x x (defArgs st) (defBody st) (defScope st) .none kV doc pm an cdv ct) ⟨us, []⟩ = pure (ps.zip us))
    (len : ∀ vs H Z EE, sp vs H Z EE → vs.length = ps.length)
    (hbody : ∀ (f : Addr) (cdv : Value) (A : Around) (outer : List Env) (s : Shared) (H : Hp) (vs : List V) (Z : VK) (EE : XK), Room k (A.deeper (envOfC x (defScope st) s.heap.objs.size f cdv)) → (A.deeper (envOfC x (defScope st) s.heap.objs.size f cdv)).guards = some [] → sp vs H Z EE →
      ∃ t, PSs (cxOf CX0 P w K mg base N x (defScope st) f cdv A outer s H EE).nox (defBody st) t ∧ t { nx := fun _ H' => Z .non H', rt := Z } (start N vs) H) : CalG P w K mg base (k + 1) x sp := by
  obtain ⟨f, fd, hmg, F⟩ := D.ex
  exact ⟨f, fd, ps, fn_mk F S len (hbody f), hmg, F.kp, F.binds hbd⟩
end
section
variable {X : Cx} {pk : List (Addr × Obj)} {τ : L2.St} {H : Hp} {s : Shared} {k j : Nat} {sp : Sp} {f : Addr} {fd : FuncData} {ps : List Str} {Z : VK} {us : List Value} {vs : List V} {x : Str} {p pos : Pos} {e : Expr} {es : List Expr} {t : TA}
theorem run_fnG (F : FnG X.prog X.w X.K X.mg X.base k f fd ps sp) (hr : Room k X.A) (hg : X.A.guards = some []) (hbd : Binds X.K fd ps [])
    (I : Inv X pk τ H s) (r : Vals vs us) (h : sp vs H Z E0) : wpAny (model X.prog X.w) X.A (call (.ref f) us) (EP X pk τ Z) X.xe s := by
  have hlen : us.length = ps.length := by rw [← r.length]; exact F.len _ _ _ _ h
  have e1 : us ++ [] = us := List.append_nil us
  refine wpAny_call (codeAny_mono (F.run X.A X.stack s H ⟨us, []⟩ us vs Z E0 hr hg I.env0 (by have q := hbd s us I.kIn (by rw [e1]; exact hlen); rw [e1] at q; exact q) r h) fun r s' hsq => ?_)
  cases r with
  | error e => exact (show False from hsq).elim
  | ok fl =>
    cases fl with
    | ret u => exact I.after hsq
    | next => exact False.elim hsq
    | brk => exact False.elim hsq
    | cont => exact False.elim hsq
theorem pe_cG (c : CalG X.prog X.w X.K X.mg X.base k x sp) (hr : Room j X.A) (hg0 : X.A.guards = some []) (hkp : k ≤ j) (hg : Gl X x) (ha : PA X (e :: es) t)
    (hdb : (x == ("__debug__" : Str)) = false := by decide) (hes : starEach (e :: es) X.env = (false, eval e X.env) :: starEach es X.env := by rfl) (hpl : (backTo pos (starEach es X.env)).any (·.1) = false := by rfl) :
    PE X (.Call (.Name x p) (e :: es) [] pos) (tCall sp [] E0 t) := by
  obtain ⟨f, fd, ps, F, hmg, kp, b⟩ := c.ex
  refine ⟨fun pk s τ H Z I h => ?_⟩
  refine wpAny_Call_Name_kw (ld_glob I hg hmg ?_ hdb)
  refine PySem.W.callWith_K (h₀ := X.base) I.ok.mod.kin kp (thn (ha.run pos pk s τ H _ I h) fun us st1 ⟨vs, H1, I1, r, q⟩ => ⟨I1.kIn, ?_⟩) hes hpl
  have q : sp (vs ++ []) H1 Z E0 := q
  rw [List.append_nil] at q
  exact run_fnG F (hr.mono hkp) hg0 b I1 r q
end
end Own

namespace Own
open PySem PySem.Spec PyProof.Rows L2 Evl
theorem up_old {H : Hp} {p q : Addr} {o u : HO} (hp : H p = none) (h : H q = some u) : upd H p o q = some u := by
  rw [upd_ne (ne_of_none h hp)]
  exact h
theorem gen1 {H H1 : Hp} {p : Addr} {o : HO} (hq : upd H p o = H1) (hp : H p = none) : Ex H H1 ∧ H1 p = some o := by
  subst hq
  exact ⟨Ex.new hp, upd_same⟩
/-! ### tuples never change -/
def TEx (H H' : Hp) : Prop := ∀ a xs, H a = some (.tup xs) → H' a = some (.tup xs)
theorem TEx.refl (H : Hp) : TEx H H := fun _ _ h => h
theorem TEx.trans {H H1 H2 : Hp} (a : TEx H H1) (b : TEx H1 H2) : TEx H H2 := fun x o h => b x o (a x o h)
theorem TEx.of {H H' : Hp} (e : Ex H H') : TEx H H' := fun a _ h => e a _ h
theorem TEx.lst {H : Hp} {D : Addr} {xs : List V} {o : HO} (h : H D = some (.lst xs)) : TEx H (upd H D o) := fun a ys q => by
  rw [upd_ne (fun z => by rw [z, h] at q; cases q)]
  exact q
/-- two tuples, zipped -/
theorem walk_zipT {K : PySem.W.Frag} {a b : Addr} {xs ys : List V} {n : Nat} (hn : n = min xs.length ys.length) :
    Walk (RZ.ItzT K a b) n (fun H => SqT K H a xs ∧ SqT K H b ys) (YPair (fun i => xs[i]?) (fun i => ys[i]?)) := by
  refine ⟨fun i H hi h => ?_, fun H h => ⟨xs, ys, h.1, h.2, by omega⟩, fun i H x H' hi h y => ?_⟩
  · exact ⟨xs, ys, xs[i], ys[i], h.1, h.2, List.getElem?_eq_getElem (by omega), List.getElem?_eq_getElem (by omega)⟩
  · obtain ⟨T, u, v, rfl, h1, h2, h3, h4⟩ := y
    exact ⟨T, u, v, rfl, h1, h2, h3 _ h.1, h4 _ h.2⟩
/-- what is left of a comprehension, of a for, behind its source -/
def LcRest (g : TG) (tt : TT) (te : TE) (vs : List Nat) (σ : L2.St) (Q : VK) : It → Hp → Prop := fun J H1 => tLc (fun _ _ R => R J H1) g tt te vs σ H1 Q
def tLcO (wi : TI) (g : TG) (tt : TT) (te : TE) (vs : List Nat) : TE := fun σ H Q => wi σ H (LcRest g tt te vs σ Q)
def ForRest (g : TG) (tb : TS) (D : Ends) : L2.St → It → Hp → Prop := fun σ J H1 => tFor (fun _ _ R => R J H1) g tb D σ H1
def tForO (wi : TI) (g : TG) (tb : TS) : TS := fun D σ H => wi σ H (ForRest g tb D σ)
theorem pe_lcO {X : Cx} {e : Expr} {wi : TI} {g : TG} {tt : TT} {te : TE} {vs : List Nat} (h : PE X e (tLc wi g tt te vs)) : PE X e (tLcO wi g tt te vs) := h
theorem ps_setLcO {X : Cx} {st : Stmt} {wi : TI} {g k : TG} {tt : TT} {te : TE} {vs : List Nat} (h : PS X st (tAsg (tLc wi g tt te vs) k)) : PS X st (tAsg (tLcO wi g tt te vs) k) := h
theorem ps_forO {X : Cx} {st : Stmt} {wi : TI} {g : TG} {tb : TS} (h : PS X st (tFor wi g tb)) : PS X st (tForO wi g tb) := h
/-! ### the unions within a comprehension -/
section
variable {X : Cx} {s : Shared} {H : Hp} {sc : Scope} {ce : Env} {fp : List Addr} {s' : Shared} {H' : Hp} {sc' : Scope} {ce' : Env} {fp' : List Addr}
theorem pg_tupB {es : List Expr} {k n : Nat} {pos : Pos} {t : TGs} (hc : X.calm = true) (h : PGs (X.blk s H sc ce fp) es t) (hn : (assignEach es (X.blk s H sc ce fp).env).length = n := by rfl)
    (hst : (assignEach es (X.blk s H sc ce fp).env).findIdx? (·.1) = none := by rfl) : PG (X.blk s H sc ce fp) (.Tuple es k pos) (gTup X.K n t) := pg_tup (X := X.blk s H sc ce fp) hc h hn hst
theorem opAddB : OpR (X.blk s H sc ce fp) (binaryOp .Add) (rAdd X.K) := opAdd
theorem opEqB {k : Nat} (hr : Room k X.A) : OpR (X.blk s H sc ce fp) (compareOp .Eq) (rEqA X.K) := opEq hr
theorem opNeB {k : Nat} (hr : Room k X.A) : OpR (X.blk s H sc ce fp) (compareOp .NotEq) (rNeA X.K) := opNe hr
theorem opInB : OpR (X.blk s H sc ce fp) (compareOp .In) (rInA X.K) := opIn
theorem opNotInB : OpR (X.blk s H sc ce fp) (compareOp .NotIn) (rNotInA X.K) := opNotIn
theorem ixAnyB : IxR (X.blk s H sc ce fp) (rIxA X.K X.w) := ixAny
theorem slAnyB : SlR (X.blk s H sc ce fp) (rSlAny X.K) := slAny
theorem callLenB : CallR (X.blk s H sc ce fp) (.builtin "len") (rLenA X.K) := callLen
theorem opAddBB : OpR ((X.blk s H sc ce fp).blk s' H' sc' ce' fp') (binaryOp .Add) (rAdd X.K) := opAdd
theorem opEqBB {k : Nat} (hr : Room k X.A) : OpR ((X.blk s H sc ce fp).blk s' H' sc' ce' fp') (compareOp .Eq) (rEqA X.K) := opEq hr
theorem opNeBB {k : Nat} (hr : Room k X.A) : OpR ((X.blk s H sc ce fp).blk s' H' sc' ce' fp') (compareOp .NotEq) (rNeA X.K) := opNe hr
theorem opInBB : OpR ((X.blk s H sc ce fp).blk s' H' sc' ce' fp') (compareOp .In) (rInA X.K) := opIn
theorem opNotInBB : OpR ((X.blk s H sc ce fp).blk s' H' sc' ce' fp') (compareOp .NotIn) (rNotInA X.K) := opNotIn
theorem ixAnyBB : IxR ((X.blk s H sc ce fp).blk s' H' sc' ce' fp') (rIxA X.K X.w) := ixAny
theorem slAnyBB : SlR ((X.blk s H sc ce fp).blk s' H' sc' ce' fp') (rSlAny X.K) := slAny
theorem callLenBB : CallR ((X.blk s H sc ce fp).blk s' H' sc' ce' fp') (.builtin "len") (rLenA X.K) := callLen
end
/-- a for: Pv by the turn, the slots and the heap -/
theorem frG {J : It} {n : Nat} {G : Hp → Prop} {Y : Nat → Hp → V → Hp → Prop} (w : Walk J n G Y) {g : TG} {tb : TS} {D : Ends} {σ : L2.St} {H : Hp} (Pv : Nat → L2.St → Hp → Prop) (h0 : Pv 0 σ H) (hG : ∀ i σ H, i ≤ n → Pv i σ H → G H)
    (hs : ∀ i x σ H H', i < n → Pv i σ H → Y i H x H' → g x σ H' fun σ2 H2 => tb { D with nx := Pv (i + 1), ct := Pv (i + 1), bk := D.nx } σ2 H2) (hd : ∀ σ H, Pv n σ H → D.nx σ H) : ForRest g tb D σ J H := for_it w Pv h0 hG hs hd
/-- a comprehension whose turns may give anything: Pa speaks of the turn, what has been given, and tuples -/
theorem lcG {J : It} {n : Nat} {G : Hp → Prop} {Y : Nat → Hp → V → Hp → Prop} (w : Walk J n G Y) {g : TG} {tt : TT} {te : TE} {vs : List Nat} {σ : L2.St} {H1 : Hp} {Q : VK} (hn : n ≤ 40000) (hG0 : G H1) (hGm : ∀ H H', Ex H H' → G H → G H') (hY : ∀ i H x H', Y i H x H' → Ex H H')
    (Pa : Nat → List V → Hp → Prop) (hm : ∀ i ys H H', TEx H H' → Pa i ys H → Pa i ys H') (p0 : Pa 0 [] H1)
    (hs : ∀ i x H H' ys, i < n → Ex H1 H → Y i H x H' → Pa i ys H' → ∀ (N : V → Hp → Prop) (N0 : Hp → Prop), (∀ y H4, Ex H' H4 → Pa (i + 1) (ys ++ [y]) H4 → N y H4) → (∀ H3, Ex H' H3 → Pa (i + 1) ys H3 → N0 H3) →
      g x (wipe σ vs) H' fun σ2 H2 => wipe σ2 vs = wipe σ vs ∧ tt σ2 H2 fun b H3 => if b = true then te σ2 H3 N else N0 H3)
    (k : ∀ D H2 ys, H1 D = none → Ex H1 H2 → H2 D = some (.lst ys) → ys.length ≤ n → Pa n ys H2 → Q (.ref D) H2) :
    LcRest g tt te vs σ Q J H1 := by
  intro D hD
  refine lc_it w (fun i H => ∃ ys, Ex H1 H ∧ H D = some (.lst ys) ∧ ys.length ≤ i ∧ Pa i ys H) ⟨[], Ex.new hD, upd_same, Nat.zero_le _, hm _ _ _ _ (TEx.of (Ex.new hD)) p0⟩ (fun i H hi ⟨ys, e, _⟩ => hGm _ _ e hG0) ?_ ?_
  · rintro i x H H' hi ⟨ys, e, hd, hl, hp⟩ hy
    have e' := hY _ _ _ _ hy
    refine hs i x H H' ys hi e hy (hm _ _ _ _ (TEx.of e') hp) _ _ (fun y H4 e4 p4 => ?_) (fun H3 e3 p3 => ?_)
    · have d4 := e4 _ _ (e' _ _ hd)
      refine ⟨ys, d4, sz_lt (by omega), ys ++ [y], Ex.mut ((e.trans e').trans e4) hD, upd_same, ?_, hm _ _ _ _ (TEx.lst d4) p4⟩
      rw [List.length_append]
      show ys.length + 1 ≤ i + 1
      omega
    · exact ⟨ys, (e.trans e').trans e3, e3 _ _ (e' _ _ hd), by omega, p3⟩
  · rintro H ⟨ys, e, hd, hl, hp⟩
    exact k D H ys hD e hd hl hp
theorem ex_eq {H H' : Hp} (h : H' = H) : Ex H H' := by
  subst h
  exact Ex.refl _
theorem yAt_ex {xs : List V} : ∀ i H x H', YAt xs i H x H' → Ex H H' := fun _ _ _ _ h => ex_eq h.1
theorem yFn_ex {f : Nat → V} : ∀ i H x H', YFn f i H x H' → Ex H H' := fun _ _ _ _ h => ex_eq h.1
theorem yPair_ex {xs ys : Nat → Option V} : ∀ i H x H', YPair xs ys i H x H' → Ex H H' := fun _ _ _ _ h => by
  obtain ⟨T, u, v, _, h1, rfl, _, _⟩ := h
  exact Ex.new h1
/-! ### texts by their signs -/
def cs (z : Str) : List Nat := z.cps.toList
theorem cs_ext {a b : Str} (h : cs a = cs b) : a = b := PyProof.Rows.ext_toList h
theorem cs_len (z : Str) : z.length = (cs z).length := by simp [cs, Str.length]
theorem cs_add (a b : Str) : cs (a ++ b) = cs a ++ cs b := TL.tl_append a b
theorem cs_one (c : Nat) : cs ⟨#[c]⟩ = [c] := rfl
theorem cut_from (xs : List V) (j : Nat) : cutV xs (some (j : Int)) none = xs.drop j := by
  unfold cutV
  rw [HT.sIx_nat, HT.sIx_none]
  by_cases h : j ≤ xs.length
  · rw [Nat.min_eq_left h]
    apply List.take_of_length_le
    rw [List.length_drop]
    exact Nat.le_refl _
  · rw [Nat.min_eq_right (by omega), Nat.sub_self, List.take_zero, List.drop_of_length_le (by omega)]
theorem joinL_one : ∀ l : List Nat, TL.joinL [] (l.map fun c => [c]) = l
  | [] => rfl
  | [c] => rfl
  | c :: d :: r => by
    show [c] ++ ([] ++ TL.joinL [] ((d :: r).map fun c => [c])) = c :: d :: r
    rw [joinL_one (d :: r)]
    rfl
def sgn (c : Nat) : Str := ⟨#[c]⟩
theorem sum_sgn : ∀ cr : List Nat, ((cr.map sgn).map (·.length)).sum = cr.length
  | [] => rfl
  | c :: r => by
    rw [List.map_cons, List.map_cons, List.sum_cons, sum_sgn r, List.length_cons]
    show 1 + r.length = r.length + 1
    omega
theorem join_sgn (l : List Nat) : Txt.join ("" : Str) (l.map sgn) = SX.S l := by
  have e : l.map sgn = (l.map fun c => [c]).map SX.S := by
    rw [List.map_map]
    rfl
  rw [e]
  have q := SX.join_S [] (l.map fun c => [c])
  rw [joinL_one] at q
  exact q
theorem in_strs (z : Str) : ∀ ns : List Str, inV (.str z) (ns.map V.str) = decide (z ∈ ns)
  | [] => rfl
  | n :: ns => by
    have ih := in_strs z ns
    unfold inV at ih ⊢
    rw [List.map_cons, List.any_cons, ih]
    show ((n == z) || decide (z ∈ ns)) = decide (z ∈ n :: ns)
    by_cases h : n = z
    · subst h
      simp
    · have h2 : ¬ z = n := fun e => h e.symm
      have h3 : (n == z) = false := beq_eq_false_iff_ne.mpr h
      rw [h3, Bool.false_or]
      simp [h2]
theorem flat_strs (ns : List Str) : (ns.map V.str).all flatV = true := by
  rw [List.all_eq_true]
  intro x hx
  obtain ⟨y, _, rfl⟩ := List.mem_map.mp hx
  rfl
theorem str_at {ns : List Str} {i : Nat} {x : V} (h : (ns.map V.str)[i]? = some x) : ∃ z, ns[i]? = some z ∧ x = .str z := by
  rw [List.getElem?_map] at h
  cases e : ns[i]? with
  | none => rw [e] at h; cases h
  | some z => rw [e] at h; exact ⟨z, rfl, (Option.some.inj h).symm⟩
end Own

namespace Own
open PySem PySem.Spec PyProof.Rows L2 Evl
theorem listText_le (ts : List Str) : (listText ts).length ≤ piled ts + 3 := by
  unfold listText
  rw [strLen_append]
  cases ts with
  | nil => decide
  | cons t r =>
    show (textFrom 1 (("[" : Str) ++ ("" : Str) ++ t) r).length + 1 ≤ _
    rw [textFrom_length_pos _ _ _ (by decide), piled_cons, strLen_append, strLen_append]
    show 1 + 0 + t.length + piled r + 1 ≤ _
    omega
theorem tupleText_le (ts : List Str) : (tupleText ts).length ≤ piled ts + 3 := by
  unfold tupleText
  rw [strLen_append, strLen_append]
  have e3 : (((if ts.length == 1 then ",)" else ")" : String) : Str)).length ≤ 2 := by split <;> decide
  have e1 : ((("(" : String) : Str)).length = 1 := rfl
  by_cases h : ts = []
  · subst h
    decide
  · have := join_length_add ts h
    omega
mutual
/-- no text of d is longer -/
def wt : PyData → Nat
  | .none => 4
  | .bool _ => 5
  | .int _ => 1921
  | .str x => 10 * x.length + 2
  | .list xs => wts xs + 3
  | .tuple xs => wts xs + 3
  | .dict _ => 0
def wts : List PyData → Nat
  | [] => 0
  | x :: xs => wt x + 2 + wts xs
end
mutual
theorem shown_le : ∀ d : PyData, d.canLay0 = true → d.showable = true → d.shown.length ≤ wt d
  | .none, _, _ => by decide
  | .bool b, _, _ => by cases b <;> decide
  | .int i, _, h => int_text_len_1921 (of_decide_eq_true h)
  | .str x, h, _ => by
    refine StrLaws.reprText_len x fun c hc => ?_
    have h2 : x.cps.all (· < 0x110000) = true := h
    rw [← Array.all_toList] at h2
    have q := of_decide_eq_true ((List.all_eq_true.mp h2) c hc)
    exact Nat.lt_trans q (by decide)
  | .list xs, h, h2 => by
    have q := shownAll_le xs h h2
    have z := listText_le (PyData.shownAll xs)
    show (listText (PyData.shownAll xs)).length ≤ wts xs + 3
    omega
  | .tuple xs, h, h2 => by
    have q := shownAll_le xs h h2
    have z := tupleText_le (PyData.shownAll xs)
    show (tupleText (PyData.shownAll xs)).length ≤ wts xs + 3
    omega
  | .dict _, h, _ => by cases h
theorem shownAll_le : ∀ ds : List PyData, PyData.canLayAll0 ds = true → PyData.showableAll ds = true → piled (PyData.shownAll ds) ≤ wts ds
  | [], _, _ => Nat.le_refl _
  | d :: ds, h, h2 => by
    have h' : (d.canLay0 && PyData.canLayAll0 ds) = true := h
    have h2' : (d.showable && PyData.showableAll ds) = true := h2
    rw [Bool.and_eq_true] at h' h2'
    have q1 := shown_le d h'.1 h2'.1
    have q2 := shownAll_le ds h'.2 h2'.2
    show piled (d.shown :: PyData.shownAll ds) ≤ wt d + 2 + wts ds
    rw [piled_cons]
    omega
end
/-- data that may be shown and compared -/
def fine (d : PyData) : Prop := d.canLay0 = true ∧ d.showable = true ∧ d.depth ≤ 20 ∧ wt d ≤ 16000000
theorem fine.noDict {d : PyData} (h : fine d) : d.hasDict = false := PyData.hasDict_of_canLay d h.1
theorem fine.shp {d : PyData} (h : fine d) : SeqAt.shaped d = true := by
  unfold SeqAt.shaped
  rw [h.1, Bool.true_and]
  exact decide_eq_true (Nat.le_trans h.2.2.1 (by decide))
theorem fine.len {d : PyData} (h : fine d) : d.shown.length ≤ sizeLine := Nat.le_trans (shown_le d h.1 h.2.1) (Nat.le_trans h.2.2.2 (by decide))
/-- repr of any data -/
def rReprA (K : PySem.W.Frag) : List V → Hp → VK → Prop := fun xs H Q => ∃ v d, xs = [v] ∧ Dp K H v d ∧ fine d ∧ Q (.str d.shown) H
theorem callReprA {X : Cx} {k : Nat} (hg : X.A.guards = some []) (hr : Room k X.A) : CallR X (.builtin "repr") (rReprA X.K) := by
  intro pk s τ H xs us Q I r h
  obtain ⟨v, d, rfl, hd, hf, q⟩ := h
  cases hd with
  | lst h1 h2 => exact callRepr hg hr pk s τ H _ us Q I r ⟨_, _, rfl, .lst h1 h2, hf.2.1, hf.noDict, hf.2.2.1, hf.len, q⟩
  | tup h1 h2 => exact callRepr hg hr pk s τ H _ us Q I r ⟨_, _, rfl, .tup h1 h2, hf.2.1, hf.noDict, hf.2.2.1, hf.len, q⟩
  | non =>
    obtain ⟨u, rfl, ru⟩ := vals1 r
    cases ru
    exact PySem.P.repr_of_none ⟨.str "None", H, I.tok _, ⟨_, rfl⟩, q⟩
  | bl b =>
    obtain ⟨u, rfl, ru⟩ := vals1 r
    cases ru
    exact PySem.P.repr_of_bool ⟨.str (if b then "True" else "False"), H, I.tok _, ⟨_, by cases b <;> rfl⟩, by cases b <;> exact q⟩
  | int i =>
    obtain ⟨u, rfl, t, rfl⟩ := vals1 r
    exact PySem.P.repr_of_int (of_decide_eq_true hf.2.1) ⟨.str (toString i), H, I.tok _, ⟨_, rfl⟩, q⟩
  | str x =>
    obtain ⟨u, rfl, t, rfl⟩ := vals1 r
    exact PySem.P.repr_of_str ⟨.str (reprText x), H, I.tok _, ⟨_, rfl⟩, q⟩ hf.len
def spAlike (K : PySem.W.Frag) : Sp := fun vs H Q _ => ∃ (x y : V) (d : PyData), vs = [x, y] ∧ Dp K H x d ∧ Dp K H y d ∧ fine d ∧ Q (.bl true) H
/-- bounds by parts -/
def fin (n W : Nat) (d : PyData) : Prop := d.canLay0 = true ∧ d.showable = true ∧ d.depth ≤ n ∧ wt d ≤ W
theorem fin.fine {n W : Nat} {d : PyData} (h : fin n W d) (h1 : n ≤ 20) (h2 : W ≤ 16000000) : fine d := ⟨h.1, h.2.1, Nat.le_trans h.2.2.1 h1, Nat.le_trans h.2.2.2 h2⟩
theorem fin.mono {n W n' W' : Nat} {d : PyData} (h : fin n W d) (h1 : n ≤ n') (h2 : W ≤ W') : fin n' W' d := ⟨h.1, h.2.1, Nat.le_trans h.2.2.1 h1, Nat.le_trans h.2.2.2 h2⟩
theorem fin_all {n W : Nat} : ∀ {ds : List PyData}, (∀ d ∈ ds, fin n W d) → PyData.canLayAll0 ds = true ∧ PyData.showableAll ds = true ∧ PyData.depthAll ds ≤ n ∧ wts ds ≤ ds.length * (W + 2)
  | [], _ => ⟨rfl, rfl, Nat.zero_le _, Nat.zero_le _⟩
  | d :: ds, h => by
    obtain ⟨a1, a2, a3, a4⟩ := h d List.mem_cons_self
    obtain ⟨b1, b2, b3, b4⟩ := fin_all fun x hx => h x (List.mem_cons_of_mem _ hx)
    refine ⟨?_, ?_, ?_, ?_⟩
    · show (d.canLay0 && PyData.canLayAll0 ds) = true
      rw [a1, b1]
      rfl
    · show (d.showable && PyData.showableAll ds) = true
      rw [a2, b2]
      rfl
    · show max d.depth (PyData.depthAll ds) ≤ n
      omega
    · show wt d + 2 + wts ds ≤ (ds.length + 1) * (W + 2)
      rw [Nat.add_mul]
      omega
theorem fin_list {n W m : Nat} {ds : List PyData} (h : ∀ d ∈ ds, fin n W d) (hm : ds.length ≤ m) : fin (n + 1) (m * (W + 2) + 3) (.list ds) := by
  obtain ⟨b1, b2, b3, b4⟩ := fin_all h
  refine ⟨b1, b2, Nat.succ_le_succ b3, ?_⟩
  show wts ds + 3 ≤ _
  have q := Nat.mul_le_mul_right (W + 2) hm
  omega
theorem fin_tup {n W m : Nat} {ds : List PyData} (h : ∀ d ∈ ds, fin n W d) (hm : ds.length ≤ m) : fin (n + 1) (m * (W + 2) + 3) (.tuple ds) := by
  obtain ⟨b1, b2, b3, b4⟩ := fin_all h
  refine ⟨b1, b2, Nat.succ_le_succ b3, ?_⟩
  show wts ds + 3 ≤ _
  have q := Nat.mul_le_mul_right (W + 2) hm
  omega
theorem fin_str {z : Str} {L : Nat} (h : (PyData.str z).canLay0 = true) (hl : z.length ≤ L) : fin 0 (10 * L + 2) (.str z) := by
  refine ⟨h, rfl, Nat.le_refl _, ?_⟩
  show 10 * z.length + 2 ≤ _
  omega
theorem fin_bool (b : Bool) : fin 0 5 (.bool b) := ⟨rfl, rfl, Nat.le_refl _, Nat.le_refl _⟩
theorem fin_none : fin 0 5 .none := ⟨rfl, rfl, Nat.le_refl _, by show 4 ≤ 5; decide⟩
theorem fin_int {i : Int} (h : i.natAbs.log2 < 1920) : fin 0 1921 (.int i) := ⟨rfl, decide_eq_true h, Nat.le_refl _, Nat.le_refl _⟩
/-- a text times 0 or 1 -/
def rMulS : R2 := fun x y H Q => ∃ (z : Str) (k : Bool), x = .str z ∧ y = .int (if k then 1 else 0) ∧ z.length ≤ 100000 ∧ Q (.str (if k then z else Str.empty)) H
theorem op_mulS {X : Cx} : OpR X (binaryOp .Mult) rMulS := by
  intro pk s τ H x y v u Q I rx ry h
  obtain ⟨z, k, rfl, rfl, hl, q⟩ := h
  obtain ⟨t, rfl⟩ := rx
  cases k with
  | false =>
    obtain ⟨t', rfl⟩ := ry
    exact PySem.P.mul_str_none (by decide) (by decide) ⟨.str _, H, I.tok _, ⟨_, rfl⟩, q⟩
  | true =>
    obtain ⟨t', rfl⟩ := ry
    have z : EP X pk τ Q (.str z t) s := ⟨.str _, H, I, ⟨_, rfl⟩, q⟩
    refine PySem.P.mul_str (by decide) (fun _ h => absurd h (by simp)) (fun _ h => absurd h (by simp)) ?_
    rw [if_neg (by decide), if_pos (by simp)]
    exact z
end Own

namespace Own
open PySem PySem.Spec PyProof.Rows L2 Evl
/-! ### two sources in one comprehension -/
def Lc2Rest (g : TG) (tt : TT) (wi1 : TI) (g1 : TG) (tt1 : TT) (te : TE) (vs vs1 : List Nat) (σ : L2.St) (Q : VK) : It → Hp → Prop := fun J H1 => tLc2 (fun _ _ R => R J H1) g tt wi1 g1 tt1 te vs vs1 σ H1 Q
def tLc2O (wi : TI) (g : TG) (tt : TT) (wi1 : TI) (g1 : TG) (tt1 : TT) (te : TE) (vs vs1 : List Nat) : TE := fun σ H Q => wi σ H (Lc2Rest g tt wi1 g1 tt1 te vs vs1 σ Q)
theorem pe_lc2O {X : Cx} {e : Expr} {wi wi1 : TI} {g g1 : TG} {tt tt1 : TT} {te : TE} {vs vs1 : List Nat} (h : PE X e (tLc2 wi g tt wi1 g1 tt1 te vs vs1)) : PE X e (tLc2O wi g tt wi1 g1 tt1 te vs vs1) := h
theorem ps_setLc2O {X : Cx} {st : Stmt} {wi wi1 : TI} {g g1 k : TG} {tt tt1 : TT} {te : TE} {vs vs1 : List Nat} (h : PS X st (tAsg (tLc2 wi g tt wi1 g1 tt1 te vs vs1) k)) : PS X st (tAsg (tLc2O wi g tt wi1 g1 tt1 te vs vs1) k) := h
theorem piAnyB {X : Cx} {s : Shared} {H : Hp} {sc : Scope} {ce : Env} {fp : List Addr} {tg l : Expr} {tl : TE} (hl : PE (X.blk s H sc ce fp) l tl) : PI (X.blk s H sc ce fp) tg l (iAny X.K tl) := piAny hl
/-- what is left of the second source's loop -/
def InRest (D : Addr) (Nx : Hp → Prop) (g1 : TG) (tt1 : TT) (te : TE) (vs1 : List Nat) (σ2 : L2.St) : It → Hp → Prop := fun J1 H4 => ∃ W1 : Nat → Nat → Hp → Prop, (∃ m, W1 0 m H4) ∧ ∀ j k H, W1 j k H →
  (J1.stop j H ∧ Nx H) ∨ (J1.go j H ∧ ∃ Nx1 : Hp → Prop, (∀ H', Nx1 H' → ∃ k', k' < k ∧ W1 (j + 1) k' H') ∧ ∀ x H', J1.yld j H x H' → g1 x (wipe σ2 vs1) H' fun σ3 H5 => wipe σ3 vs1 = wipe σ2 vs1 ∧ tt1 σ3 H5 fun b H6 =>
    if b = true then te σ3 H6 fun y H7 => ∃ acc, H7 D = some (.lst acc) ∧ acc.length < sizeLine ∧ Nx1 (upd H7 D (.lst (acc ++ [y]))) else Nx1 H6)
theorem inG {J1 : It} {n1 : Nat} {G1 : Hp → Prop} {Y1 : Nat → Hp → V → Hp → Prop} (w1 : Walk J1 n1 G1 Y1) {D : Addr} {Nx : Hp → Prop} {g1 : TG} {tt1 : TT} {te : TE} {vs1 : List Nat} {σ2 : L2.St} {H1 H4 : Hp} {ys : List V}
    (hD : H1 D = none) (e0 : Ex H1 H4) (hd : H4 D = some (.lst ys)) (hG1 : ∀ H, Ex H1 H → TEx H4 H → G1 H) (hY1 : ∀ i H x H', Y1 i H x H' → Ex H H') (Pb : Nat → List V → Hp → Prop) (hm : ∀ j zs H H', TEx H H' → Pb j zs H → Pb j zs H') (hl : ∀ j zs H, Pb j zs H → zs.length ≤ 40000) (p0 : Pb 0 ys H4)
    (hs : ∀ j x H5 H6 zs, j < n1 → Ex H1 H5 → TEx H4 H5 → Y1 j H5 x H6 → Pb j zs H6 → ∀ (N : V → Hp → Prop) (N1 : Hp → Prop), (∀ y H7, Ex H6 H7 → Pb (j + 1) (zs ++ [y]) H7 → N y H7) → (∀ H7, Ex H6 H7 → Pb (j + 1) zs H7 → N1 H7) →
      g1 x (wipe σ2 vs1) H6 fun σ3 H7 => wipe σ3 vs1 = wipe σ2 vs1 ∧ tt1 σ3 H7 fun b H8 => if b = true then te σ3 H8 N else N1 H8)
    (hend : ∀ zs H, Ex H1 H → TEx H4 H → H D = some (.lst zs) → Pb n1 zs H → Nx H) : InRest D Nx g1 tt1 te vs1 σ2 J1 H4 := by
  refine ⟨fun j k H => k = n1 - j ∧ j ≤ n1 ∧ ∃ zs, Ex H1 H ∧ TEx H4 H ∧ H D = some (.lst zs) ∧ Pb j zs H, ⟨n1, by simp, Nat.zero_le _, ys, e0, TEx.refl _, hd, p0⟩, ?_⟩
  rintro j k H ⟨rfl, hj, zs, e, t, d, p⟩
  have hg := hG1 H e t
  by_cases hlt : j < n1
  · refine .inr ⟨w1.goes j H hlt hg, fun H' => ∃ zs, Ex H1 H' ∧ TEx H4 H' ∧ H' D = some (.lst zs) ∧ Pb (j + 1) zs H', fun H' q => ⟨n1 - (j + 1), by omega, rfl, hlt, q⟩, fun x H' y => ?_⟩
    have hy := w1.yields j H x H' hlt hg y
    have e' := hY1 _ _ _ _ hy
    refine hs j x H H' zs hlt e t hy (hm _ _ _ _ (TEx.of e') p) _ _ (fun v H7 e7 p7 => ?_) (fun H7 e7 p7 => ?_)
    · have d7 := e7 _ _ (e' _ _ d)
      have b := hl _ _ _ p
      exact ⟨zs, d7, sz_lt (by omega), zs ++ [v], Ex.mut ((e.trans e').trans e7) hD, (t.trans (TEx.of (e'.trans e7))).trans (TEx.lst d7), upd_same, hm _ _ _ _ (TEx.lst d7) p7⟩
    · exact ⟨zs, (e.trans e').trans e7, t.trans (TEx.of (e'.trans e7)), e7 _ _ (e' _ _ d), p7⟩
  · have ej : j = n1 := by omega
    subst ej
    exact .inl ⟨w1.stops H hg, hend zs H e t d p⟩
/-- a comprehension over two sources whose turns may give anything -/
theorem lc2G {J : It} {n : Nat} {G : Hp → Prop} {Y : Nat → Hp → V → Hp → Prop} (w : Walk J n G Y) {g : TG} {tt : TT} {wi1 : TI} {g1 : TG} {tt1 : TT} {te : TE} {vs vs1 : List Nat} {σ : L2.St} {H1 : Hp} {Q : VK} (hG0 : G H1) (hGm : ∀ H H', Ex H H' → G H → G H') (hY : ∀ i H x H', Y i H x H' → Ex H H')
    (Pa : Nat → List V → Hp → Prop) (hm : ∀ i ys H H', TEx H H' → Pa i ys H → Pa i ys H') (p0 : Pa 0 [] H1)
    (hs : ∀ i x H H' ys, i < n → Ex H1 H → Y i H x H' → Pa i ys H' → ∀ (D : Addr) (Nx : Hp → Prop), H1 D = none → H' D = some (.lst ys) → (∀ zs H3, Ex H1 H3 → H3 D = some (.lst zs) → Pa (i + 1) zs H3 → Nx H3) →
      g x (wipe σ vs) H' fun σ2 H2 => wipe σ2 vs = wipe σ vs ∧ tt σ2 H2 fun b H3 => if b = true then wi1 σ2 H3 (InRest D Nx g1 tt1 te vs1 σ2) else Nx H3)
    (k : ∀ D H2 ys, H1 D = none → Ex H1 H2 → H2 D = some (.lst ys) → Pa n ys H2 → Q (.ref D) H2) : Lc2Rest g tt wi1 g1 tt1 te vs vs1 σ Q J H1 := by
  intro D hD
  refine ⟨fun i m H => m = n - i ∧ i ≤ n ∧ ∃ ys, Ex H1 H ∧ H D = some (.lst ys) ∧ Pa i ys H, ⟨n, by simp, Nat.zero_le _, [], Ex.new hD, upd_same, hm _ _ _ _ (TEx.of (Ex.new hD)) p0⟩, ?_⟩
  rintro i m H ⟨rfl, hi, ys, e, d, p⟩
  have hg := hGm _ _ e hG0
  by_cases hlt : i < n
  · refine .inr ⟨w.goes i H hlt hg, fun H' => ∃ ys, Ex H1 H' ∧ H' D = some (.lst ys) ∧ Pa (i + 1) ys H', fun H' q => ⟨n - (i + 1), by omega, rfl, hlt, q⟩, fun x H' y => ?_⟩
    have hy := w.yields i H x H' hlt hg y
    have e' := hY _ _ _ _ hy
    exact hs i x H H' ys hlt e hy (hm _ _ _ _ (TEx.of e') p) D _ hD (e' _ _ d) fun zs H3 e3 d3 p3 => ⟨zs, e3, d3, p3⟩
  · have ej : i = n := by omega
    subst ej
    exact .inl ⟨w.stops H hg, k D H ys hD e d p⟩
/-! ### xs[::s], s being 1 or -1 -/
def tDirL (K : PySem.W.Frag) (te ts : TE) : TE := fun σ H Q => te σ H fun x H1 => tPart ts σ H1 fun o H2 => ∃ (a : Addr) (xs : List V) (i : Bool), x = .ref a ∧ SqL K H2 a xs ∧ o = some (if i = true then 1 else -1) ∧ ∀ p, H2 p = none → Q (.ref p) (upd H2 p (.lst (if i = true then xs else xs.reverse)))
theorem cut_all (xs : List V) : cutV xs none none = xs := by
  unfold cutV
  rw [HT.sIx_none, HT.sIx_none, List.drop_zero, Nat.sub_zero, List.take_length]
theorem pe_dirL {X : Cx} {e es : Expr} {te ts : TE} {p3 pos : Pos} (he : PE X e te) (hs : PE X es ts)
    (hsub : ∀ (a l : Addr), subscripted (.Slice none none (some es) p3) false (.ref a) (.ref l) = operate [.ref a, .ref l] (getItem (.ref a) (.ref l)) := by intro _ _; with_unfolding_all rfl) : PE X (.Subscript e (.Slice none none (some es) p3) pos) (tDirL X.K te ts) := by
  refine ⟨fun pins s σ H Q I h => ?_⟩
  refine Subscript_ (thn (he.run pins s σ H _ I h) fun v s1 ⟨x, H1, I1, r1, q1⟩ => ?_)
  refine wpAny_Slice (thn (po_none.run pins s1 σ H1 (fun o H2 => o = none ∧ H2 = H1) I1 ⟨rfl, rfl⟩) fun vl s2 ⟨l, H2, I2, pl, el, e2⟩ => ?_)
  subst el e2
  refine thn (po_none.run pins s2 σ H2 (fun o H3 => o = none ∧ H3 = H2) I2 ⟨rfl, rfl⟩) fun vu s3 ⟨u, H3, I3, pu, eu, e3⟩ => ?_
  subst eu e3
  have hst : PO X (some es) (tPart ts) := po_some hs
  refine thn (hst.run pins s3 σ H3 _ I3 q1) fun vs s4 ⟨o, H4, I4, ps, a, xs, ib, ex, hx, eo, q⟩ => ?_
  subst ex
  cases r1
  subst eo
  have I5 : Inv X pins σ H4 { s4 with heap := s4.heap.push { cls := .type "slice", data := .fields #[vl, vu, vs] } } := I4.kept (t' := s4.toks) fun b ob q => Heap.get?_push_of_some _ q
  obtain ⟨its, r, ht, hz⟩ := I5.list hx
  have hlen := r.length
  show wpAny (model X.prog X.w) X.A (subscriptTail e (.Slice none none (some es) p3) (.ref a) (.ref s4.heap.objs.size)) (EP X pins σ Q) X.xe { s4 with heap := s4.heap.push { cls := .type "slice", data := .fields #[vl, vu, vs] } }
  refine tail_any (ops := [.ref a, .ref s4.heap.objs.size]) ht.isList.typeIs (PySem.slot_list_getitem.lookup) ?_ (hsub _ _)
  cases ib with
  | true =>
    simp only [if_true] at q ps ⊢
    refine wpAny_getItem_list_slice ht.isList (Heap.IsSliceOf.new _ vl vu vs) pl pu ps (by decide) ?_ (by rw [List.size_toArray]; omega)
    rw [show slicePick its.toArray none none (some 1) = slicePick its.toArray none none none from rfl, slicePick_cut, HT.sIx_none, HT.sIx_none, List.drop_zero, Nat.sub_zero, List.take_length]
    exact ⟨.ref _, _, I5.laid (t' := s4.toks) (o := .lst xs) (fun b ob q => Heap.get?_push_of_some _ q) (Nat.le_refl _) ⟨hz, _, 0, r, Heap.get?_push_size _ rfl⟩, rfl, q _ (I5.hok.fresh (Nat.le_refl _))⟩
  | false =>
    simp only [Bool.false_eq_true, if_false] at q ps ⊢
    refine wpAny_getItem_list_slice ht.isList (Heap.IsSliceOf.new _ vl vu vs) pl pu ps (by decide) ?_ (by rw [List.size_toArray]; omega)
    rw [PySem.W.krv_pick]
    exact ⟨.ref _, _, I5.laid (t' := s4.toks) (o := .lst xs.reverse) (fun b ob q => Heap.get?_push_of_some _ q) (Nat.le_refl _) ⟨by rw [List.length_reverse]; exact hz, _, 0, r.reverse, Heap.get?_push_size _ rfl⟩, rfl, q _ (I5.hok.fresh (Nat.le_refl _))⟩
theorem ifT {b : Bool} {p q : Prop} (h : b = true) (x : p) : if b = true then p else q := by
  rw [h]
  exact iteT x
theorem ifF {b : Bool} {p q : Prop} (h : b = false) (x : q) : if b = true then p else q := by
  rw [h]
  exact iteF x
theorem cut_to (xs : List V) (j : Nat) : cutV xs none (some (j : Int)) = xs.take j := by
  unfold cutV
  rw [HT.sIx_nat, HT.sIx_none, List.drop_zero, Nat.sub_zero]
  by_cases h : j ≤ xs.length
  · rw [Nat.min_eq_left h]
  · rw [Nat.min_eq_right (by omega), List.take_of_length_le (Nat.le_refl _), List.take_of_length_le (by omega)]
/-! ### repr of a dict of texts and ints -/
def kvV (p : Str × Int) : Key × V := (Sum.inr p.1, .int p.2)
def kvP (p : Str × Int) : PyData × PyData := (.str p.1, .int p.2)
def dcD (kv : List (Str × Int)) : PyData := .dict (kv.map kvP)
theorem dc_reads {P : Program} {w : World} {h : Heap} : ∀ {kv : List (Str × Int)} {us : List (Key × Value)} {es : List DictEntry}, KV (kv.map kvV) us → Pairs (mixKind P w) es us →
    ReadsAll h (es.map (·.key)) ((kv.map kvP).map (·.1)) [] ∧ ReadsAll h (es.map (·.val)) ((kv.map kvP).map (·.2)) []
  | [], _, _, .nil, .nil => ⟨.nil, .nil⟩
  | p :: kv, u :: us, e :: es, .cons a b, .cons c d f => by
    obtain ⟨q1, q2⟩ := dc_reads b f
    obtain ⟨a1, t, a2⟩ := a
    have a1 : Sum.inr p.1 = u.1 := a1
    rcases keyIs_shape (show keyIs u.1 e.key = true from c) with ⟨i, t', e1, e2⟩ | ⟨x, t', e1, e2⟩
    · rw [← a1] at e1
      cases e1
    · rw [← a1] at e1
      cases e1
      refine ⟨?_, ?_⟩
      · show ReadsAll h (e.key :: es.map (·.key)) (PyData.str p.1 :: (kv.map kvP).map (·.1)) ([] ++ [])
        rw [e2]
        exact .cons (.str _ _) q1
      · show ReadsAll h (e.val :: es.map (·.val)) (PyData.int p.2 :: (kv.map kvP).map (·.2)) ([] ++ [])
        rw [d, a2]
        exact .cons (.int _ _) q2
def kvOk (p : Str × Int) : Prop := (PyData.str p.1).canLay0 = true ∧ p.1.length ≤ 100 ∧ p.2.natAbs.log2 < 1920
theorem dc_depth : ∀ kv : List (Str × Int), PyData.depthKv (kv.map kvP) = 0
  | [] => rfl
  | p :: kv => by
    show max (max 0 0) (PyData.depthKv (kv.map kvP)) = 0
    rw [dc_depth kv]
    rfl
theorem dc_show : ∀ {kv : List (Str × Int)}, (∀ p ∈ kv, kvOk p) → PyData.showableKv (kv.map kvP) = true ∧ ((PyData.shownKv (kv.map kvP)).map (·.length)).sum ≤ kv.length * 3000 ∧ (PyData.shownKv (kv.map kvP)).length = kv.length
  | [], _ => ⟨rfl, Nat.le_refl _, rfl⟩
  | p :: kv, h => by
    obtain ⟨a1, a2, a3⟩ := dc_show fun q hq => h q (List.mem_cons_of_mem _ hq)
    obtain ⟨b1, b2, b3⟩ := h p List.mem_cons_self
    have s1 := shown_le (.str p.1) b1 rfl
    have s2 := shown_le (.int p.2) rfl (decide_eq_true b3)
    have s1 : (PyData.shown (.str p.1)).length ≤ 10 * p.1.length + 2 := s1
    have s2 : (PyData.shown (.int p.2)).length ≤ 1921 := s2
    refine ⟨?_, ?_, ?_⟩
    · show ((PyData.str p.1).showable && (PyData.int p.2).showable && PyData.showableKv (kv.map kvP)) = true
      rw [a1, show (PyData.str p.1).showable = true from rfl, show (PyData.int p.2).showable = true from decide_eq_true b3]
      rfl
    · show ((PyData.shownKv ((PyData.str p.1, PyData.int p.2) :: kv.map kvP)).map (·.length)).sum ≤ (kv.length + 1) * 3000
      rw [PyData.shownKv_cons, List.map_cons, List.sum_cons, strLen_append, strLen_append]
      have : (": " : Str).length = 2 := rfl
      omega
    · show (PyData.shownKv ((PyData.str p.1, PyData.int p.2) :: kv.map kvP)).length = kv.length + 1
      rw [PyData.shownKv_cons, List.length_cons, a3]
def rReprK : List V → Hp → VK → Prop := fun xs H Q => ∃ (a : Addr) (kv : List (Str × Int)), xs = [.ref a] ∧ H a = some (.dK (kv.map kvV)) ∧ (∀ p ∈ kv, kvOk p) ∧ kv.length ≤ 1000 ∧ Q (.str (dcD kv).shown) H
theorem callReprK {X : Cx} {k : Nat} (hg : X.A.guards = some []) (hr : Room k X.A) : CallR X (.builtin "repr") rReprK := by
  intro pk s τ H xs us Q I r h
  obtain ⟨a, kv, rfl, ha, hok, hl, q⟩ := h
  rw [Vals.ref1 r]
  obtain ⟨hz, hsm, vs, rel, o, es, ep, ho, hex, hdat, hko, hp, hn⟩ := dk_of I.hok ha
  obtain ⟨r1, r2⟩ := dc_reads (h := s.heap) rel hp
  obtain ⟨s1, s2, s3⟩ := dc_show hok
  have rd : Reads s.heap (.ref a) (dcD kv) (a :: [] ++ []) := Reads.dict ho hex.1 hdat r1 r2
  have hu := hr.units
  have hlen : (dcD kv).shown.length ≤ sizeLine := by
    show (dictText (PyData.shownKv (kv.map kvP))).length ≤ sizeLine
    have z := dictText_len_le (PyData.shownKv (kv.map kvP))
    rw [s3] at z
    have := line63
    have z2 : (dictText (PyData.shownKv (kv.map kvP))).length ≤ 4000000 := by
      have := Nat.mul_le_mul_right 3000 hl
      omega
    exact Nat.le_trans z2 (by decide)
  have hdep : (dcD kv).depth = 1 := by
    show PyData.depthKv (kv.map kvP) + 1 = 1
    rw [dc_depth]
  refine repr_of_reads' rd s1 (fun _ hm => ?_) hg (by omega) (fun _ _ e => e) (fun h' u tk hkp => ⟨.str (dcD kv).shown, H, I.kept (h' := h') (t' := tk) hkp, ⟨_, rfl⟩, q⟩) hlen
  have hm : sysModules ∈ [a] := hm
  rw [List.mem_singleton] at hm
  rw [← hm] at hsm
  exact absurd hsm (by decide)
end Own

namespace Own
open PySem PySem.Spec PyProof.Rows L2 Evl
/-! ### values of all kinds -/
mutual
/-- data that is tracked; dicts of texts and ints may stand in it -/
inductive Da (H : Hp) : V → PyData → Prop
  | non : Da H .non .none
  | bl (b : Bool) : Da H (.bl b) (.bool b)
  | int (i : Int) : Da H (.int i) (.int i)
  | str (z : Str) : Da H (.str z) (.str z)
  | lst {a : Addr} {xs : List V} {ds : List PyData} : H a = some (.lst xs) → DaAll H xs ds → Da H (.ref a) (.list ds)
  | tup {a : Addr} {xs : List V} {ds : List PyData} : H a = some (.tup xs) → DaAll H xs ds → Da H (.ref a) (.tuple ds)
  | dct {a : Addr} {kv : List (Str × Int)} {ks : List (PyData × PyData)} : H a = some (.dK (kv.map kvV)) → ks = kv.map kvP → Da H (.ref a) (.dict ks)
inductive DaAll (H : Hp) : List V → List PyData → Prop
  | nil : DaAll H [] []
  | cons {v : V} {vs : List V} {d : PyData} {ds : List PyData} : Da H v d → DaAll H vs ds → DaAll H (v :: vs) (d :: ds)
end
mutual
theorem Da.ex {H H' : Hp} (e : Ex H H') : ∀ (d : PyData) {v : V}, Da H v d → Da H' v d
  | .none, _, h => by cases h; exact .non
  | .bool _, _, h => by cases h; exact .bl _
  | .int _, _, h => by cases h; exact .int _
  | .str _, _, h => by cases h; exact .str _
  | .list ds, _, h => by
    cases h with
    | lst h1 h2 => exact .lst (e _ _ h1) (DaAll.ex e ds h2)
  | .tuple ds, _, h => by
    cases h with
    | tup h1 h2 => exact .tup (e _ _ h1) (DaAll.ex e ds h2)
  | .dict _, _, h => by
    cases h with
    | dct h1 h2 => exact .dct (e _ _ h1) h2
theorem DaAll.ex {H H' : Hp} (e : Ex H H') : ∀ (ds : List PyData) {vs : List V}, DaAll H vs ds → DaAll H' vs ds
  | [], _, h => by cases h; exact .nil
  | d :: ds, _, h => by
    cases h with
    | cons h1 h2 => exact .cons (Da.ex e d h1) (DaAll.ex e ds h2)
end
theorem DaAll.len {H : Hp} : ∀ {vs : List V} {ds : List PyData}, DaAll H vs ds → vs.length = ds.length
  | _, _, .nil => rfl
  | _, _, .cons _ h => by rw [List.length_cons, List.length_cons, h.len]
theorem DaAll.at {H : Hp} : ∀ {vs : List V} {ds : List PyData} {i : Nat} {v : V}, DaAll H vs ds → vs[i]? = some v → ∃ d, ds[i]? = some d ∧ Da H v d
  | _, _, _, _, .nil, e => by simp at e
  | _, _, 0, _, .cons h _, e => by cases e; exact ⟨_, rfl, h⟩
  | _, _, i + 1, _, .cons _ h, e => DaAll.at (i := i) h e
theorem DaAll.at2 {H : Hp} : ∀ {vs : List V} {ds : List PyData} {i : Nat} {d : PyData}, DaAll H vs ds → ds[i]? = some d → ∃ v, vs[i]? = some v ∧ Da H v d
  | _, _, _, _, .nil, e => by simp at e
  | _, _, 0, _, .cons h _, e => by cases e; exact ⟨_, rfl, h⟩
  | _, _, i + 1, _, .cons _ h, e => DaAll.at2 (i := i) h e
theorem DaAll.app {H : Hp} : ∀ {vs ws : List V} {ds es : List PyData}, DaAll H vs ds → DaAll H ws es → DaAll H (vs ++ ws) (ds ++ es)
  | _, _, _, _, .nil, k => k
  | _, _, _, _, .cons h t, k => .cons h (t.app k)
theorem DaAll.take {H : Hp} : ∀ {vs : List V} {ds : List PyData} (n : Nat), DaAll H vs ds → DaAll H (vs.take n) (ds.take n)
  | _, _, 0, _ => .nil
  | _, _, _ + 1, .nil => .nil
  | _, _, n + 1, .cons h t => .cons h (t.take n)
theorem DaAll.drop {H : Hp} : ∀ {vs : List V} {ds : List PyData} (n : Nat), DaAll H vs ds → DaAll H (vs.drop n) (ds.drop n)
  | _, _, 0, h => h
  | _, _, _ + 1, .nil => .nil
  | _, _, n + 1, .cons _ t => t.drop n
theorem DaAll.put {H : Hp} {v : V} {d : PyData} (hv : Da H v d) : ∀ {vs : List V} {ds : List PyData} {i : Nat}, DaAll H vs ds → DaAll H (vs.set i v) (ds.set i d)
  | _, _, _, .nil => .nil
  | _, _, 0, .cons _ t => .cons hv t
  | _, _, i + 1, .cons h t => .cons h (DaAll.put hv (i := i) t)
theorem DaAll.snoc {H : Hp} {v : V} {d : PyData} {vs : List V} {ds : List PyData} (h : DaAll H vs ds) (hv : Da H v d) : DaAll H (vs ++ [v]) (ds ++ [d]) := h.app (.cons hv .nil)
/-! kinds -/
def tyD : PyData → String
  | .none => "NoneType"
  | .bool _ => "bool"
  | .int _ => "int"
  | .str _ => "str"
  | .list _ => "list"
  | .tuple _ => "tuple"
  | .dict _ => "dict"
theorem Da.ty {K : PySem.W.Frag} {H : Hp} {v : V} {d : PyData} (h : Da H v d) : TyX K H v (.type (tyD d)) := by
  cases h with
  | non => exact .base .non
  | bl b => exact .base (.bl b)
  | int i => exact .base (.int i)
  | str z => exact .base (.str z)
  | lst h1 h2 => exact .base (.lst h1)
  | tup h1 h2 => exact .base (.tup h1)
  | dct h1 h2 => exact .base (.dK h1)
def isStrD : PyData → Bool | .str _ => true | _ => false
def isTupD : PyData → Bool | .tuple _ => true | _ => false
def isLstD : PyData → Bool | .list _ => true | _ => false
def isBoolD : PyData → Bool | .bool _ => true | _ => false
def isIntD : PyData → Bool | .int _ => true | .bool _ => true | _ => false
theorem kit7 {T : String} {a b c e f g i : Bool} (h1 : kitB "NoneType" T = some a) (h2 : kitB "bool" T = some b) (h3 : kitB "int" T = some c) (h4 : kitB "str" T = some e) (h5 : kitB "list" T = some f) (h6 : kitB "tuple" T = some g) (h7 : kitB "dict" T = some i)
    {p : PyData → Bool} (q1 : p .none = a) (q2 : ∀ x, p (.bool x) = b) (q3 : ∀ x, p (.int x) = c) (q4 : ∀ x, p (.str x) = e) (q5 : ∀ x, p (.list x) = f) (q6 : ∀ x, p (.tuple x) = g) (q7 : ∀ x, p (.dict x) = i) : ∀ d, kitB (tyD d) T = some (p d)
  | .none => by rw [q1]; exact h1
  | .bool x => by rw [q2]; exact h2
  | .int x => by rw [q3]; exact h3
  | .str x => by rw [q4]; exact h4
  | .list x => by rw [q5]; exact h5
  | .tuple x => by rw [q6]; exact h6
  | .dict x => by rw [q7]; exact h7
theorem kit_str : ∀ d, kitB (tyD d) "str" = some (isStrD d) := kit7 (a := false) (b := false) (c := false) (e := true) (f := false) (g := false) (i := false) (by decide +kernel) (by decide +kernel) (by decide +kernel) (by decide +kernel) (by decide +kernel) (by decide +kernel) (by decide +kernel) rfl (fun _ => rfl) (fun _ => rfl) (fun _ => rfl) (fun _ => rfl) (fun _ => rfl) (fun _ => rfl)
theorem kit_tuple : ∀ d, kitB (tyD d) "tuple" = some (isTupD d) := kit7 (a := false) (b := false) (c := false) (e := false) (f := false) (g := true) (i := false) (by decide +kernel) (by decide +kernel) (by decide +kernel) (by decide +kernel) (by decide +kernel) (by decide +kernel) (by decide +kernel) rfl (fun _ => rfl) (fun _ => rfl) (fun _ => rfl) (fun _ => rfl) (fun _ => rfl) (fun _ => rfl)
theorem kit_list : ∀ d, kitB (tyD d) "list" = some (isLstD d) := kit7 (a := false) (b := false) (c := false) (e := false) (f := true) (g := false) (i := false) (by decide +kernel) (by decide +kernel) (by decide +kernel) (by decide +kernel) (by decide +kernel) (by decide +kernel) (by decide +kernel) rfl (fun _ => rfl) (fun _ => rfl) (fun _ => rfl) (fun _ => rfl) (fun _ => rfl) (fun _ => rfl)
theorem kit_bool : ∀ d, kitB (tyD d) "bool" = some (isBoolD d) := kit7 (a := false) (b := true) (c := false) (e := false) (f := false) (g := false) (i := false) (by decide +kernel) (by decide +kernel) (by decide +kernel) (by decide +kernel) (by decide +kernel) (by decide +kernel) (by decide +kernel) rfl (fun _ => rfl) (fun _ => rfl) (fun _ => rfl) (fun _ => rfl) (fun _ => rfl) (fun _ => rfl)
theorem kit_int : ∀ d, kitB (tyD d) "int" = some (isIntD d) := kit7 (a := false) (b := true) (c := true) (e := false) (f := false) (g := false) (i := false) (by decide +kernel) (by decide +kernel) (by decide +kernel) (by decide +kernel) (by decide +kernel) (by decide +kernel) (by decide +kernel) rfl (fun _ => rfl) (fun _ => rfl) (fun _ => rfl) (fun _ => rfl) (fun _ => rfl) (fun _ => rfl)
section
variable {K : PySem.W.Frag} {H : Hp} {v : V} {d : PyData} {Q : VK}
theorem isi_str (h : Da H v d) (q : Q (.bl (isStrD d)) H) : rIsi K [v, .ty "str"] H Q :=
  ⟨v, .ty "str", _, _, isStrD d, rfl, .ty _, h.ty, kit_ty (kit_str d), q⟩
theorem isi_tup (h : Da H v d) (q : Q (.bl (isTupD d)) H) : rIsi K [v, .ty "tuple"] H Q :=
  ⟨v, .ty "tuple", _, _, isTupD d, rfl, .ty _, h.ty, kit_ty (kit_tuple d), q⟩
theorem isi_lst (h : Da H v d) (q : Q (.bl (isLstD d)) H) : rIsi K [v, .ty "list"] H Q :=
  ⟨v, .ty "list", _, _, isLstD d, rfl, .ty _, h.ty, kit_ty (kit_list d), q⟩
theorem isi_bool (h : Da H v d) (q : Q (.bl (isBoolD d)) H) : rIsi K [v, .ty "bool"] H Q :=
  ⟨v, .ty "bool", _, _, isBoolD d, rfl, .ty _, h.ty, kit_ty (kit_bool d), q⟩
theorem isi_int (h : Da H v d) (q : Q (.bl (isIntD d)) H) : rIsi K [v, .ty "int"] H Q :=
  ⟨v, .ty "int", _, _, isIntD d, rfl, .ty _, h.ty, kit_ty (kit_int d), q⟩
theorem isi_two {a b : String} {r1 r2 : Bool} {tp : Addr} (h : Da H v d) (ht : H tp = some (.tup [.ty a, .ty b])) (h1 : PySem.W.kitOne K (.type (tyD d)) (.type a) = some r1) (h2 : PySem.W.kitOne K (.type (tyD d)) (.type b) = some r2) (q : Q (.bl (r1 || r2)) H) : rIsiT K [v, .ref tp] H Q := by
  refine ⟨v, tp, _, _, [.type a, .type b], r1 || r2, rfl, ht, .cons (.ty _) (.cons (.ty _) .nil), h.ty, ?_, q⟩
  refine kitAny_cons h1 (fun e => ?_) (fun e => by rw [e]; rfl)
  rw [e, Bool.false_or]
  exact kitAny_cons h2 (fun e => by rw [e]; exact kitAny_nil) (fun e => by rw [e])
theorem isi_tl {tp : Addr} (h : Da H v d) (ht : H tp = some (.tup [.ty "tuple", .ty "list"])) (q : Q (.bl (isTupD d || isLstD d)) H) : rIsiT K [v, .ref tp] H Q :=
  isi_two h ht (r1 := isTupD d) (r2 := isLstD d) (kit_ty (kit_tuple d)) (kit_ty (kit_list d)) q
theorem isi_lt {tp : Addr} (h : Da H v d) (ht : H tp = some (.tup [.ty "list", .ty "tuple"])) (q : Q (.bl (isLstD d || isTupD d)) H) : rIsiT K [v, .ref tp] H Q :=
  isi_two h ht (r1 := isLstD d) (r2 := isTupD d) (kit_ty (kit_list d)) (kit_ty (kit_tuple d)) q
end
/-! a list beside the empty one -/
def rEq0 (K : PySem.W.Frag) : R2 := fun x y H Q => ∃ (a b : Addr) (xs : List V), x = .ref a ∧ y = .ref b ∧ SqL K H a xs ∧ SqL K H b [] ∧ Q (.bl xs.isEmpty) H
def rNe0 (K : PySem.W.Frag) : R2 := fun x y H Q => ∃ (a b : Addr) (xs : List V), x = .ref a ∧ y = .ref b ∧ SqL K H a xs ∧ SqL K H b [] ∧ Q (.bl (!xs.isEmpty)) H
theorem op_eq0 {X : Cx} {k : Nat} (hr : Room k X.A) : OpR X (compareOp .Eq) (rEq0 X.K) := by
  intro pk s τ H x y v u Q I rx ry h
  obtain ⟨a, b, xs, rfl, rfl, h1, h2, q⟩ := h
  cases rx
  cases ry
  obtain ⟨its, r, pl, hz⟩ := I.list h1
  obtain ⟨its2, r2, pl2, hz2⟩ := I.list h2
  cases r2
  have hu : X.A.units < cLine := by
    have := hr.units
    omega
  have hlen := r.length
  cases xs with
  | nil =>
    cases r
    exact SeqAt.eq_listAt (e := fun _ => true) pl.isList pl2.isList rfl hu (fun j h1 => absurd h1 (by simp)) ⟨.bl true, H, I, rfl, q⟩
  | cons z zs =>
    refine SeqAt.eq_list_lengthsAt pl.isList pl2.isList ?_ hu ⟨.bl false, H, I, rfl, q⟩
    rw [List.length_cons] at hlen
    simp only [List.size_toArray, List.length_nil, bne_iff_ne, ne_eq]
    omega
theorem op_ne0 {X : Cx} {k : Nat} (hr : Room k X.A) : OpR X (compareOp .NotEq) (rNe0 X.K) := by
  intro pk s τ H x y v u Q I rx ry h
  obtain ⟨a, b, xs, rfl, rfl, h1, h2, q⟩ := h
  cases rx
  cases ry
  obtain ⟨its, r, pl, hz⟩ := I.list h1
  obtain ⟨its2, r2, pl2, hz2⟩ := I.list h2
  cases r2
  have hu : X.A.units < cLine := by
    have := hr.units
    omega
  have hlen := r.length
  cases xs with
  | nil =>
    cases r
    exact SeqAt.RcNeAt.lists (e := fun _ => true) pl.isList pl2.isList rfl hu (fun j h1 => absurd h1 (by simp)) _ _ _ _ ⟨.bl false, H, I, rfl, q⟩
  | cons z zs =>
    refine SeqAt.RcNeAt.lists_lengths pl.isList pl2.isList ?_ hu _ _ _ _ ⟨.bl true, H, I, rfl, q⟩
    rw [List.length_cons] at hlen
    simp only [List.size_toArray, List.length_nil, bne_iff_ne, ne_eq]
    omega
theorem op_eq0B {X : Cx} {k : Nat} {s : Shared} {H : Hp} {sc : Scope} {ce : Env} {fp : List Addr} (hr : Room k X.A) : OpR (X.blk s H sc ce fp) (compareOp .Eq) (rEq0 X.K) := op_eq0 hr
theorem op_ne0B {X : Cx} {k : Nat} {s : Shared} {H : Hp} {sc : Scope} {ce : Env} {fp : List Addr} (hr : Room k X.A) : OpR (X.blk s H sc ce fp) (compareOp .NotEq) (rNe0 X.K) := op_ne0 hr
/-! sizes -/
mutual
def gD : PyData → Bool
  | .none => true
  | .bool _ => true
  | .int i => decide (i.natAbs.log2 < 1920)
  | .str x => x.cps.all (· < 0x110000)
  | .list xs => gDs xs
  | .tuple xs => gDs xs
  | .dict ks => gDk ks
def gDs : List PyData → Bool
  | [] => true
  | x :: xs => gD x && gDs xs
def gDk : List (PyData × PyData) → Bool
  | [] => true
  | (k, v) :: r => gD k && (gD v && gDk r)
end
mutual
/-- no text of d is longer -/
def wd : PyData → Nat
  | .none => 5
  | .bool _ => 5
  | .int _ => 1921
  | .str x => 10 * x.length + 5
  | .list xs => wds xs + 3
  | .tuple xs => wds xs + 3
  | .dict ks => wdk ks + 3
def wds : List PyData → Nat
  | [] => 0
  | x :: xs => wd x + 2 + wds xs
def wdk : List (PyData × PyData) → Nat
  | [] => 0
  | (k, v) :: r => wd k + wd v + 4 + wdk r
end
theorem str_wd {x : Str} (h : x.cps.all (· < 0x110000) = true) : (PyData.shown (.str x)).length ≤ 10 * x.length + 5 := by
  have z : (PyData.shown (.str x)).length ≤ 10 * x.length + 2 := by
    refine StrLaws.reprText_len x fun c hc => ?_
    rw [← Array.all_toList] at h
    have q := of_decide_eq_true ((List.all_eq_true.mp h) c hc)
    exact Nat.lt_trans q (by decide)
  omega
mutual
theorem shownD : ∀ d : PyData, gD d = true → d.showable = true ∧ d.shown.length ≤ wd d
  | .none, _ => ⟨rfl, by decide⟩
  | .bool b, _ => ⟨rfl, by cases b <;> decide⟩
  | .int i, h => ⟨h, int_text_len_1921 (of_decide_eq_true h)⟩
  | .str x, h => ⟨rfl, str_wd h⟩
  | .list xs, h => by
    obtain ⟨q1, q2⟩ := shownDs xs h
    have z := listText_le (PyData.shownAll xs)
    refine ⟨q1, ?_⟩
    show (listText (PyData.shownAll xs)).length ≤ wds xs + 3
    omega
  | .tuple xs, h => by
    obtain ⟨q1, q2⟩ := shownDs xs h
    have z := tupleText_le (PyData.shownAll xs)
    refine ⟨q1, ?_⟩
    show (tupleText (PyData.shownAll xs)).length ≤ wds xs + 3
    omega
  | .dict ks, h => by
    obtain ⟨q1, q2⟩ := shownDk ks h
    refine ⟨q1, ?_⟩
    show (dictText (PyData.shownKv ks)).length ≤ wdk ks + 3
    have z := dictText_len_le (PyData.shownKv ks)
    omega
theorem shownDs : ∀ ds : List PyData, gDs ds = true → PyData.showableAll ds = true ∧ piled (PyData.shownAll ds) ≤ wds ds
  | [], _ => ⟨rfl, Nat.le_refl _⟩
  | d :: ds, h => by
    have h' : (gD d && gDs ds) = true := h
    rw [Bool.and_eq_true] at h'
    obtain ⟨a1, a2⟩ := shownD d h'.1
    obtain ⟨b1, b2⟩ := shownDs ds h'.2
    refine ⟨?_, ?_⟩
    · show (d.showable && PyData.showableAll ds) = true
      rw [a1, b1]
      rfl
    · show piled (d.shown :: PyData.shownAll ds) ≤ wd d + 2 + wds ds
      rw [piled_cons]
      omega
theorem shownDk : ∀ ks : List (PyData × PyData), gDk ks = true → PyData.showableKv ks = true ∧ ((PyData.shownKv ks).map (·.length)).sum + 2 * (PyData.shownKv ks).length ≤ wdk ks
  | [], _ => ⟨rfl, Nat.le_refl _⟩
  | (k, v) :: r, h => by
    have h' : (gD k && (gD v && gDk r)) = true := h
    rw [Bool.and_eq_true, Bool.and_eq_true] at h'
    obtain ⟨a1, a2⟩ := shownD k h'.1
    obtain ⟨b1, b2⟩ := shownD v h'.2.1
    obtain ⟨c1, c2⟩ := shownDk r h'.2.2
    refine ⟨?_, ?_⟩
    · show (k.showable && v.showable && PyData.showableKv r) = true
      rw [a1, b1, c1]
      rfl
    · rw [PyData.shownKv_cons, List.map_cons, List.sum_cons, List.length_cons, strLen_append, strLen_append]
      show _ ≤ wd k + wd v + 4 + wdk r
      have : (": " : Str).length = 2 := rfl
      omega
end
end Own

namespace Own
open PySem PySem.Spec PyProof.Rows L2 Evl
/-- the base knows the table of modules (so no tracked list lies there) -/
def SysAt (base : Heap) : Prop := ∃ mm, base.Ns sysModules mm
section
variable {X : Cx} {pins : List (Addr × Obj)} {σ : L2.St} {H : Hp} {s : Shared}
theorem not_sys (I : Inv X pins σ H s) (hs : SysAt X.base) {a : Addr} {o : Obj} {vs : Array Value} {n : Nat} (h : s.heap.get? a = some o) (hd : o.data = .seq vs n) : a ≠ sysModules := by
  intro e
  subst e
  obtain ⟨mm, o2, es, ep, h2, hd2, _⟩ := hs
  have h3 := I.bk _ _ h2
  rw [h] at h3
  cases h3
  rw [hd] at hd2
  cases hd2
mutual
theorem Da.reads (I : Inv X pins σ H s) (hs : SysAt X.base) : ∀ (d : PyData) (v : V) (u : Value), Da H v d → RelV v u → ∃ as, Reads s.heap u d as ∧ sysModules ∉ as
  | .none, _, _, h, r => by
    cases h
    cases r
    exact ⟨_, Reads.none, by simp⟩
  | .bool b, _, _, h, r => by
    cases h
    cases r
    exact ⟨_, Reads.bool b, by simp⟩
  | .int i, _, _, h, r => by
    cases h
    obtain ⟨t, rfl⟩ := r
    exact ⟨_, Reads.int i t, by simp⟩
  | .str x, _, _, h, r => by
    cases h
    obtain ⟨t, rfl⟩ := r
    exact ⟨_, Reads.str x t, by simp⟩
  | .list ds, _, _, h, r => by
    cases h with
    | lst hh ha =>
      cases r
      obtain ⟨its, rv, ⟨o, n, ho, hc, _, hd⟩, _⟩ := I.list (sq_of hh)
      obtain ⟨as, hr, hn⟩ := DaAll.reads I hs ds _ its ha rv
      refine ⟨_, Reads.list ho hc hd hr, ?_⟩
      rw [List.mem_cons, not_or]
      exact ⟨(not_sys I hs ho hd).symm, hn⟩
  | .tuple ds, _, _, h, r => by
    cases h with
    | tup hh ha =>
      cases r
      obtain ⟨its, rv, ⟨o, ho, hc, n, hd⟩, _⟩ := I.tuple (st_of hh)
      obtain ⟨as, hr, hn⟩ := DaAll.reads I hs ds _ its ha rv
      exact ⟨_, Reads.tuple ho hc hd hr, hn⟩
  | .dict ks, _, _, h, r => by
    cases h with
    | dct hh e =>
      cases r
      obtain ⟨hz, hsm, vs, rel, o, es, ep, ho, hex, hdat, hko, hp, hn⟩ := dk_of I.hok hh
      obtain ⟨r1, r2⟩ := dc_reads (h := s.heap) rel hp
      subst e
      refine ⟨_, Reads.dict ho hex.1 hdat r1 r2, ?_⟩
      intro hm
      have hm : sysModules ∈ [_] := hm
      rw [List.mem_singleton] at hm
      rw [← hm] at hsm
      exact absurd hsm (by decide)
theorem DaAll.reads (I : Inv X pins σ H s) (hs : SysAt X.base) : ∀ (ds : List PyData) (vs : List V) (us : List Value), DaAll H vs ds → Vals vs us → ∃ as, ReadsAll s.heap us ds as ∧ sysModules ∉ as
  | [], _, _, h, r => by
    cases h
    cases r
    exact ⟨_, ReadsAll.nil, by simp⟩
  | d :: ds, _, _, h, r => by
    cases h with
    | cons h1 h2 =>
      cases r with
      | cons r1 r2 =>
        obtain ⟨as, q1, n1⟩ := Da.reads I hs d _ _ h1 r1
        obtain ⟨bs, q2, n2⟩ := DaAll.reads I hs ds _ _ h2 r2
        refine ⟨_, ReadsAll.cons q1 q2, ?_⟩
        rw [List.mem_append, not_or]
        exact ⟨n1, n2⟩
end
end
/-- data that may be shown -/
def okD (n W : Nat) (d : PyData) : Prop := gD d = true ∧ d.depth ≤ n ∧ wd d ≤ W
theorem okD.mono {n W n' W' : Nat} {d : PyData} (h : okD n W d) (h1 : n ≤ n') (h2 : W ≤ W') : okD n' W' d := ⟨h.1, Nat.le_trans h.2.1 h1, Nat.le_trans h.2.2 h2⟩
def rReprX : List V → Hp → VK → Prop := fun xs H Q => ∃ v d, xs = [v] ∧ Da H v d ∧ okD 40 16000000 d ∧ Q (.str d.shown) H
theorem callReprX {X : Cx} {k : Nat} (hs : SysAt X.base) (hg : X.A.guards = some []) (hr : Room k X.A) : CallR X (.builtin "repr") rReprX := by
  intro pk s τ H xs us Q I r h
  obtain ⟨v, d, rfl, hd, ⟨g1, g2, g3⟩, q⟩ := h
  obtain ⟨s1, s2⟩ := shownD d g1
  have hlen : d.shown.length ≤ sizeLine := Nat.le_trans s2 (Nat.le_trans g3 (by decide))
  have hu := hr.units
  obtain ⟨u, eu, ru⟩ := vals1 r
  subst eu
  obtain ⟨as, rd, hn⟩ := Da.reads I hs d v u hd ru
  cases hd with
  | lst h1 h2 =>
    cases ru
    exact repr_of_reads' rd s1 (fun _ => hn) hg (by omega) (fun _ _ e => e) (fun h' u tk hkp => ⟨.str _, H, I.kept (h' := h') (t' := tk) hkp, ⟨_, rfl⟩, q⟩) hlen
  | tup h1 h2 =>
    cases ru
    exact repr_of_reads' rd s1 (fun _ => hn) hg (by omega) (fun _ _ e => e) (fun h' u tk hkp => ⟨.str _, H, I.kept (h' := h') (t' := tk) hkp, ⟨_, rfl⟩, q⟩) hlen
  | dct h1 h2 =>
    cases ru
    exact repr_of_reads' rd s1 (fun _ => hn) hg (by omega) (fun _ _ e => e) (fun h' u tk hkp => ⟨.str _, H, I.kept (h' := h') (t' := tk) hkp, ⟨_, rfl⟩, q⟩) hlen
  | non =>
    cases ru
    exact PySem.P.repr_of_none ⟨.str "None", H, I.tok _, ⟨_, rfl⟩, q⟩
  | bl b =>
    cases ru
    exact PySem.P.repr_of_bool ⟨.str (if b then "True" else "False"), H, I.tok _, ⟨_, by cases b <;> rfl⟩, by cases b <;> exact q⟩
  | int i =>
    obtain ⟨t, rfl⟩ := ru
    exact PySem.P.repr_of_int (of_decide_eq_true g1) ⟨.str (toString i), H, I.tok _, ⟨_, rfl⟩, q⟩
  | str x =>
    obtain ⟨t, rfl⟩ := ru
    exact PySem.P.repr_of_str ⟨.str (reprText x), H, I.tok _, ⟨_, rfl⟩, q⟩ hlen
/-! making and taking apart -/
theorem gDs_iff : ∀ {ds : List PyData}, gDs ds = true ↔ ∀ d ∈ ds, gD d = true
  | [] => ⟨fun _ d h => by (cases h), fun _ => rfl⟩
  | x :: xs => by
    show (gD x && gDs xs) = true ↔ _
    rw [Bool.and_eq_true, gDs_iff (ds := xs)]
    refine ⟨fun h d hd => ?_, fun h => ⟨h x List.mem_cons_self, fun d hd => h d (List.mem_cons_of_mem _ hd)⟩⟩
    rcases List.mem_cons.mp hd with e | hd
    · rw [e]
      exact h.1
    · exact h.2 d hd
theorem depthAll_le {n : Nat} : ∀ {ds : List PyData}, PyData.depthAll ds ≤ n ↔ ∀ d ∈ ds, d.depth ≤ n
  | [] => ⟨fun _ d h => by (cases h), fun _ => Nat.zero_le _⟩
  | x :: xs => by
    show max x.depth (PyData.depthAll xs) ≤ n ↔ _
    rw [Nat.max_le, depthAll_le (ds := xs)]
    refine ⟨fun h d hd => ?_, fun h => ⟨h x List.mem_cons_self, fun d hd => h d (List.mem_cons_of_mem _ hd)⟩⟩
    rcases List.mem_cons.mp hd with e | hd
    · rw [e]
      exact h.1
    · exact h.2 d hd
theorem wds_app : ∀ (xs ys : List PyData), wds (xs ++ ys) = wds xs + wds ys
  | [], ys => (Nat.zero_add _).symm
  | x :: xs, ys => by
    show wd x + 2 + wds (xs ++ ys) = wd x + 2 + wds xs + wds ys
    rw [wds_app xs ys]
    omega
theorem wd_mem {d : PyData} : ∀ {ds : List PyData}, d ∈ ds → wd d + 2 ≤ wds ds
  | x :: xs, h => by
    show _ ≤ wd x + 2 + wds xs
    rcases List.mem_cons.mp h with e | h
    · rw [e]
      omega
    · have := wd_mem h
      omega
theorem wds_take (n : Nat) (xs : List PyData) : wds (xs.take n) ≤ wds xs := by
  have h := wds_app (xs.take n) (xs.drop n)
  rw [List.take_append_drop] at h
  omega
theorem wds_drop (n : Nat) (xs : List PyData) : wds (xs.drop n) ≤ wds xs := by
  have h := wds_app (xs.take n) (xs.drop n)
  rw [List.take_append_drop] at h
  omega
theorem wd_pos : ∀ d : PyData, 3 ≤ wd d
  | .none => by show 3 ≤ 5; decide
  | .bool _ => by show 3 ≤ 5; decide
  | .int _ => by show 3 ≤ 1921; decide
  | .str x => by show 3 ≤ 10 * x.length + 5; omega
  | .list xs => by show 3 ≤ wds xs + 3; omega
  | .tuple xs => by show 3 ≤ wds xs + 3; omega
  | .dict ks => by show 3 ≤ wdk ks + 3; omega
theorem len_wds : ∀ ds : List PyData, 5 * ds.length ≤ wds ds
  | [] => Nat.le_refl _
  | x :: xs => by
    have := len_wds xs
    have := wd_pos x
    show 5 * (xs.length + 1) ≤ wd x + 2 + wds xs
    omega
end Own

namespace Own
open PySem PySem.Spec PyProof.Rows L2 Evl
/-! ### data that lies within A -/
theorem none_of {H H' : Hp} {l : Addr} (e : Ex H H') (h : H' l = none) : H l = none := by
  cases hx : H l with
  | none => rfl
  | some o => rw [e _ _ hx] at h; cases h
mutual
inductive DaA (A : Addr → Prop) (H : Hp) : V → PyData → Prop
  | non : DaA A H .non .none
  | bl (b : Bool) : DaA A H (.bl b) (.bool b)
  | int (i : Int) : DaA A H (.int i) (.int i)
  | str (z : Str) : DaA A H (.str z) (.str z)
  | lst {a : Addr} {xs : List V} {ds : List PyData} : A a → H a = some (.lst xs) → DaAA A H xs ds → DaA A H (.ref a) (.list ds)
  | tup {a : Addr} {xs : List V} {ds : List PyData} : A a → H a = some (.tup xs) → DaAA A H xs ds → DaA A H (.ref a) (.tuple ds)
  | dct {a : Addr} {kv : List (Str × Int)} {ks : List (PyData × PyData)} : A a → H a = some (.dK (kv.map kvV)) → ks = kv.map kvP → DaA A H (.ref a) (.dict ks)
inductive DaAA (A : Addr → Prop) (H : Hp) : List V → List PyData → Prop
  | nil : DaAA A H [] []
  | cons {v : V} {vs : List V} {d : PyData} {ds : List PyData} : DaA A H v d → DaAA A H vs ds → DaAA A H (v :: vs) (d :: ds)
end
mutual
theorem DaA.move {A A' : Addr → Prop} {H H' : Hp} (e : ∀ a o, A a → H a = some o → H' a = some o) (w : ∀ a, A a → A' a) : ∀ (d : PyData) {v : V}, DaA A H v d → DaA A' H' v d
  | .none, _, h => by cases h; exact .non
  | .bool _, _, h => by cases h; exact .bl _
  | .int _, _, h => by cases h; exact .int _
  | .str _, _, h => by cases h; exact .str _
  | .list ds, _, h => by
    cases h with
    | lst h0 h1 h2 => exact .lst (w _ h0) (e _ _ h0 h1) (DaAA.move e w ds h2)
  | .tuple ds, _, h => by
    cases h with
    | tup h0 h1 h2 => exact .tup (w _ h0) (e _ _ h0 h1) (DaAA.move e w ds h2)
  | .dict _, _, h => by
    cases h with
    | dct h0 h1 h2 => exact .dct (w _ h0) (e _ _ h0 h1) h2
theorem DaAA.move {A A' : Addr → Prop} {H H' : Hp} (e : ∀ a o, A a → H a = some o → H' a = some o) (w : ∀ a, A a → A' a) : ∀ (ds : List PyData) {vs : List V}, DaAA A H vs ds → DaAA A' H' vs ds
  | [], _, h => by cases h; exact .nil
  | d :: ds, _, h => by
    cases h with
    | cons h1 h2 => exact .cons (DaA.move e w d h1) (DaAA.move e w ds h2)
end
mutual
theorem DaA.da {A : Addr → Prop} {H : Hp} : ∀ (d : PyData) {v : V}, DaA A H v d → Da H v d
  | .none, _, h => by cases h; exact .non
  | .bool _, _, h => by cases h; exact .bl _
  | .int _, _, h => by cases h; exact .int _
  | .str _, _, h => by cases h; exact .str _
  | .list ds, _, h => by
    cases h with
    | lst h0 h1 h2 => exact .lst h1 (DaAA.da ds h2)
  | .tuple ds, _, h => by
    cases h with
    | tup h0 h1 h2 => exact .tup h1 (DaAA.da ds h2)
  | .dict _, _, h => by
    cases h with
    | dct h0 h1 h2 => exact .dct h1 h2
theorem DaAA.da {A : Addr → Prop} {H : Hp} : ∀ (ds : List PyData) {vs : List V}, DaAA A H vs ds → DaAll H vs ds
  | [], _, h => by cases h; exact .nil
  | d :: ds, _, h => by
    cases h with
    | cons h1 h2 => exact .cons (DaA.da d h1) (DaAA.da ds h2)
end
mutual
theorem Da.within {H : Hp} : ∀ (d : PyData) {v : V}, Da H v d → DaA (fun a => H a ≠ none) H v d
  | .none, _, h => by cases h; exact .non
  | .bool _, _, h => by cases h; exact .bl _
  | .int _, _, h => by cases h; exact .int _
  | .str _, _, h => by cases h; exact .str _
  | .list ds, _, h => by
    cases h with
    | lst h1 h2 => exact .lst (by rw [h1]; exact fun z => nomatch z) h1 (DaAll.within ds h2)
  | .tuple ds, _, h => by
    cases h with
    | tup h1 h2 => exact .tup (by rw [h1]; exact fun z => nomatch z) h1 (DaAll.within ds h2)
  | .dict _, _, h => by
    cases h with
    | dct h1 h2 => exact .dct (by rw [h1]; exact fun z => nomatch z) h1 h2
theorem DaAll.within {H : Hp} : ∀ (ds : List PyData) {vs : List V}, DaAll H vs ds → DaAA (fun a => H a ≠ none) H vs ds
  | [], _, h => by cases h; exact .nil
  | d :: ds, _, h => by
    cases h with
    | cons h1 h2 => exact .cons (Da.within d h1) (DaAll.within ds h2)
end
section
variable {A : Addr → Prop} {H : Hp}
theorem DaAA.len : ∀ {vs : List V} {ds : List PyData}, DaAA A H vs ds → vs.length = ds.length
  | _, _, .nil => rfl
  | _, _, .cons _ h => by rw [List.length_cons, List.length_cons, h.len]
theorem DaAA.at2 : ∀ {vs : List V} {ds : List PyData} {i : Nat} {d : PyData}, DaAA A H vs ds → ds[i]? = some d → ∃ v, vs[i]? = some v ∧ DaA A H v d
  | _, _, _, _, .nil, e => by simp at e
  | _, _, 0, _, .cons h _, e => by cases e; exact ⟨_, rfl, h⟩
  | _, _, i + 1, _, .cons _ h, e => DaAA.at2 (i := i) h e
theorem DaAA.at : ∀ {vs : List V} {ds : List PyData} {i : Nat} {v : V}, DaAA A H vs ds → vs[i]? = some v → ∃ d, ds[i]? = some d ∧ DaA A H v d
  | _, _, _, _, .nil, e => by simp at e
  | _, _, 0, _, .cons h _, e => by cases e; exact ⟨_, rfl, h⟩
  | _, _, i + 1, _, .cons _ h, e => DaAA.at (i := i) h e
theorem DaAA.app : ∀ {vs ws : List V} {ds es : List PyData}, DaAA A H vs ds → DaAA A H ws es → DaAA A H (vs ++ ws) (ds ++ es)
  | _, _, _, _, .nil, k => k
  | _, _, _, _, .cons h t, k => .cons h (t.app k)
theorem DaAA.take : ∀ {vs : List V} {ds : List PyData} (n : Nat), DaAA A H vs ds → DaAA A H (vs.take n) (ds.take n)
  | _, _, 0, _ => .nil
  | _, _, _ + 1, .nil => .nil
  | _, _, n + 1, .cons h t => .cons h (t.take n)
theorem DaAA.drop : ∀ {vs : List V} {ds : List PyData} (n : Nat), DaAA A H vs ds → DaAA A H (vs.drop n) (ds.drop n)
  | _, _, 0, h => h
  | _, _, _ + 1, .nil => .nil
  | _, _, n + 1, .cons _ t => t.drop n
theorem DaAA.put {v : V} {d : PyData} (hv : DaA A H v d) : ∀ {vs : List V} {ds : List PyData} {i : Nat}, DaAA A H vs ds → DaAA A H (vs.set i v) (ds.set i d)
  | _, _, _, .nil => .nil
  | _, _, 0, .cons _ t => .cons hv t
  | _, _, i + 1, .cons h t => .cons h (DaAA.put hv (i := i) t)
end
end Own

namespace Own
open PySem PySem.Spec PyProof.Rows L2 Evl
/-! ### a tuple that begins with a text, beside a tuple of one text -/
def rEqTs (K : PySem.W.Frag) : R2 := fun x y H Q => ∃ (a b : Addr) (z u : Str) (xs : List V), x = .ref a ∧ y = .ref b ∧ SqT K H a (.str z :: xs) ∧ SqT K H b [.str u] ∧ Q (.bl (decide (z = u) && xs.isEmpty)) H
theorem op_eqTs {X : Cx} {k : Nat} (hr : Room k X.A) : OpR X (compareOp .Eq) (rEqTs X.K) := by
  intro pk s τ H x y v v2 Q I rx ry h
  obtain ⟨a, b, z, u, xs, rfl, rfl, h1, h2, q⟩ := h
  cases rx
  cases ry
  obtain ⟨its, r, tp, hz⟩ := I.tuple h1
  obtain ⟨its2, r2, tp2, hz2⟩ := I.tuple h2
  cases r2 with
  | cons ru rn =>
    cases rn
    obtain ⟨tu, rfl⟩ := ru
    cases r with
    | @cons _ _ _ its0 rz rr =>
      obtain ⟨tz, rfl⟩ := rz
      have hu : X.A.units < cLine := by
        have := hr.units
        omega
      refine SeqAt.eq_tupleAt (e := fun _ => decide (z = u)) tp tp2 hu (fun j h1 h2 => ?_) ⟨.bl _, H, I, rfl, ?_⟩
      · have hj : j = 0 := by
          have : j < 1 := h2
          omega
        subst hj
        have e : (z == u) = decide (z = u) := by
          by_cases h : z = u
          · rw [h]
            simp
          · rw [decide_eq_false h]
            exact beq_eq_false_iff_ne.mpr h
        rw [← e]
        exact SeqAt.EqAt.str_str z tz u tu
      · have hm : min (Value.str z tz :: its0).toArray.size [Value.str u tu].toArray.size = 1 := by simp
        have hs : ((Value.str z tz :: its0).toArray.size == [Value.str u tu].toArray.size) = xs.isEmpty := by
          have hlen := rr.length
          cases xs with
          | nil => cases rr; rfl
          | cons x xs =>
            rw [List.length_cons] at hlen
            show ((its0.length + 1) == 1) = false
            exact beq_eq_false_iff_ne.mpr (by omega)
        rw [hm, hs]
        show Q (.bl ((decide (z = u) && true) && xs.isEmpty)) H
        rw [Bool.and_true]
        exact q
def rEqB (K : PySem.W.Frag) : R2 := fun x y H Z => rEqA K x y H Z ∨ rEqTs K x y H Z
theorem opEqT {X : Cx} {k : Nat} (hr : Room k X.A) : OpR X (compareOp .Eq) (rEqB X.K) := OpR.or (opEq hr) (op_eqTs hr)
end Own

namespace Own
open PySem PySem.Spec PyProof.Rows L2 Evl
/-! ### a tuple beside the empty one -/
def rEqT0 (K : PySem.W.Frag) : R2 := fun x y H Q => ∃ (a b : Addr) (xs : List V), x = .ref a ∧ y = .ref b ∧ SqT K H a xs ∧ SqT K H b [] ∧ Q (.bl xs.isEmpty) H
theorem op_eqT0 {X : Cx} {k : Nat} (hr : Room k X.A) : OpR X (compareOp .Eq) (rEqT0 X.K) := by
  intro pk s τ H x y v v2 Q I rx ry h
  obtain ⟨a, b, xs, rfl, rfl, h1, h2, q⟩ := h
  cases rx
  cases ry
  obtain ⟨its, r, tp, hz⟩ := I.tuple h1
  obtain ⟨its2, r2, tp2, hz2⟩ := I.tuple h2
  cases r2
  have hu : X.A.units < cLine := by
    have := hr.units
    omega
  refine SeqAt.eq_tupleAt (e := fun _ => true) tp tp2 hu (fun j h1 h2 => absurd h2 (by simp)) ⟨.bl _, H, I, rfl, ?_⟩
  have hm : min its.toArray.size ([] : List Value).toArray.size = 0 := by simp
  have hs : (its.toArray.size == ([] : List Value).toArray.size) = xs.isEmpty := by
    have hlen := r.length
    cases xs with
    | nil => cases r; rfl
    | cons x xs =>
      rw [List.length_cons] at hlen
      show (its.toArray.size == 0) = false
      rw [List.size_toArray]
      exact beq_eq_false_iff_ne.mpr (by omega)
  rw [hm, hs]
  exact q
/-! ### what a dict of the written part has of a text -/
def IsKD (K : PySem.W.Frag) (w : World) (a : Addr) : Prop := ∃ es n, K.lookup a = some ⟨.type "dict", none, .dict es n, #[]⟩ ∧ PySem.W.KeysLit w.params es.toList ∧ (a == sysModules) = false
def tKGet2 (K : PySem.W.Frag) (w : World) (td ty tx : TE) : TE := fun σ H Q => td σ H fun x H1 => ∃ a, x = .ref a ∧ IsKD K w a ∧ ty σ H1 fun y H2 => tx σ H2 fun z H3 => ∃ (k : Str) (v : V), y = .str k ∧ ((∃ u, PySem.W.nsIn K a k = some (some u) ∧ RelV v u) ∨ (PySem.W.nsIn K a k = some none ∧ v = z)) ∧ Q v H3
theorem pe_kget2 {X : Cx} {o e f : Expr} {apos cpos : Pos} {td ty tx : TE} (ho : PE X o td) (he : PE X e ty) (hf : PE X f tx) (m : M2 X o "get" apos e f cpos) : PE X (.Call (.Attribute o "get" apos) [e, f] [] cpos) (tKGet2 X.K X.w td ty tx) := by
  refine ⟨fun pins s σ H Q I h => ?_⟩
  refine wpAny_Call_method m.base m.few m.line PySem.F.plainAttrs_dict PySem.F.slot_dict_get PySem.F.type_dict_get (thn (ho.run pins s σ H _ I h) fun u s1 ⟨x, H1, I1, rx, a, ex, d, q1⟩ => ?_)
  subst ex
  obtain rfl : u = Value.ref a := rx
  obtain ⟨es, n, hl, hk, hd⟩ := d
  refine ⟨(PySem.W.mapOf_K (prog := X.prog) (w := X.w) I1.kIn hl hk).typeIs, fun b q => ?_, ?_⟩
  · cases q
    exact ⟨_, I1.kIn _ _ hl, rfl⟩
  rw [m.trees]
  refine Calls.callWith_builtin rfl (Calls.evalArgs_plain (Calls.spliced_cons (thn (he.run pins s1 σ H1 _ I1 q1) fun iv s2 ⟨y, H2, I2, ry, q2⟩ =>
    Calls.spliced_cons (thn (hf.run pins s2 σ H2 _ I2 q2) fun fv s3 ⟨z, H3, I3, rz, k, v, ey, g, q3⟩ => Calls.spliced_nil ?_))))
  subst ey
  obtain ⟨t, rfl⟩ := (show ∃ t, iv = Value.str k t from ry)
  have hm := PySem.W.mapOf_K (prog := X.prog) (w := X.w) I3.kIn hl hk
  refine call_meetsIn PySem.F.slot_dict_get hm.typeIs PySem.F.entry_dict_get (PySem.F.args_dict_get_3 _ _ _) (meets_dict_get_default (strKind X.prog X.w) a (strKind_is X.prog X.w k t) hd fv) ⟨_, hm, ?_⟩
  rcases g with ⟨u, hn, hv⟩ | ⟨hn, rfl⟩
  · rw [PySem.W.find_K hl hn]
    exact ⟨v, H3, I3.tok _, hv, q3⟩
  · rw [PySem.W.find_K hl hn]
    exact ⟨v, H3, I3.tok _, rz, q3⟩
/-! ### t[::-1], t being a tuple -/
theorem sliceApplied_rev {prog : Program} {w : World} {A : Around} {E : Value → Shared → Prop} {s : Shared} {sl : Addr} {vl vu vs : Value} {n : Nat} {Q : Int × Int × Nat → Shared → Prop} (hs : s.heap.IsSliceOf sl vl vu vs) (pl : IsPart vl none) (pu : IsPart vu none) (ps : IsPart vs (some (-1)))
    (h : Q ((n : Int) - 1, -1, n) s) : wpAny (model prog w) A (Builtin.Slice.sliceApplied (.ref sl) (pure (n : Int))) Q E s := by
  obtain ⟨os, hos, hcs, hds⟩ := id hs
  unfold Builtin.Slice.sliceApplied Builtin.Slice.sliceFields
  refine wpAny_bind (wpAny_bind (wpAny_field hos hds (x := vl) rfl (wpAny_bind (wpAny_field hos hds (x := vu) rfl (wpAny_bind (wpAny_field hos hds (x := vs) rfl (wpAny_pure ?_)))))))
  refine wpAny_bind (HT.slicePart_ ps ?_)
  show wpAny _ _ (if ((-1 : Int) == 0) = true then _ else _) _ _ s
  rw [if_neg (by decide)]
  refine wpAny_bind (HT.slicePart_ pl (wpAny_bind (HT.slicePart_ pu (wpAny_bind (wpAny_pure ?_)))))
  show wpAny _ _ (match Builtin.Slice.sliceAdjust none none (-1) (n : Int) with | (lo, hi) => pure (lo, (-1 : Int), Builtin.Slice.slicePlaces lo hi (-1))) _ _ s
  have e1 : Builtin.Slice.sliceAdjust none none (-1) (n : Int) = ((n : Int) - 1, -1) := rfl
  rw [e1]
  show wpAny _ _ (pure ((n : Int) - 1, (-1 : Int), Builtin.Slice.slicePlaces ((n : Int) - 1) (-1) (-1))) _ _ s
  have e2 : Builtin.Slice.slicePlaces ((n : Int) - 1) (-1) (-1) = n := by
    unfold Builtin.Slice.slicePlaces
    have h1 : ¬ ((-1 : Int) > 0) := by decide
    simp only [h1, if_false]
    split
    · rw [show (- -1 : Int) = 1 by decide, Int.ediv_one]
      omega
    · omega
  rw [e2]
  exact wpAny_pure h
theorem fm_congr {α β : Type} {f g : α → Option β} : ∀ {l : List α}, (∀ x ∈ l, f x = g x) → l.filterMap f = l.filterMap g
  | [], _ => rfl
  | x :: l, h => by
    rw [List.filterMap_cons, List.filterMap_cons, h x List.mem_cons_self, fm_congr fun y hy => h y (List.mem_cons_of_mem _ hy)]
theorem pick_rev (xs : Array Value) : ((List.range xs.size).filterMap fun (m : Nat) => xs[(((xs.size : Int) - 1) + (m : Int) * -1).toNat]?).toArray = xs.toList.reverse.toArray := by
  have e : ((List.range xs.size).filterMap fun (m : Nat) => xs[(((xs.size : Int) - 1) + (m : Int) * -1).toNat]?) = ((List.range xs.size).map fun k => xs.size - 1 - k).filterMap (xs[·]?) := by
    rw [List.filterMap_map]
    refine fm_congr fun m hm => ?_
    have := List.mem_range.mp hm
    show xs[_]? = xs[_]?
    rw [show (((xs.size : Int) - 1) + (m : Int) * -1).toNat = xs.size - 1 - m by omega]
  rw [e, PySem.W.krv_range, List.filterMap_reverse, PySem.W.krv_all]
theorem getItem_tuple_rev {prog : Program} {w : World} {A : Around} {E : Value → Shared → Prop} {s : Shared} {t sl : Addr} {items : Array Value} {vl vu vs : Value} {Q : Value → Shared → Prop} (ht : IsTup s.heap t items) (hs : s.heap.IsSliceOf sl vl vu vs) (pl : IsPart vl none) (pu : IsPart vu none) (ps : IsPart vs (some (-1)))
    (h : Q (.ref s.heap.objs.size) { s with heap := s.heap.push { cls := .type "tuple", data := .seq items.toList.reverse.toArray } })
    (hsz : items.size ≤ sizeLine) : wpAny (model prog w) A (getItem (.ref t) (.ref sl)) Q E s := by
  have htake : sizeOk (.seq items.toList.reverse.toArray) := by
    show items.toList.reverse.toArray.size ≤ sizeLine
    rw [List.size_toArray, List.length_reverse, Array.length_toList]
    exact hsz
  obtain ⟨os, hos, hcs, hds⟩ := id hs
  have hTs : s.TypeIs (.ref sl) "slice" := ⟨os, hos, hcs⟩
  unfold getItem
  try with_reducible refine wpAny_holding ?_
  first | refine wpAny_bind (wpAny_pure ?_) | skip
  refine wpAny_bind (wpAny_sequenceKey ht.typeIs (by decide) ?_)
  refine wpAny_bind (wpAny_callSpecial?_slot (name := Str.ofString "__getitem__") ht.typeIs PyProof.Rows.slot_tuple_getitem
    (wpAny_call_entry PyProof.Rows.slot_tuple_getitem ht.typeIs entry_tuple_getitem ?_ (args_tuple_getitem _ _)))
  show wpAny _ _ (Builtin.Tuple.tupleItemsOf (.ref t) >>= _) _ _ s
  refine wpAny_bind (tupleItemsOf_ ht ?_)
  refine wpAny_bind (wpAny_typeOf hTs ?_)
  rw [if_pos (by decide)]
  refine wpAny_bind (sliceApplied_rev hs pl pu ps ?_)
  have hno : ¬ ((((items.size : Int) - 1) == 0 && (-1 : Int) == 1 && items.size == items.size) = true) := by
    intro q
    rw [Bool.and_eq_true, Bool.and_eq_true] at q
    exact absurd (eq_of_beq q.1.2) (by decide)
  show wpAny _ _ (if (((items.size : Int) - 1) == 0 && (-1 : Int) == 1 && items.size == items.size) = true then _ else _) _ _ s
  rw [if_neg hno, pick_rev]
  first
    | exact wpAny_bind (m := Builtin.Tuple.tupleExact _) (wpAny_newObj_type (wpAny_pure ⟨_, rfl, wpAny_pure h⟩) htake)
    | exact wpAny_bind (m := Builtin.Tuple.tupleExact _) (wpAny_newObj_type (wpAny_bind (wpAny_pure (wpAny_pure ⟨_, rfl, wpAny_pure h⟩))) htake)
    | exact wpAny_bind (wpAny_bind (m := Builtin.Tuple.tupleExact _) (wpAny_newObj_type (wpAny_pure (wpAny_pure ⟨_, rfl, wpAny_pure h⟩)) htake))
    | exact wpAny_bind (wpAny_bind (m := Builtin.Tuple.tupleExact _) (wpAny_newObj_type (wpAny_pure ⟨_, rfl, wpAny_pure h⟩) htake))
def tRevT (K : PySem.W.Frag) (te ts : TE) : TE := fun σ H Q => te σ H fun x H1 => tPart ts σ H1 fun o H2 => ∃ (a : Addr) (xs : List V), x = .ref a ∧ SqT K H2 a xs ∧ o = some (-1) ∧ ∀ p, H2 p = none → Q (.ref p) (upd H2 p (.tup xs.reverse))
theorem pe_revT {X : Cx} {e es : Expr} {te ts : TE} {p3 pos : Pos} (he : PE X e te) (hs : PE X es ts)
    (hsub : ∀ (a l : Addr), subscripted (.Slice none none (some es) p3) false (.ref a) (.ref l) = operate [.ref a, .ref l] (getItem (.ref a) (.ref l)) := by intro _ _; with_unfolding_all rfl) : PE X (.Subscript e (.Slice none none (some es) p3) pos) (tRevT X.K te ts) := by
  refine ⟨fun pins s σ H Q I h => ?_⟩
  refine Subscript_ (thn (he.run pins s σ H _ I h) fun v s1 ⟨x, H1, I1, r1, q1⟩ => ?_)
  refine wpAny_Slice (thn (po_none.run pins s1 σ H1 (fun o H2 => o = none ∧ H2 = H1) I1 ⟨rfl, rfl⟩) fun vl s2 ⟨l, H2, I2, pl, el, e2⟩ => ?_)
  subst el e2
  refine thn (po_none.run pins s2 σ H2 (fun o H3 => o = none ∧ H3 = H2) I2 ⟨rfl, rfl⟩) fun vu s3 ⟨u, H3, I3, pu, eu, e3⟩ => ?_
  subst eu e3
  have hst : PO X (some es) (tPart ts) := po_some hs
  refine thn (hst.run pins s3 σ H3 _ I3 q1) fun vs s4 ⟨o, H4, I4, ps, a, xs, ex, hx, eo, q⟩ => ?_
  subst ex
  cases r1
  subst eo
  have I5 : Inv X pins σ H4 { s4 with heap := s4.heap.push { cls := .type "slice", data := .fields #[vl, vu, vs] } } := I4.kept (t' := s4.toks) fun b ob q => Heap.get?_push_of_some _ q
  obtain ⟨its, r, ht, hz⟩ := I5.tuple hx
  have hlen := r.length
  show wpAny (model X.prog X.w) X.A (subscriptTail e (.Slice none none (some es) p3) (.ref a) (.ref s4.heap.objs.size)) (EP X pins σ Q) X.xe { s4 with heap := s4.heap.push { cls := .type "slice", data := .fields #[vl, vu, vs] } }
  refine tail_any (ops := [.ref a, .ref s4.heap.objs.size]) ht.typeIs (PyProof.Rows.slot_tuple_getitem.lookup) ?_ (hsub _ _)
  refine getItem_tuple_rev ht (Heap.IsSliceOf.new _ vl vu vs) pl pu ps ?_ (by rw [List.size_toArray]; omega)
  refine ⟨.ref _, _, I5.laid (t' := s4.toks) (o := .tup xs.reverse) (fun b ob q => Heap.get?_push_of_some _ q) (Nat.le_refl _) ?_, rfl, q _ (I5.hok.fresh (Nat.le_refl _))⟩
  exact ⟨by rw [List.length_reverse]; exact hz, _, r.reverse, ⟨_, Heap.get?_push_size _ rfl, rfl, _, rfl⟩⟩
/-! ### parts of tuples, and tuples behind one another, whatever is the whole -/
theorem sl_toG {K : PySem.W.Frag} {H : Hp} {Z : VK} {p : Addr} {xs : List V} {j : Nat} (hp : H p = some (.tup xs)) (z : ∀ (t : Addr) (H' : Hp), Ex H H' → H' t = some (.tup (xs.take j)) → Z (.ref t) H') : rSlAny K (.ref p) none (some (j : Int)) H Z := by
  refine .inr (.inl ⟨p, _, rfl, st_of hp, fun hz => ?_, fun hz t ht => ?_⟩)
  · have h1 := hz.2
    rw [HT.sIx_nat] at h1
    refine z p H (Ex.refl _) ?_
    rw [List.take_of_length_le (by omega)]
    exact hp
  · rw [cut_to]
    generalize hq2 : upd H t _ = H2
    obtain ⟨e2, h2⟩ := gen1 hq2 ht
    exact z t _ e2 h2
theorem sl_fromG {K : PySem.W.Frag} {H : Hp} {Z : VK} {p : Addr} {xs : List V} {j : Nat} (hp : H p = some (.tup xs)) (z : ∀ (t : Addr) (H' : Hp), Ex H H' → H' t = some (.tup (xs.drop j)) → Z (.ref t) H') : rSlAny K (.ref p) (some (j : Int)) none H Z := by
  refine .inr (.inl ⟨p, _, rfl, st_of hp, fun hz => ?_, fun hz t ht => ?_⟩)
  · have h1 := hz.1
    rw [HT.sIx_nat] at h1
    refine z p H (Ex.refl _) ?_
    have : j = 0 ∨ xs.length = 0 := by omega
    rcases this with rfl | h
    · exact hp
    · rw [List.drop_of_length_le (by omega)]
      rw [List.length_eq_zero_iff.mp h] at hp
      exact hp
  · rw [cut_from]
    generalize hq2 : upd H t _ = H2
    obtain ⟨e2, h2⟩ := gen1 hq2 ht
    exact z t _ e2 h2
theorem cat_G {K : PySem.W.Frag} {H : Hp} {Z : VK} {a b : Addr} {xs ys : List V} (ha : H a = some (.tup xs)) (hb : H b = some (.tup ys)) (hl : xs.length + ys.length ≤ 1000) (z : ∀ (t : Addr) (H' : Hp), Ex H H' → H' t = some (.tup (xs ++ ys)) → Z (.ref t) H') : rAdd K (.ref a) (.ref b) H Z := by
  refine .inr (.inr (.inr ⟨a, b, xs, ys, rfl, rfl, st_of ha, st_of hb, Nat.le_trans hl (by show 1000 ≤ sizeLine; decide), fun e => ?_, fun _ e => ?_, fun _ _ t ht => ?_⟩))
  · refine z b H (Ex.refl _) ?_
    rw [e, List.nil_append]
    exact hb
  · refine z a H (Ex.refl _) ?_
    rw [e, List.append_nil]
    exact ha
  · generalize hq2 : upd H t _ = H2
    obtain ⟨e2, h2⟩ := gen1 hq2 ht
    exact z t _ e2 h2
def rMulT (K : PySem.W.Frag) : R2 := fun x y H Z => rMul x y H Z ∨ rRepT K x y H Z
theorem opMulT {X : Cx} : OpR X (binaryOp .Mult) (rMulT X.K) := OpR.or opMul op_repT
theorem flat_one {α : Type} (x : α) : ∀ n : Nat, (List.replicate n [x]).flatten = List.replicate n x
  | 0 => rfl
  | n + 1 => by
    rw [List.replicate_succ, List.flatten_cons, flat_one x n]
    rfl
theorem DaAll.rep {H : Hp} {v : V} {d : PyData} (h : Da H v d) : ∀ n : Nat, DaAll H (List.replicate n v) (List.replicate n d)
  | 0 => .nil
  | n + 1 => .cons h (DaAll.rep h n)
end Own

namespace Own
open PySem PySem.Spec PyProof.Rows L2 Evl
/-- a statement that is never reached -/
theorem ps_dead {X : Cx} {st : Stmt} : PS X st (fun _ _ _ => False) := ⟨fun _ _ _ _ _ _ z => z.elim⟩
/-- a class whose instances are made by an __init__ with sp -/
structure MakG (P : Program) (w : World) (K : PySem.W.Frag) (mg : Str → Option Value) (base : Heap) (k : Nat) (x : Str) (C : Addr) (sp : Sp) : Prop where
  at_ : mg x = some (.ref C)
  ex : ∃ (f : Addr) (fd : FuncData) (ps : List Str), FnG P w K mg base k f fd ps sp ∧ Mk K C f ∧ Binds K fd ps []
/-- a method with sp -/
structure MetG (P : Program) (w : World) (K : PySem.W.Frag) (mg : Str → Option Value) (base : Heap) (k : Nat) (C : Addr) (m : Str) (sp : Sp) : Prop where
  cl : Cls K C
  ex : ∃ (f : Addr) (fd : FuncData) (ps : List Str), FnG P w K mg base k f fd ps sp ∧ Meth K C m f ∧ Binds K fd ps []
section
variable {X : Cx} {pk : List (Addr × Obj)} {τ : L2.St} {H : Hp} {s : Shared} {k j : Nat} {sp : Sp} {f C : Addr} {fd : FuncData} {ps : List Str} {Z : VK} {us : List Value} {vs : List V} {x m : Str} {p pos apos : Pos} {e o : Expr} {es : List Expr} {t : TA} {ta : TE}
theorem run_mkG (M : Mk X.K C f) (F : FnG X.prog X.w X.K X.mg X.base k f fd ps sp) (hr : Room (k + 1) X.A) (hg : X.A.guards = some []) (hbd : Binds X.K fd ps []) (I : Inv X pk τ H s) (r : Vals vs us)
    (h : ∀ y d, H y = none → H d = none → d ≠ y → sp (.ref y :: vs) (upd (upd H d (.own y)) y (.ins C d [])) (fun v H2 => v = .non ∧ Z (.ref y) H2) E0) : wpAny (model X.prog X.w) X.A (call (.ref C) us) (EP X pk τ Z) X.xe s := by
  have q0 := h (s.heap.objs.size + 1) s.heap.objs.size (I.hok.fresh (Nat.le_succ _)) (I.hok.fresh (Nat.le_refl _)) (Nat.ne_of_lt (Nat.lt_succ_self _))
  have J := Inv.made (C := C) I
  obtain ⟨n, hn⟩ : ∃ n : Addr, s.heap.objs.size + 1 = n := ⟨_, rfl⟩
  have rr : Vals (V.ref (s.heap.objs.size + 1) :: vs) (Value.ref (s.heap.objs.size + 1) :: us) := .cons rfl r
  have hl : ((Value.ref (s.heap.objs.size + 1) :: us) ++ []).length = ps.length := by
    rw [List.append_nil, ← rr.length]
    exact F.len _ _ _ _ q0
  have hb := hbd _ (Value.ref (s.heap.objs.size + 1) :: us) J.kIn hl
  rw [List.append_nil] at hb
  have run := F.run (X.A.under (.builtin "type.__call__" ⟨.ref C :: us, []⟩)) X.stack _ _ ⟨Value.ref (s.heap.objs.size + 1) :: us, []⟩ _ _ _ E0 (hr.make C us []) hg (J.env0.make C us []) hb rr q0
  refine wpAny_call (make_map (f := f) I.kIn M.makes M.init (beq_iff_eq.mp M.fn) (codeAny_mono run fun res s' hsq => ?_))
  match res, hsq with
  | .error _, hsq => exact (show False from hsq).elim
  | .ok (.ret u), hsq =>
    obtain ⟨v, H4, J4, rv, ev, q4⟩ := J.after hsq
    subst ev
    exact ⟨rv, ⟨V.ref (s.heap.objs.size + 1), H4, J4, rfl, q4⟩⟩
  | .ok .next, hsq => exact False.elim hsq
  | .ok .brk, hsq => exact False.elim hsq
  | .ok .cont, hsq => exact False.elim hsq
theorem pe_mkG (c : MakG X.prog X.w X.K X.mg X.base k x C sp) (hr : Room j X.A) (hg0 : X.A.guards = some []) (hkp : k + 1 ≤ j) (hg : Gl X x) (ha : PA X (e :: es) t)
    (hdb : (x == ("__debug__" : Str)) = false := by decide) (hes : starEach (e :: es) X.env = (false, eval e X.env) :: starEach es X.env := by rfl) (hpl : (backTo pos (starEach es X.env)).any (·.1) = false := by rfl) :
    PE X (.Call (.Name x p) (e :: es) [] pos) (tMake C sp [] E0 t) := by
  obtain ⟨f, fd, ps, F, M, b⟩ := c.ex
  refine ⟨fun pk s τ H Z I h => ?_⟩
  refine wpAny_Call_Name_kw (ld_glob I hg c.at_ ?_ hdb)
  refine PySem.W.callWith_K (h₀ := X.base) I.ok.mod.kin M.kp (thn (ha.run pos pk s τ H _ I h) fun us st1 ⟨vs, H1, I1, r, q⟩ => ⟨I1.kIn, ?_⟩) hes hpl
  refine run_mkG M F (hr.mono hkp) hg0 b I1 r fun y d h1 h2 h3 => ?_
  have q := q y d h1 h2 h3
  rw [List.append_nil] at q
  exact q
theorem pe_mtG0 {pl : Sem Bool} (c : MetG X.prog X.w X.K X.mg X.base k C m sp) (he : PE X o ta) (hr : Room j X.A) (hg0 : X.A.guards = some []) (hkp : k ≤ j)
    (hte : eval (.Call (.Attribute o m apos) [] [] pos) X.env = (do
      let ov ← eval o X.env
      standAt apos.atName
      let (g, first) ← holding [ov] (getMethod ov m pl)
      callWith pos g first (backTo pos (starEach [] X.env)) (backToKw pos (keywordEach [] X.env))) := by rfl) :
    PE X (.Call (.Attribute o m apos) [] [] pos) (tMeth C m sp [] E0 ta tNil) := by
  obtain ⟨f, fd, ps, F, M, b⟩ := c.ex
  refine ⟨fun pk s τ H Z I h => PySem.W.methodCall_KW (pl := pl) (thn (he.run pk s τ H _ I h) fun u st1 ⟨y, H1, I1, ry, a, d, fs, ey, ea, l, q⟩ => ?_) hte⟩
  subst ey
  have eu : u = Value.ref a := ry
  subst eu
  refine getmeth_ok I1 ea c.cl M l (PySem.W.callWith_K0 (first := [.ref a]) I1.kIn M.kp ?_)
  exact run_fnG (us := [.ref a]) (vs := [.ref a]) F (hr.mono hkp) hg0 b I1 (.cons rfl .nil) q
theorem pe_mtG {pl : Sem Bool} (c : MetG X.prog X.w X.K X.mg X.base k C m sp) (he : PE X o ta) (hr : Room j X.A) (hg0 : X.A.guards = some []) (hkp : k ≤ j) (ha : PA X (e :: es) t)
    (hes : starEach (e :: es) X.env = (false, eval e X.env) :: starEach es X.env := by rfl) (hpl : (backTo pos (starEach es X.env)).any (·.1) = false := by rfl)
    (hte : eval (.Call (.Attribute o m apos) (e :: es) [] pos) X.env = (do
      let ov ← eval o X.env
      standAt apos.atName
      let (g, first) ← holding [ov] (getMethod ov m pl)
      callWith pos g first (backTo pos (starEach (e :: es) X.env)) (backToKw pos (keywordEach [] X.env))) := by rfl) :
    PE X (.Call (.Attribute o m apos) (e :: es) [] pos) (tMeth C m sp [] E0 ta t) := by
  obtain ⟨f, fd, ps, F, M, b⟩ := c.ex
  refine ⟨fun pk s τ H Z I h => PySem.W.methodCall_KW (pl := pl) (thn (he.run pk s τ H _ I h) fun u st1 ⟨y, H1, I1, ry, a, d, fs, ey, ea, l, q⟩ => ?_) hte⟩
  subst ey
  have eu : u = Value.ref a := ry
  subst eu
  refine getmeth_ok I1 ea c.cl M l ?_
  refine PySem.W.callWith_K (first := [.ref a]) (h₀ := X.base) I1.ok.mod.kin M.kp (thn (ha.run pos pk st1 τ H1 _ I1 q) fun us st2 ⟨vs, H2, I2, r, q2⟩ => ⟨I2.kIn, ?_⟩) hes hpl
  have q2 : sp (.ref a :: (vs ++ [])) H2 Z E0 := q2
  rw [List.append_nil] at q2
  exact run_fnG (us := .ref a :: us) (vs := .ref a :: vs) F (hr.mono hkp) hg0 b I2 (.cons rfl r) q2
end
end Own

namespace Own
open PySem PySem.Spec PyProof.Rows L2 Evl
/-! ### methods: the name and the long name -/
section
variable {P : Program} {w : World} {K : PySem.W.Frag} {mg : Str → Option Value} {base : Heap}
theorem fn_mkQ {x q : Str} {f : Addr} {fd : FuncData} {st : Stmt} {N ps : List Str} {k : Nat} {sp : Sp} (F : Fun K x q st f fd) (S : FnScope N ps (defScope st))
    (len : ∀ vs H Z EE, sp vs H Z EE → vs.length = ps.length)
    (hbody : ∀ (cdv : Value) (A : Around) (outer : List Env) (s : Shared) (H : Hp) (vs : List V) (Z : VK) (EE : XK), Room k (A.deeper (envOfC q (defScope st) s.heap.objs.size f cdv)) → (A.deeper (envOfC q (defScope st) s.heap.objs.size f cdv)).guards = some [] → sp vs H Z EE →
      ∃ t, PSs (cxOf CX0 P w K mg base N q (defScope st) f cdv A outer s H EE).nox (defBody st) t ∧ t { nx := fun _ H' => Z .non H', rt := Z } (start N vs) H) : FnG P w K mg base (k + 1) f fd ps sp := by
  obtain ⟨oc, od, kV, doc, pm, an, cdv, ct, sl, rfl, lkp, hcd⟩ := F.ex
  refine ⟨len, fun A outer s H args us vs Z EE hr hg e0 hbt r hsp => ?_⟩
  have body : ∀ (A : Around) (outer : List Env) (s : Shared) (H : Hp) (vs : List V) (Z : VK) (EE : XK), Room k (A.deeper (envOfC q (defScope st) s.heap.objs.size f cdv)) → A.guards = some [] → sp vs H Z EE →
      ∃ t, PSs (cxOf CX0 P w K mg base N q (defScope st) f cdv A outer s H EE) (defBody st) t ∧ t { nx := fun _ H' => Z .non H', rt := Z } (start N vs) H := fun A outer s H vs Z EE hr hg hsp => by
    obtain ⟨t, h, qq⟩ := hbody cdv A outer s H vs Z EE hr hg hsp
    exact ⟨t, h.nox, qq⟩
  have hlen := len _ _ _ _ hsp
  have KI : K.In s.heap := e0.mod.kin.keeps fun b o e => (e0.bs b o e).1
  have nlm : s.heap.NoLimit := e0.mod.nolimit.keeps fun b o e => (e0.bs b o e).1
  have hkind : ∀ y ∈ ps.zip us, (defScope st).names.lookup y.1 = some .local ∨ ((defScope st).names.lookup y.1 = some .cell ∧ ((cellsFrom (s.heap.objs.size + 1) (defScope st).names []).lookup y.1).isSome = true) := fun ⟨n, v⟩ hyy => by
    rcases S.par n (List.of_mem_zip hyy).1 with qq | qq
    · exact .inl qq
    · exact .inr ⟨qq, PySem.W.cellsFrom_some _ _ _ (.inl qq)⟩
  refine codeAny_call_function hr.depth (KI _ _ lkp) rfl S.co S.gen rfl (PySem.W.codeRec_of KI hcd) (hbt _ _ _ _ ?_)
  refine wpAny_newFunctionEnv_cells S.kind hkind fun env hes st1 xx => ?_
  subst hes
  refine ⟨nlm.keeps xx.toInCall.keep, codeAny_func ?_⟩
  obtain ⟨t, ht, hsq⟩ := body A outer s H vs Z EE (hr.deeper _) hg hsp
  have I : Inv (cxOf CX0 P w K mg base N q (defScope st) f cdv A outer s H EE) [] (start N vs) H st1 := inv_start S hr.hd e0 hlen r xx
  refine wpAny_mono (ht.run [] st1 (start N vs) H _ I hsq) (fun fl s' hst => ?_) fun e s' hst => hst
  have ready : ∀ {τ' : L2.St} {H' : Hp} {v : V} {u : Value}, Inv (cxOf CX0 P w K mg base N q (defScope st) f cdv A outer s H EE) [] τ' H' s' → RelV v u → Z v H' → CE outer P w H s Z u s' :=
    fun {τ' H' v u} J rv qq => ⟨v, H', J.os, J.bare, J.base, J.hok, rv, qq⟩
  cases fl with
  | ret u =>
    obtain ⟨v, τ', H', J, rv, qq⟩ := hst
    exact ready J rv qq
  | next =>
    obtain ⟨τ', H', J, qq⟩ := hst
    exact ready (v := V.non) (u := Value.none) J rfl qq
  | brk =>
    obtain ⟨_, _, _, qq⟩ := hst
    exact False.elim qq
  | cont =>
    obtain ⟨_, _, _, qq⟩ := hst
    exact False.elim qq
end
/-- the type of a value beside an own object -/
inductive TyE (H : Hp) : V → Value → Prop where
  | non : TyE H .non (.type "NoneType")
  | int (i : Int) : TyE H (.int i) (.type "int")
  | lst {a : Addr} {xs : List V} (e : H a = some (.lst xs)) : TyE H (.ref a) (.type "list")
  | tup {a : Addr} {xs : List V} (e : H a = some (.tup xs)) : TyE H (.ref a) (.type "tuple")
  | ins {a C d : Addr} {fs : List (Str × V)} (e : H a = some (.ins C d fs)) : TyE H (.ref a) (.ref C)
section
variable {X : Cx} {pk : List (Addr × Obj)} {τ : L2.St} {H : Hp} {s : Shared} {M : Model} {v : V} {u tb : Value} {k j : Nat} {C : Addr} {sp : Sp}
theorem TyE.looks (I : Inv X pk τ H s) (r : RelV v u) (t : TyE H v tb) : PySem.W.Looks M s.heap (typeOf u) tb := by
  cases t with
  | non => cases (show u = Value.none from r); exact .now
  | int i => obtain ⟨t, q⟩ := (show ∃ t, u = Value.int i t from r); cases q; exact .now
  | @lst a xs ea =>
    cases (show u = Value.ref a from r)
    obtain ⟨_, _, n, _, h1⟩ := (show ObjOk X.prog X.w H s.heap a (.lst xs) from I.hok a _ ea)
    exact (PySem.W.Looks.ld h1).andThen .now
  | @tup a xs ea =>
    cases (show u = Value.ref a from r)
    obtain ⟨_, _, _, p⟩ := (show ObjOk X.prog X.w H s.heap a (.tup xs) from I.hok a _ ea)
    obtain ⟨o, h1, h2, _⟩ := p
    exact h2 ▸ (PySem.W.Looks.ld h1).andThen .now
  | @ins a C d fs ea =>
    cases (show u = Value.ref a from r)
    obtain ⟨mA, J, _⟩ := ins_get I.hok ea
    obtain ⟨od, J, _⟩ := J.look
    exact J.type
def rOwn (K : PySem.W.Frag) (C : Addr) (sp : Sp) : R2 := fun x y H Q => ∃ (a d : Addr) (fs : List (Str × V)) (tb : Value), x = .ref a ∧ H a = some (.ins C d fs) ∧ TyE H y tb ∧ PySem.W.notFirst K C tb = true ∧ sp [x, y] H (fun v H' => (∃ b, v = .bl b) ∧ Q v H') E0
theorem op_own (c : MetG X.prog X.w X.K X.mg X.base k C "__eq__" sp) (hr : Room j X.A) (hg0 : X.A.guards = some []) (hkp : k ≤ j) : OpR X (compareOp .Eq) (rOwn X.K C sp) := by
  intro pins s σ H x y u v Q I rx ry hq
  obtain ⟨f, fd, ps, F, M, b⟩ := c.ex
  obtain ⟨a, d, fs, tb, rfl, ha, ht, hn, q⟩ := hq
  cases rx
  show wpAny (model X.prog X.w) X.A (richCompare .Eq (.ref a) v) (EP X pins σ Q) X.xe s
  obtain ⟨mA, J, _⟩ := ins_get I.hok ha
  obtain ⟨od, J, _⟩ := J.look
  obtain ⟨m, hF⟩ := I.fr
  refine PySem.W.cmp_K (op := .Eq) (tb := tb) hr.units0 hF I.ok.mod.kin J (ht.looks I ry) hn M.at_ M.fn ?_
  refine wpAny_mono (run_fnG (us := [.ref a, v]) (vs := [.ref a, y]) F (hr.mono hkp) hg0 b I (.cons rfl (.cons ry .nil)) q) (fun w s' z => ?_) (fun _ _ e => e)
  obtain ⟨z, H', I', rz, ⟨bb, eb⟩, q'⟩ := z
  subst eb
  cases rz
  exact ⟨.bl bb, H', I', rfl, q'⟩
end
section
variable {prog : Program} {w : World} {A : Around} {E : Value → Shared → Prop} {s : Shared} {K : PySem.W.Frag} {x C L f : Addr} {h₀ : Heap} {m : Str → Option Value} {ox : Obj} {od : Option Obj} {b tb : Value}
theorem ifBound_B {M : Model} {name : Str} {id : String} {args : List Value} {Q : Option Value → Shared → Prop} (X : K.In s.heap) (I : PySem.W.InstAt s.heap x ox C od) (hs : PySem.W.findIn K (.ref C) name = some (some (.builtin id)))
    (hbd : ∀ self, bindSpecial (.builtin id) self = pure (.builtin id, [self]))
    (h : wpAny M A (call (.builtin id) (.ref x :: args)) (fun v => Q (some v)) E s) : wpAny M A (callSpecialIfBound? (.ref x) name args) Q E s := by
  simp only [callSpecialIfBound?, bindSpecialIfBound?]
  refine wpAny_holding (wpAny_bind (wpAny_bind (wpAny_bind (I.type.here ((PySem.W.looks_findIn X hs).here ?_)))))
  simp only [hbd]
  refine wpAny_bind (wpAny_askSetting (wpAny_ite ?_))
  have fin : wpAny M A (call (.builtin id) ([.ref x] ++ args) >>= fun v => pure (some v)) Q E s := wpAny_bind (wpAny_mono h (fun v s' h' => wpAny_pure h') fun _ _ h' => h')
  split
  · exact wpAny_bind (wpAny_pure (wpAny_pure fin))
  · exact wpAny_tryCatch (wpAny_bind (wpAny_pure (wpAny_pure fin)))
theorem ne_entry {Q : Fin → Shared → Prop} (X : K.In s.heap) (I : PySem.W.InstAt s.heap x ox C od) (hs : PySem.W.findIn K (.ref C) "__eq__" = some (some (.ref f))) (hf : PySem.W.isFn K (.ref f) = true) (hu : A.units < cLine)
    (hcall : wpAny (model prog w) A (call (.ref f) [.ref x, b]) (fun v s' => ∃ r, v = .bool r ∧ Q (.done (.ret (.bool (!r)))) s') E s) :
    wpAny (model prog w) A (Builtin.«object.__ne__» ⟨[.ref x, b], []⟩) Q E s := by
  obtain ⟨h, g, d, t, os⟩ := s
  unfold Builtin.«object.__ne__»
  repeat (first
    | with_reducible refine wpAny_cRoomFor hu ?_
    | (refine wpAny_bind (m := callSpecialIfBound? (.ref x) (Str.ofString "__eq__") [b])
        (PySem.W.ifBound_K X I hs hf (wpAny_mono hcall (fun r s' hr => by
          obtain ⟨b, rfl, hq⟩ := hr
          repeat (first | exact hq | exact wpAny_pure hq | exact wpAny_truthy_bool hq | (refine wpAny_bind (m := truthy (.bool _)) (wpAny_truthy_bool ?_)) | wp_step)) fun _ _ e => e)))
    | wp_step)
theorem ne_K {Q : Value → Shared → Prop} (hu : A.units + 1 < cLine) (F : Fr h₀ L s.heap m) (X₀ : K.In h₀) (I : PySem.W.InstAt s.heap x ox C od) (hb : PySem.W.Looks (model prog w) s.heap (typeOf b) tb) (hn : PySem.W.notFirst K C tb = true)
    (hne : PySem.W.findIn K (.ref C) "__ne__" = some (some (.builtin "object.__ne__"))) (hob : PySem.W.subIn K (.ref C) (.type "object") = some true)
    (hs : PySem.W.findIn K (.ref C) "__eq__" = some (some (.ref f))) (hf : PySem.W.isFn K (.ref f) = true)
    (h : wpAny (model prog w) A.in1 (call (.ref f) [.ref x, b]) (fun v s' => ∃ r, v = .bool r ∧ Q (.bool (!r)) s') E s) : wpAny (model prog w) A (richCompare .NotEq (.ref x) b) Q E s := by
  have X := X₀.keeps F.keep
  have one : wpAny (model prog w) A (tryCompare (.ref x) (cmpInfo .NotEq).2.1 b) (fun r s' => ∃ v, r = some v ∧ Q v s') E s := by
    unfold tryCompare
    refine wpAny_bind (ifBound_B X I (name := (cmpInfo .NotEq).2.1) hne (fun self => PySem.F.cmp_object.ne.bind self) (wpAny_call (codeAny_call_builtin PySem.F.cmp_object.ne.plain PySem.F.cmpEntry_ne
      (PySem.W.check_slot PySem.F.cmpKind_ne PySem.F.cmpSplit_ne (I.type.andThen (PySem.W.looks_subIn X hob)) (PySem.F.cmpArgs_ne _ _) (ne_entry (A := A.in1) X I hs hf (Nat.lt_of_succ_le hu) (wpAny_mono h (fun v s' hv => ?_) fun _ _ e => e))))))
    obtain ⟨r, rfl, q⟩ := hv
    first | exact ⟨r, rfl, ⟨_, rfl, q⟩⟩ | exact ⟨r, rfl, wpAny_pure ⟨_, rfl, q⟩⟩ | exact ⟨r, rfl, wpAny_pure (wpAny_pure ⟨_, rfl, q⟩)⟩
  unfold richCompare
  simp only [oneThing_ref]
  refine wpAny_holding (wpAny_bind (wpAny_cRoomFor (Nat.lt_of_succ_lt hu) ?_))
  refine wpAny_bind (I.type.here (wpAny_bind (hb.here ?_)))
  split
  · rename_i q
    have e : PySem.W.subIn K tb (.ref C) = some false := by
      rcases Bool.or_eq_true_iff.mp hn with e | e
      · rw [beq_iff_eq.mp e] at q; simp at q
      · exact beq_iff_eq.mp e
    refine wpAny_bind ((PySem.W.looks_subIn X e).here ?_)
    simp only [Bool.false_eq_true, if_false]
    refine wpAny_bind (wpAny_mono one (fun r s' z => ?_) fun _ _ e => e)
    obtain ⟨v, rfl, hq⟩ := z
    exact wpAny_pure hq
  · refine wpAny_bind (wpAny_pure ?_)
    simp only [Bool.false_eq_true, if_false]
    refine wpAny_bind (wpAny_mono one (fun r s' z => ?_) fun _ _ e => e)
    obtain ⟨v, rfl, hq⟩ := z
    exact wpAny_pure hq
end
/-- what of the text != by an own == wants -/
structure NeOwn (K : PySem.W.Frag) (C : Addr) : Prop where
  ne : PySem.W.findIn K (.ref C) "__ne__" = some (some (.builtin "object.__ne__"))
  ob : PySem.W.subIn K (.ref C) (.type "object") = some true
section
variable {X : Cx} {k j : Nat} {C : Addr} {sp : Sp}
def rOwnN (K : PySem.W.Frag) (C : Addr) (sp : Sp) : R2 := fun x y H Q => ∃ (a d : Addr) (fs : List (Str × V)) (tb : Value), x = .ref a ∧ H a = some (.ins C d fs) ∧ TyE H y tb ∧ PySem.W.notFirst K C tb = true ∧ sp [x, y] H (fun v H' => ∃ b, v = .bl b ∧ Q (.bl (!b)) H') E0
theorem op_ownN (c : MetG X.prog X.w X.K X.mg X.base k C "__eq__" sp) (N : NeOwn X.K C) (hr : Room j X.A) (hg0 : X.A.guards = some []) (hkp : k + 1 ≤ j) : OpR X (compareOp .NotEq) (rOwnN X.K C sp) := by
  intro pins s σ H x y u v Q I rx ry hq
  obtain ⟨f, fd, ps, F, M, b⟩ := c.ex
  obtain ⟨a, d, fs, tb, rfl, ha, ht, hn, q⟩ := hq
  cases rx
  show wpAny (model X.prog X.w) X.A (richCompare .NotEq (.ref a) v) (EP X pins σ Q) X.xe s
  obtain ⟨mA, J, _⟩ := ins_get I.hok ha
  obtain ⟨od, J, _⟩ := J.look
  obtain ⟨m, hF⟩ := I.fr
  have r1 : Room (k + 1) X.A := hr.mono hkp
  refine ne_K (tb := tb) (by have z := r1.un; omega) hF I.ok.mod.kin J (ht.looks I ry) hn N.ne N.ob M.at_ M.fn ?_
  have hq' : sp [.ref a, y] H (fun v H' => ∃ b, v = .bl b ∧ Q (.bl (!b)) H') E0 := q
  have hlen : [Value.ref a, v].length = ps.length := F.len _ _ _ _ hq'
  refine wpAny_call (codeAny_mono (F.run X.A.in1 X.stack s H ⟨[.ref a, v], []⟩ [.ref a, v] [.ref a, y] _ E0 r1.in1 hg0 I.env0.in1 (by have q := b s [.ref a, v] I.kIn hlen; exact q) (.cons rfl (.cons ry .nil)) hq') fun r s' hsq => ?_)
  cases r with
  | error e => exact (show False from hsq).elim
  | ok fl =>
    cases fl with
    | ret u =>
      obtain ⟨z, H', I', rz, bb, eb, q'⟩ := I.after hsq
      subst eb
      cases rz
      exact ⟨bb, rfl, .bl (!bb), H', I', rfl, q'⟩
    | next => exact False.elim hsq
    | brk => exact False.elim hsq
    | cont => exact False.elim hsq
end
end Own

namespace Own
open PySem PySem.Spec PyProof.Rows L2 Evl
/-! ### defs that may raise, called where no container is being shown -/
structure FnX (P : Program) (w : World) (K : PySem.W.Frag) (mg : Str → Option Value) (base : Heap) (k : Nat) (f : Addr) (fd : FuncData) (ps : List Str) (sp : Sp) : Prop where
  len : ∀ vs H Z EE, sp vs H Z EE → vs.length = ps.length
  run : ∀ (A : Around) (outer : List Env) (s : Shared) (H : Hp) (args : Args) (us : List Value) (vs : List V) (Z : VK) (EE : XK), Room k A → A.guards = some [] → Env0 P w K mg base A outer s H → BindsTo s fd args (ps.zip us) → Vals vs us → sp vs H Z EE →
    codeAny (model P w) A (.call (.ref f) args) (CR (L2.CX P w) outer P w H s Z EE) s
section
variable {P : Program} {w : World} {K : PySem.W.Frag} {mg : Str → Option Value} {base : Heap}
theorem fn_mkX {x q : Str} {f : Addr} {fd : FuncData} {st : Stmt} {N ps : List Str} {k : Nat} {sp : Sp} (F : Fun K x q st f fd) (S : FnScope N ps (defScope st))
    (len : ∀ vs H Z EE, sp vs H Z EE → vs.length = ps.length)
    (hbody : ∀ (cdv : Value) (A : Around) (outer : List Env) (s : Shared) (H : Hp) (vs : List V) (Z : VK) (EE : XK), Room k (A.deeper (envOfC q (defScope st) s.heap.objs.size f cdv)) → (A.deeper (envOfC q (defScope st) s.heap.objs.size f cdv)).guards = some [] → sp vs H Z EE →
      ∃ t, PSs (cxOf (L2.CX P w) P w K mg base N q (defScope st) f cdv A outer s H EE) (defBody st) t ∧ t { nx := fun _ H' => Z .non H', rt := Z } (start N vs) H) : FnX P w K mg base (k + 1) f fd ps sp := by
  obtain ⟨oc, od, kV, doc, pm, an, cdv, ct, sl, rfl, lkp, hcd⟩ := F.ex
  refine ⟨len, fun A outer s H args us vs Z EE hr hg e0 hbt r hsp => ?_⟩
  have body : ∀ (A : Around) (outer : List Env) (s : Shared) (H : Hp) (vs : List V) (Z : VK) (EE : XK), Room k (A.deeper (envOfC q (defScope st) s.heap.objs.size f cdv)) → A.guards = some [] → sp vs H Z EE →
      ∃ t, PSs (cxOf (L2.CX P w) P w K mg base N q (defScope st) f cdv A outer s H EE) (defBody st) t ∧ t { nx := fun _ H' => Z .non H', rt := Z } (start N vs) H := fun A outer s H vs Z EE hr hg hsp => by
    obtain ⟨t, h, qq⟩ := hbody cdv A outer s H vs Z EE hr hg hsp
    exact ⟨t, h, qq⟩
  have hlen := len _ _ _ _ hsp
  have KI : K.In s.heap := e0.mod.kin.keeps fun b o e => (e0.bs b o e).1
  have nlm : s.heap.NoLimit := e0.mod.nolimit.keeps fun b o e => (e0.bs b o e).1
  have hkind : ∀ y ∈ ps.zip us, (defScope st).names.lookup y.1 = some .local ∨ ((defScope st).names.lookup y.1 = some .cell ∧ ((cellsFrom (s.heap.objs.size + 1) (defScope st).names []).lookup y.1).isSome = true) := fun ⟨n, v⟩ hyy => by
    rcases S.par n (List.of_mem_zip hyy).1 with qq | qq
    · exact .inl qq
    · exact .inr ⟨qq, PySem.W.cellsFrom_some _ _ _ (.inl qq)⟩
  refine codeAny_call_function hr.depth (KI _ _ lkp) rfl S.co S.gen rfl (PySem.W.codeRec_of KI hcd) (hbt _ _ _ _ ?_)
  refine wpAny_newFunctionEnv_cells S.kind hkind fun env hes st1 xx => ?_
  subst hes
  refine ⟨nlm.keeps xx.toInCall.keep, codeAny_func ?_⟩
  obtain ⟨t, ht, hsq⟩ := body A outer s H vs Z EE (hr.deeper _) hg hsp
  have I : Inv (cxOf (L2.CX P w) P w K mg base N q (defScope st) f cdv A outer s H EE) [] (start N vs) H st1 := inv_start S hr.hd e0 hlen r xx
  refine wpAny_mono (ht.run [] st1 (start N vs) H _ I hsq) (fun fl s' hst => ?_) fun e s' hst => hst
  have ready : ∀ {τ' : L2.St} {H' : Hp} {v : V} {u : Value}, Inv (cxOf (L2.CX P w) P w K mg base N q (defScope st) f cdv A outer s H EE) [] τ' H' s' → RelV v u → Z v H' → CE outer P w H s Z u s' :=
    fun {τ' H' v u} J rv qq => ⟨v, H', J.os, J.bare, J.base, J.hok, rv, qq⟩
  cases fl with
  | ret u =>
    obtain ⟨v, τ', H', J, rv, qq⟩ := hst
    exact ready J rv qq
  | next =>
    obtain ⟨τ', H', J, qq⟩ := hst
    exact ready (v := V.non) (u := Value.none) J rfl qq
  | brk =>
    obtain ⟨_, _, _, qq⟩ := hst
    exact False.elim qq
  | cont =>
    obtain ⟨_, _, _, qq⟩ := hst
    exact False.elim qq
end
/-- a class whose instances are made by an __init__ with sp that may raise -/
structure MakX (P : Program) (w : World) (K : PySem.W.Frag) (mg : Str → Option Value) (base : Heap) (k : Nat) (x : Str) (C : Addr) (sp : Sp) : Prop where
  at_ : mg x = some (.ref C)
  ex : ∃ (f : Addr) (fd : FuncData) (ps : List Str), FnX P w K mg base k f fd ps sp ∧ Mk K C f ∧ Binds K fd ps []
/-- a method with sp that may raise -/
structure MetX (P : Program) (w : World) (K : PySem.W.Frag) (mg : Str → Option Value) (base : Heap) (k : Nat) (C : Addr) (m : Str) (sp : Sp) : Prop where
  cl : Cls K C
  ex : ∃ (f : Addr) (fd : FuncData) (ps : List Str), FnX P w K mg base k f fd ps sp ∧ Meth K C m f ∧ Binds K fd ps []
/-- a def with sp that may raise -/
structure CalX (P : Program) (w : World) (K : PySem.W.Frag) (mg : Str → Option Value) (base : Heap) (k : Nat) (x : Str) (sp : Sp) : Prop where
  ex : ∃ (f : Addr) (fd : FuncData) (ps : List Str), FnX P w K mg base k f fd ps sp ∧ mg x = some (.ref f) ∧ PySem.W.keepIn K (.ref f) = true ∧ Binds K fd ps []
def tMakeX (C : Addr) (sp : Sp) (E : L2.St → XK) (t : TA) : TE := fun σ H Q => t σ H fun vs H1 => ∀ x dx, H1 x = none → H1 dx = none → dx ≠ x → sp (.ref x :: vs) (upd (upd H1 dx (.own x)) x (.ins C dx [])) (fun v H2 => v = .non ∧ Q (.ref x) H2) (E σ)
def tMethX (C : Addr) (m : Str) (sp : Sp) (E : L2.St → XK) (ta : TE) (t : TA) : TE := fun σ H Q => ta σ H fun x H1 => ∃ a d fs, x = .ref a ∧ H1 a = some (.ins C d fs) ∧ fs.lookup m = none ∧ t σ H1 fun vs H2 => sp (.ref a :: vs) H2 Q (E σ)
section
variable {X : Cx} {pk : List (Addr × Obj)} {τ : L2.St} {H : Hp} {s : Shared} {k j : Nat} {sp : Sp} {f C : Addr} {fd : FuncData} {ps : List Str} {Z : VK} {us : List Value} {vs : List V} {x m : Str} {p pos apos : Pos} {e o : Expr} {es : List Expr} {t : TA} {ta : TE} {E : L2.St → XK}
theorem run_fnX (F : FnX X.prog X.w X.K X.mg X.base k f fd ps sp) (hr : Room k X.A) (hg : X.A.guards = some []) (hbd : Binds X.K fd ps []) (hx : PassesAt (L2.CX X.prog X.w) X τ (E τ))
    (I : Inv X pk τ H s) (r : Vals vs us) (h : sp vs H Z (E τ)) : wpAny (model X.prog X.w) X.A (call (.ref f) us) (EP X pk τ Z) X.xe s := by
  have hlen : us.length = ps.length := by rw [← r.length]; exact F.len _ _ _ _ h
  refine wpAny_call (codeAny_mono (F.run X.A X.stack s H ⟨us, []⟩ us vs Z (E τ) hr hg I.env0 (by have q := hbd s us I.kIn (by rw [List.append_nil]; exact hlen); rw [List.append_nil] at q; exact q) r h) fun r s' hsq => ?_)
  cases r with
  | error e => exact hx pk H s e s' I hsq
  | ok fl =>
    cases fl with
    | ret u => exact I.after hsq
    | next => exact False.elim hsq
    | brk => exact False.elim hsq
    | cont => exact False.elim hsq
theorem run_mkX (M : Mk X.K C f) (F : FnX X.prog X.w X.K X.mg X.base k f fd ps sp) (hr : Room (k + 1) X.A) (hg : X.A.guards = some []) (hbd : Binds X.K fd ps []) (hx : PassesAt (L2.CX X.prog X.w) X τ (E τ)) (I : Inv X pk τ H s) (r : Vals vs us)
    (h : ∀ y d, H y = none → H d = none → d ≠ y → sp (.ref y :: vs) (upd (upd H d (.own y)) y (.ins C d [])) (fun v H2 => v = .non ∧ Z (.ref y) H2) (E τ)) : wpAny (model X.prog X.w) X.A (call (.ref C) us) (EP X pk τ Z) X.xe s := by
  have q0 := h (s.heap.objs.size + 1) s.heap.objs.size (I.hok.fresh (Nat.le_succ _)) (I.hok.fresh (Nat.le_refl _)) (Nat.ne_of_lt (Nat.lt_succ_self _))
  have J := Inv.made (C := C) I
  have rr : Vals (V.ref (s.heap.objs.size + 1) :: vs) (Value.ref (s.heap.objs.size + 1) :: us) := .cons rfl r
  have hl : ((Value.ref (s.heap.objs.size + 1) :: us) ++ []).length = ps.length := by
    rw [List.append_nil, ← rr.length]
    exact F.len _ _ _ _ q0
  have hb := hbd _ (Value.ref (s.heap.objs.size + 1) :: us) J.kIn hl
  rw [List.append_nil] at hb
  have run := F.run (X.A.under (.builtin "type.__call__" ⟨.ref C :: us, []⟩)) X.stack _ _ ⟨Value.ref (s.heap.objs.size + 1) :: us, []⟩ _ _ _ (E τ) (hr.make C us []) hg (J.env0.make C us []) hb rr q0
  refine wpAny_call (make_map (f := f) I.kIn M.makes M.init (beq_iff_eq.mp M.fn) (codeAny_mono run fun res s' hsq => ?_))
  match res, hsq with
  | .error e, hsq => exact hx pk _ _ e s' J hsq
  | .ok (.ret u), hsq =>
    obtain ⟨v, H4, J4, rv, ev, q4⟩ := J.after hsq
    subst ev
    exact ⟨rv, ⟨V.ref (s.heap.objs.size + 1), H4, J4, rfl, q4⟩⟩
  | .ok .next, hsq => exact False.elim hsq
  | .ok .brk, hsq => exact False.elim hsq
  | .ok .cont, hsq => exact False.elim hsq
theorem pe_mkX (c : MakX X.prog X.w X.K X.mg X.base k x C sp) (hr : Room j X.A) (hg0 : X.A.guards = some []) (hkp : k + 1 ≤ j) (hx : ∀ σ, PassesAt (L2.CX X.prog X.w) X σ (E σ)) (hg : Gl X x) (ha : PA X (e :: es) t)
    (hdb : (x == ("__debug__" : Str)) = false := by decide) (hes : starEach (e :: es) X.env = (false, eval e X.env) :: starEach es X.env := by rfl) (hpl : (backTo pos (starEach es X.env)).any (·.1) = false := by rfl) :
    PE X (.Call (.Name x p) (e :: es) [] pos) (tMakeX C sp E t) := by
  obtain ⟨f, fd, ps, F, M, b⟩ := c.ex
  refine ⟨fun pk s τ H Z I h => ?_⟩
  refine wpAny_Call_Name_kw (ld_glob I hg c.at_ ?_ hdb)
  refine PySem.W.callWith_K (h₀ := X.base) I.ok.mod.kin M.kp (thn (ha.run pos pk s τ H _ I h) fun us st1 ⟨vs, H1, I1, r, q⟩ => ⟨I1.kIn, ?_⟩) hes hpl
  exact run_mkX M F (hr.mono hkp) hg0 b (hx τ) I1 r q
theorem pe_cX (c : CalX X.prog X.w X.K X.mg X.base k x sp) (hr : Room j X.A) (hg0 : X.A.guards = some []) (hkp : k ≤ j) (hx : ∀ σ, PassesAt (L2.CX X.prog X.w) X σ (E σ)) (hg : Gl X x) (ha : PA X (e :: es) t)
    (hdb : (x == ("__debug__" : Str)) = false := by decide) (hes : starEach (e :: es) X.env = (false, eval e X.env) :: starEach es X.env := by rfl) (hpl : (backTo pos (starEach es X.env)).any (·.1) = false := by rfl) :
    PE X (.Call (.Name x p) (e :: es) [] pos) (tCallS sp E t) := by
  obtain ⟨f, fd, ps, F, hmg, kp, b⟩ := c.ex
  refine ⟨fun pk s τ H Z I h => ?_⟩
  refine wpAny_Call_Name_kw (ld_glob I hg hmg ?_ hdb)
  refine PySem.W.callWith_K (h₀ := X.base) I.ok.mod.kin kp (thn (ha.run pos pk s τ H _ I h) fun us st1 ⟨vs, H1, I1, r, q⟩ => ⟨I1.kIn, ?_⟩) hes hpl
  exact run_fnX F (hr.mono hkp) hg0 b (hx τ) I1 r q
theorem pe_mtX {pl : Sem Bool} (c : MetX X.prog X.w X.K X.mg X.base k C m sp) (he : PE X o ta) (hr : Room j X.A) (hg0 : X.A.guards = some []) (hkp : k ≤ j) (hx : ∀ σ, PassesAt (L2.CX X.prog X.w) X σ (E σ)) (ha : PA X (e :: es) t)
    (hes : starEach (e :: es) X.env = (false, eval e X.env) :: starEach es X.env := by rfl) (hpl : (backTo pos (starEach es X.env)).any (·.1) = false := by rfl)
    (hte : eval (.Call (.Attribute o m apos) (e :: es) [] pos) X.env = (do
      let ov ← eval o X.env
      standAt apos.atName
      let (g, first) ← holding [ov] (getMethod ov m pl)
      callWith pos g first (backTo pos (starEach (e :: es) X.env)) (backToKw pos (keywordEach [] X.env))) := by rfl) :
    PE X (.Call (.Attribute o m apos) (e :: es) [] pos) (tMethX C m sp E ta t) := by
  obtain ⟨f, fd, ps, F, M, b⟩ := c.ex
  refine ⟨fun pk s τ H Z I h => PySem.W.methodCall_KW (pl := pl) (thn (he.run pk s τ H _ I h) fun u st1 ⟨y, H1, I1, ry, a, d, fs, ey, ea, l, q⟩ => ?_) hte⟩
  subst ey
  have eu : u = Value.ref a := ry
  subst eu
  refine getmeth_ok I1 ea c.cl M l ?_
  refine PySem.W.callWith_K (first := [.ref a]) (h₀ := X.base) I1.ok.mod.kin M.kp (thn (ha.run pos pk st1 τ H1 _ I1 q) fun us st2 ⟨vs, H2, I2, r, q2⟩ => ⟨I2.kIn, ?_⟩) hes hpl
  exact run_fnX (us := .ref a :: us) (vs := .ref a :: vs) F (hr.mono hkp) hg0 b (hx τ) I2 (.cons rfl r) q2
end
/-- isinstance of the caught error of an own class, whatever its dict: what the class must say -/
structure ExcD (K : PySem.W.Frag) (D : Addr) : Prop where
  hc : (PySem.W.clsIn K D).isSome = true
  hg : PySem.W.findIn K (.ref D) "__getattribute__" = some (some (.builtin "BaseException.__getattribute__"))
  hk : PySem.W.findIn K (.ref D) "__getattr__" = some none
  hs : PySem.W.subIn K (.ref D) (.type "BaseException") = some true
  ha : PySem.W.findIn K (.ref D) "__class__" = some (some (.builtin "object.__class__"))
  hn : PySem.W.specialIn K (.builtin "object.__class__") "__get__" = some (some (.builtin "getset_descriptor.__get__"))
  ht : PySem.W.takesIn K (.builtin "object.__class__") = some true
  hm : PySem.W.mroIn K D (.type "object") = some true
theorem call_isD {X : Cx} {a D : Addr} {oe : Obj} {cls : Value} {d : Option Addr} {pn : List (Addr × Obj)} (hcls : cls = .ref D) (dd : Addr) (fs : List (Str × V)) (hd : d = some dd) (C : ExcD X.K D) (hz : Zc cls d oe) (hf : ∃ vs, oe.data = .fields vs) :
    CallR (X.suite a ((a, oe) :: pn)) (.builtin "isinstance") (fun xs H Q => H dd = some (.xd fs) ∧ rIsE X.K D a xs H Q) := by
  intro pins s σ H xs us Q I r h
  subst hcls hd
  obtain ⟨hx, c, cv, b, rfl, hcv, e, q⟩ := h
  cases r with
  | cons rx rr =>
    cases rr with
    | cons rt rr =>
      cases rr
      cases rx
      have ec := hcv _ rt
      subst ec
      obtain ⟨hget, _⟩ := I.pin (a, oe) (List.mem_append.mpr (.inl List.mem_cons_self))
      obtain ⟨vs, hv⟩ := hf
      have hx : ObjOk X.prog X.w H s.heap dd (.xd fs) := I.hok dd _ hx
      obtain ⟨mA, hns, hr⟩ := hx
      obtain ⟨od, ho, hl⟩ := lookIn_ns hns
      have J : PySem.W.InstAt s.heap a oe D (some od) := ⟨hget, hz.1, by unfold PySem.W.notCls; rw [hv] <;> rfl, by rw [hz.2]; exact ho⟩
      exact PySem.W.kia_one (PySem.W.kitx_exc C.hc C.hg C.hk C.hs C.ha C.hn C.ht C.hm) I.kIn J e (fun z => nomatch z) fun tk => ⟨.bl b, H, I.kept (t' := tk) fun _ _ z => z, rfl, q⟩
end Own

namespace Own
open PySem PySem.Spec PyProof.Rows L2 Evl L2H
/-! ### comprehensions where an exception is handled -/
abbrev hctx (X : Cx) (st : Shared) (G : Hp) (sco : Scope) (cen : Env) (fa : List Addr) : Cx := { X.blk st G sco cen fa with pn := X.pn }
section
variable {X : Cx} {st st' : Shared} {G G' : Hp} {sco : Scope} {cen : Env} {fa : List Addr} {τ τ' : L2.St} {pk pk' : List (Addr × Obj)}
theorem ok_hot (o : (X.blk st G sco cen fa).Ok) : (hctx X st G sco cen fa).Ok := ⟨o.mod, o.kind, o.glob, o.blt, o.above, o.inj, o.has, o.cab, o.hd, o.frames, o.stk, o.exf, o.bs, o.bsz, o.noex, o.exfs, o.funs, o.frf⟩
theorem ok_cool (o : (hctx X st G sco cen fa).Ok) : (X.blk st G sco cen fa).Ok := ⟨o.mod, o.kind, o.glob, o.blt, o.above, o.inj, o.has, o.cab, o.hd, o.frames, o.stk, o.exf, o.bs, o.bsz, o.noex, o.exfs, o.funs, o.frf⟩
theorem inv_hot (I0 : Inv X pk τ G st) (I : Inv (X.blk st G sco cen fa) [] τ' G' st') (hfa : ∀ b ∈ fa, ∀ p ∈ X.pn ++ pk, p.1 ≠ b) : Inv (hctx X st G sco cen fa) [] τ' G' st' := by
  refine ⟨ok_hot I.ok, I.os, I.bare, I.base, I.loc, I.cell, I.free, I.freeC, fun p hp => ?_, I.hok, I.len⟩
  have hp : p ∈ X.pn := by simpa using hp
  have hp2 := List.mem_append_left pk hp
  obtain ⟨z1, z2, z3, z4, z5⟩ := I0.pin p hp2
  have nf : p.1 ∉ frs X.stack := fun hm => (List.mem_cons.mp (I0.stkSub p.1 hm)).elim z3 z4
  have ne : p.1 ∉ fa := fun hm => hfa p.1 hm p hp2 rfl
  exact ⟨I.base.keep p.1 p.2 z1 z2 nf ne, I.base.free p.1 p.2 z1 z2 ne, Nat.ne_of_lt (Nat.lt_of_lt_of_le (Heap.lt_size z1) I.ok.above), nf, z5⟩
theorem inv_cool (I : Inv (hctx X st G sco cen fa) pk' τ' G' st') : Inv (X.blk st G sco cen fa) pk' τ' G' st' :=
  ⟨ok_cool I.ok, I.os, I.bare, I.base, I.loc, I.cell, I.free, I.freeC, fun p hp => I.pin p (List.mem_append_right _ (by simpa using hp)), I.hok, I.len⟩
theorem hotC_h (c : HotC X) : HotC (hctx X st G sco cen fa) := c
theorem pe_lcH {elt tg src : Expr} {conds : List Expr} {own : List (Str × Nat)} {pos : Pos} {wi : TI} {g : TG} {tt : TT} {te : TE} (hot : HotC X) (nd : X.N.Nodup) (hi : PIH X tg src wi) (ok : BlkOk X.N X.env.scope sco own)
    (hg : ∀ (s1 : Shared) (H1 : Hp) (c1 : Addr) (l1 : List (Str × Addr)) (b1 : List Addr), PG (X.blk s1 H1 sco (compEnvC sco l1 c1 X.env) b1) tg g)
    (ht : ∀ (s1 : Shared) (H1 : Hp) (c1 : Addr) (l1 : List (Str × Addr)) (b1 : List Addr), PTs (X.blk s1 H1 sco (compEnvC sco l1 c1 X.env) b1) conds tt)
    (he : ∀ (s1 : Shared) (H1 : Hp) (c1 : Addr) (l1 : List (Str × Addr)) (b1 : List Addr), PE (X.blk s1 H1 sco (compEnvC sco l1 c1 X.env) b1) elt te) (hsrc : ∀ x, foldedSetIterable src X.env x = pure x := by intro _; rfl) :
    PE X (.ListComp elt [⟨tg, src, conds, 0⟩] sco pos) (tLc wi g tt te (own.map (·.2))) := by
  refine ⟨fun pk s0 τ H0 Q I0 h0 => ?_⟩
  rw [eval_ListComp]
  have hcl : ∀ y ∈ sco.names, y.2 = .free → ∃ c, X.env.cells.lookup y.1 = some c := fun y hy e => (ok.free y hy e).elim (fun z => I0.ok.has _ (.inl z)) (fun z => I0.ok.has _ (.inr z))
  refine wpAny_comprehension_free (use := none) rfl hsrc (closure_ok hcl) ok.kind (fun y hy e => by rw [ok.uniq y hy, e]) (thn (hi.run pk s0 τ H0 _ I0 h0) fun xv sA hxv => thn hxv fun itv sB hB => ?_)
  obtain ⟨it, fa, tn, J, HB, e, IB, T, tB, fB, q⟩ := hB
  subst e
  refine wpAny_newObj_type (newEnv_comp ?_) (by show 0 ≤ sizeLine; decide)
  generalize hL : sB.heap.objs.size = L
  have nL : HB L = none := IB.hok.fresh (Nat.le_of_eq hL)
  obtain ⟨W, ⟨mm, wm⟩, turn⟩ := q L nL
  generalize hsC : ({ sB with heap := sB.heap.push { cls := .type "list", data := .seq ([] : List Value).toArray } } : Shared) = sC
  have IC : Inv X pk τ (upd HB L (.lst [])) sC := by
    rw [← hsC]
    refine IB.laid (t' := sB.toks) (fun _ _ z => Heap.get?_push_of_some _ z) (Nat.le_of_eq hL) ⟨Nat.zero_le _, [], 0, .nil, ?_⟩
    rw [← hL]
    exact Heap.get?_push_size _ rfl
  have hpC : sC.heap = sB.heap.push { cls := .type "list", data := .seq ([] : List Value).toArray } := by rw [← hsC]
  have below : ∀ b ∈ fa, b < sB.heap.objs.size := fun b hb => let ⟨_, z, _⟩ := T.obj _ _ tB b hb; Heap.lt_size z
  have fC : ∀ b ∈ fa, FpOk X pk (upd HB L (.lst [])) b ∧ b < sC.heap.objs.size := fun b hb => by
    have lt := below b hb
    refine ⟨⟨?_, (fB b hb).2⟩, by rw [hpC, Heap.size_push]; exact Nat.lt_succ_of_lt lt⟩
    rw [upd_ne (by rw [← hL]; exact Nat.ne_of_lt lt)]
    exact (fB b hb).1
  have tC : tn 0 sC.heap := T.keep _ _ _ tB fun b _ o z => by rw [hpC]; exact Heap.get?_push_of_some _ z
  have ID := block_start IC ok nd fC
  have Pg := hg sC (upd HB L (.lst [])) sC.heap.objs.size (cellsFrom (sC.heap.objs.size + 1) sco.names (cloFrom X.env.cells sco.names [])) fa
  have Pt := ht sC (upd HB L (.lst [])) sC.heap.objs.size (cellsFrom (sC.heap.objs.size + 1) sco.names (cloFrom X.env.cells sco.names [])) fa
  have Pe := he sC (upd HB L (.lst [])) sC.heap.objs.size (cellsFrom (sC.heap.objs.size + 1) sco.names (cloFrom X.env.cells sco.names [])) fa
  show codeAny _ _ (.compStart (.ListComp elt [⟨tg, src, conds, 0⟩] sco pos) 0 (.ref it) (.ref L) (compEnvC sco (cellsFrom (sC.heap.objs.size + 1) sco.names (cloFrom X.env.cells sco.names [])) sC.heap.objs.size X.env)) (compPost (model X.prog X.w) X.A X.xe none _ (.ref L) sC.heap.objs.size) { sC with heap := pushCells (sC.heap.push { cls := .type "dict", data := .dict #[] }) sco.names }
  have nofa : ∀ b ∈ fa, (upd HB L (.lst [])) b = none := fun b hb => (fC b hb).1.1
  have pinfa : ∀ b ∈ fa, ∀ p ∈ X.pn ++ pk, p.1 ≠ b := fun b hb => (fC b hb).1.2.2.2.2.2
  generalize hcen : compEnvC sco (cellsFrom (sC.heap.objs.size + 1) sco.names (cloFrom X.env.cells sco.names [])) sC.heap.objs.size X.env = cen at ID Pg Pt Pe ⊢
  have lcen : cen.locals = sC.heap.objs.size := by subst hcen; rfl
  generalize hHC : upd HB L (.lst []) = HC at IC ID Pg Pt Pe wm nofa fC
  generalize hsD : ({ sC with heap := pushCells (sC.heap.push { cls := .type "dict", data := .dict #[] }) sco.names } : Shared) = sD at ID ⊢
  have tD : tn 0 sD.heap := T.keep _ _ _ tC fun b _ o z => by rw [← hsD]; exact pushCells_keeps _ _ _ _ (Heap.get?_push_of_some _ z)
  have still : ∀ {τ' : L2.St} {H' : Hp} {s' : Shared}, Inv (X.blk sC HC sco cen fa) [] τ' H' s' → (∀ b ∈ fa, H' b = none) → ∀ b ∈ fa, FpOk (X.blk sC HC sco cen fa) [] H' b := fun {τ' H' s'} I' hn b hb =>
    ⟨hn b hb, (I'.ok.exf b hb).1, I'.ok.exfs b hb, .inl hb, fun x c z => (I'.ok.exf b hb).2 x c z, fun p hp => absurd (show p ∈ ([] : List (Addr × Obj)) ++ [] from hp) (by simp)⟩
  have stillH : ∀ {τ' : L2.St} {H' : Hp} {s' : Shared}, Inv (X.blk sC HC sco cen fa) [] τ' H' s' → (∀ b ∈ fa, H' b = none) → ∀ b ∈ fa, FpOk (hctx X sC HC sco cen fa) [] H' b := fun {τ' H' s'} I' hn b hb =>
    ⟨hn b hb, (I'.ok.exf b hb).1, I'.ok.exfs b hb, .inl hb, fun x c z => (I'.ok.exf b hb).2 x c z, fun p hp => pinfa b hb p (List.mem_append_left _ (by simpa using hp))⟩
  have run : codeAny (model X.prog X.w) X.A (.compLoop (.ListComp elt [⟨tg, src, conds, 0⟩] sco pos) 0 (.ref it) (.ref L) cen) (compPost (model X.prog X.w) X.A X.xe none (EP X pk τ Q) (.ref L) sC.heap.objs.size) sD := by
    refine compLoop_any (fun n s' => ∃ i H', Inv (X.blk sC HC sco cen fa) [] (wipe τ (own.map (·.2))) H' s' ∧ tn i s'.heap ∧ (∀ b ∈ fa, H' b = none) ∧ W i n H') ?_ mm ⟨0, HC, ID, tD, nofa, wm⟩
    rintro n sE ⟨i, HE, IE, tE, nE, wE⟩
    rcases turn i n HE wE with ⟨stop, qq⟩ | ⟨go, Nx, hNx, step⟩
    · have td := T.done (hctx X sC HC sco cen fa) rfl rfl rfl (hotC_h hot) i [] sE _ HE (fun _ _ => False) (inv_hot IC IE pinfa) (stillH IE nE) tE stop
      refine thnF td fun r sF ⟨hr, IFh⟩ => ?_
      have IF := inv_cool IFh
      subst hr
      have IX : Inv X pk τ HE sF := IC.call' (ch := fa) IF.os IF.base IF.hok IF.bare fun b hb => ⟨(fC b hb).1.2.2.2.1, (fC b hb).1.2.1, (fC b hb).1.2.2.2.2.1, (fC b hb).1.2.2.2.2.2⟩
      have nC : HE sC.heap.objs.size = none := by
        have z : HE cen.locals = none := IF.free
        rw [lcen] at z
        exact z
      obtain ⟨m, hn, _⟩ := IF.loc
      have hn : sF.heap.Ns cen.locals m := hn
      rw [lcen] at hn
      refine ⟨m, hn, fun h'' sb => ?_⟩
      obtain ⟨_, f1, f2, f3, f4, f5⟩ := IC.fpOk (Nat.le_refl _) nC
      exact ⟨.ref L, HE, IX.turned (t' := sF.toks) (fun b o hb z => (sb.2 b hb).trans z) nC f1 f3 f4 f5, rfl, qq⟩
    · have ti := T.item (hctx X sC HC sco cen fa) rfl rfl rfl (hotC_h hot) i [] sE _ HE (fun _ _ => False) (inv_hot IC IE pinfa) (stillH IE nE) tE go
      refine thnF ti fun r sF ⟨u, hr, hF⟩ => ?_
      subst hr
      refine thnF hF fun _ sG ⟨x, HG, IGh, rG, yG, tG, nG⟩ => ?_
      have IG := inv_cool IGh
      have IG' := IG.pinned (still IG nG) (T.obj _ _ tG)
      refine thnF (Pg.run _ sG _ HG x u _ IG' rG (step x HG yG)) fun _ sK ⟨τK, HK, IK, wK, qK⟩ => ?_
      refine thnF (Pt.run _ sK τK HK _ IK qK) fun b sM ⟨HM, IM, qM⟩ => ?_
      have last : ∀ {s' : Shared} {H' : Hp}, Inv (X.blk sC HC sco cen fa) ([] ++ pinsAt fa sG.heap) τK H' s' → Nx H' → ∃ m, m < n ∧ ∃ i H', Inv (X.blk sC HC sco cen fa) [] (wipe τ (own.map (·.2))) H' s' ∧ tn i s'.heap ∧ (∀ b ∈ fa, H' b = none) ∧ W i m H' := fun {s' H'} I' nx => by
        obtain ⟨m', hm, w'⟩ := hNx H' nx
        have kept : ∀ b ∈ fa, ∀ o, sG.heap.get? b = some o → s'.heap.get? b = some o ∧ H' b = none := fun b hb o z =>
          let y := I'.pin (b, o) (List.mem_append_right _ (List.mem_append_right _ (mem_pinsAt hb z)))
          ⟨y.1, y.2.1⟩
        have hlen : (wipe τ (own.map (·.2))).length = τK.length := by rw [← wK, wipe_length]
        refine ⟨m', hm, i + 1, H', (I'.unpinned (pins := [])).weak hlen (fun j v z => ?_), T.keep _ _ _ tG fun b hb o z => (kept b hb o z).1, fun b hb => ?_, w'⟩
        · rw [← wK] at z
          exact (wipe_some z).1
        · obtain ⟨o, z, _⟩ := T.obj _ _ tG b hb
          exact (kept b hb o z).2
      cases b with
      | false =>
        rw [if_neg Bool.false_ne_true] at qM
        exact last IM qM
      | true =>
        rw [if_pos rfl] at qM
        refine thnF (Pe.run _ sM τK HM _ IM qM) fun z sN ⟨yv, HN, IN, rN, acc, hLN, hz, nx⟩ => ?_
        exact app_ok (X := X.blk sC HC sco cen fa) IN hLN hz rN fun sO IO => last IO nx
  exact codeAny_compStart_list run (T.self X.A 0 _ _ _ tD run)
end
end Own

namespace Own
open PySem PySem.Spec PyProof.Rows L2 Evl L2H
/-! ### defs that are called with the error in hand, in its except suite: what they keep speaks of the error's object -/
abbrev SpP := Addr × Obj → Sp
structure FnP (P : Program) (w : World) (K : PySem.W.Frag) (mg : Str → Option Value) (base : Heap) (k : Nat) (f : Addr) (fd : FuncData) (ps : List Str) (sp : SpP) : Prop where
  len : ∀ ob vs H Z EE, sp ob vs H Z EE → vs.length = ps.length
  run : ∀ (A : Around) (outer : List Env) (s : Shared) (H : Hp) (args : Args) (us : List Value) (vs : List V) (Z : VK) (EE : XK) (ob : Addr × Obj), RoomH k A → Hot1 A ob → PinOk outer H s ob → Env0 P w K mg base A outer s H → BindsTo s fd args (ps.zip us) → Vals vs us → sp ob vs H Z EE →
    codeAny (model P w) A (.call (.ref f) args) (CR CX0 outer P w H s Z EE) s
section
variable {P : Program} {w : World} {K : PySem.W.Frag} {mg : Str → Option Value} {base : Heap}
theorem fn_mkP {x q : Str} {f : Addr} {fd : FuncData} {st : Stmt} {N ps : List Str} {k : Nat} {sp : SpP} (F : Fun K x q st f fd) (S : FnScope N ps (defScope st))
    (len : ∀ ob vs H Z EE, sp ob vs H Z EE → vs.length = ps.length)
    (hbody : ∀ (cdv : Value) (A : Around) (outer : List Env) (s : Shared) (H : Hp) (vs : List V) (Z : VK) (EE : XK) (ob : Addr × Obj), Hot1 A ob → RoomH k (A.deeper (envOfC q (defScope st) s.heap.objs.size f cdv)) → sp ob vs H Z EE →
      ∃ t, PSs (cxH CX0 P w K mg base N q (defScope st) f cdv A outer s H EE ob) (defBody st) t ∧ t { nx := fun _ H' => Z .non H', rt := Z } (start N vs) H) : FnP P w K mg base (k + 1) f fd ps sp := by
  obtain ⟨oc, od, kV, doc, pm, an, cdv, ct, sl, rfl, lkp, hcd⟩ := F.ex
  refine ⟨len, fun A outer s H args us vs Z EE ob hr hot hpi e0 hbt r hsp => ?_⟩
  have hlen := len _ _ _ _ _ hsp
  have KI : K.In s.heap := e0.mod.kin.keeps fun b o e => (e0.bs b o e).1
  have nlm : s.heap.NoLimit := e0.mod.nolimit.keeps fun b o e => (e0.bs b o e).1
  have hkind : ∀ y ∈ ps.zip us, (defScope st).names.lookup y.1 = some .local ∨ ((defScope st).names.lookup y.1 = some .cell ∧ ((cellsFrom (s.heap.objs.size + 1) (defScope st).names []).lookup y.1).isSome = true) := fun ⟨n, v⟩ hyy => by
    rcases S.par n (List.of_mem_zip hyy).1 with qq | qq
    · exact .inl qq
    · exact .inr ⟨qq, PySem.W.cellsFrom_some _ _ _ (.inl qq)⟩
  refine codeAny_call_function hr.depth (KI _ _ lkp) rfl S.co S.gen rfl (PySem.W.codeRec_of KI hcd) (hbt _ _ _ _ ?_)
  refine wpAny_newFunctionEnv_cells S.kind hkind fun env hes st1 xx => ?_
  subst hes
  refine ⟨nlm.keeps xx.toInCall.keep, codeAny_func ?_⟩
  obtain ⟨t, ht, hsq⟩ := hbody cdv A outer s H vs Z EE ob hot (hr.deeper _) hsp
  have I : Inv (cxH CX0 P w K mg base N q (defScope st) f cdv A outer s H EE ob) [] (start N vs) H st1 := inv_startH S hpi e0 hlen r xx
  refine wpAny_mono (ht.run [] st1 (start N vs) H _ I hsq) (fun fl s' hst => ?_) fun e s' hst => hst
  have ready : ∀ {τ' : L2.St} {H' : Hp} {v : V} {u : Value}, Inv (cxH CX0 P w K mg base N q (defScope st) f cdv A outer s H EE ob) [] τ' H' s' → RelV v u → Z v H' → CE outer P w H s Z u s' :=
    fun {τ' H' v u} J rv qq => ⟨v, H', J.os, J.bare, J.base, J.hok, rv, qq⟩
  cases fl with
  | ret u =>
    obtain ⟨v, τ', H', J, rv, qq⟩ := hst
    exact ready J rv qq
  | next =>
    obtain ⟨τ', H', J, qq⟩ := hst
    exact ready (v := V.non) (u := Value.none) J rfl qq
  | brk =>
    obtain ⟨_, _, _, qq⟩ := hst
    exact False.elim qq
  | cont =>
    obtain ⟨_, _, _, qq⟩ := hst
    exact False.elim qq
end
structure CalP (P : Program) (w : World) (K : PySem.W.Frag) (mg : Str → Option Value) (base : Heap) (k : Nat) (x : Str) (sp : SpP) : Prop where
  ex : ∃ (f : Addr) (fd : FuncData) (ps : List Str), FnP P w K mg base k f fd ps sp ∧ mg x = some (.ref f) ∧ PySem.W.keepIn K (.ref f) = true ∧ Binds K fd ps []
def tCallP (sp : Sp) (t : TA) : TE := fun σ H Q => t σ H fun vs H1 => sp vs H1 Q (fun _ _ _ => False)
section
variable {X : Cx} {pk : List (Addr × Obj)} {τ : L2.St} {H : Hp} {s : Shared} {k j : Nat} {sp : SpP} {f : Addr} {fd : FuncData} {ps : List Str} {Z : VK} {us : List Value} {vs : List V} {x m : Str} {p pos : Pos} {e : Expr} {es : List Expr} {t : TA} {ob : Addr × Obj}
theorem run_fnP (F : FnP X.prog X.w X.K X.mg X.base k f fd ps sp) (hr : RoomH k X.A) (hot : Hot1 X.A ob) (hob : ob ∈ X.pn) (hbd : Binds X.K fd ps [])
    (I : Inv X pk τ H s) (r : Vals vs us) (h : sp ob vs H Z (fun _ _ _ => False)) : wpAny (model X.prog X.w) X.A (call (.ref f) us) (EP X pk τ Z) X.xe s := by
  have hlen : us.length = ps.length := by rw [← r.length]; exact F.len _ _ _ _ _ h
  obtain ⟨z1, z2, z3, z4, z5⟩ := I.pin ob (List.mem_append_left _ hob)
  have hpi : PinOk X.stack H s ob := ⟨z1, z2, fun hm => (List.mem_cons.mp (I.stkSub ob.1 hm)).elim z3 z4, z5⟩
  refine wpAny_call (codeAny_mono (F.run X.A X.stack s H ⟨us, []⟩ us vs Z _ ob hr hot hpi I.env0 (by have q := hbd s us I.kIn (by rw [List.append_nil]; exact hlen); rw [List.append_nil] at q; exact q) r h) fun r s' hsq => ?_)
  cases r with
  | error e => exact absurd hsq (by intro q; exact q.elim)
  | ok fl =>
    cases fl with
    | ret u => exact I.after hsq
    | next => exact False.elim hsq
    | brk => exact False.elim hsq
    | cont => exact False.elim hsq
theorem pe_cP (c : CalP X.prog X.w X.K X.mg X.base k x sp) (hr : RoomH k X.A) (hot : Hot1 X.A ob) (hob : ob ∈ X.pn) (hg : Gl X x) (ha : PA X (e :: es) t)
    (hdb : (x == ("__debug__" : Str)) = false := by decide) (hes : starEach (e :: es) X.env = (false, eval e X.env) :: starEach es X.env := by rfl) (hpl : (backTo pos (starEach es X.env)).any (·.1) = false := by rfl) :
    PE X (.Call (.Name x p) (e :: es) [] pos) (tCallP (sp ob) t) := by
  obtain ⟨f, fd, ps, F, hmg, kp, b⟩ := c.ex
  refine ⟨fun pk s τ H Z I h => ?_⟩
  refine wpAny_Call_Name_kw (ld_glob I hg hmg ?_ hdb)
  refine PySem.W.callWith_K (h₀ := X.base) I.ok.mod.kin kp (thn (ha.run pos pk s τ H _ I h) fun us st1 ⟨vs, H1, I1, r, q⟩ => ⟨I1.kIn, ?_⟩) hes hpl
  exact run_fnP F hr hot hob b I1 r q
end
/-! ### the error in hand -/
/-- what is known of the error's object -/
structure ErO (ob : Addr × Obj) (D : Addr) (d : Option Addr) : Prop where
  cls : ob.2.cls = .ref D
  dct : ob.2.dict = d
  dat : ∃ vs, ob.2.data = .fields vs
/-- its fields, where it has some -/
def ErD (H : Hp) (d : Option Addr) : Prop := d = none ∨ ∃ dd fs, d = some dd ∧ H dd = some (.xd fs)
theorem inst_of {X : Cx} {pk : List (Addr × Obj)} {τ : L2.St} {H : Hp} {s : Shared} {ob : Addr × Obj} {D : Addr} {d : Option Addr} (I : Inv X pk τ H s) (hob : ob ∈ X.pn) (O : ErO ob D d) (hd : ErD H d) : ∃ od, PySem.W.InstAt s.heap ob.1 ob.2 D od := by
  obtain ⟨hget, _⟩ := I.pin ob (List.mem_append_left _ hob)
  obtain ⟨h1, h2, vs, h3⟩ := O
  rcases hd with rfl | ⟨dd, fs, rfl, hx⟩
  · refine ⟨none, hget, h1, by unfold PySem.W.notCls; rw [h3] <;> rfl, by rw [h2]; trivial⟩
  · have hx : ObjOk X.prog X.w H s.heap dd (.xd fs) := I.hok dd _ hx
    obtain ⟨mA, hns, hr⟩ := hx
    obtain ⟨od, ho, hl⟩ := lookIn_ns hns
    exact ⟨some od, hget, h1, by unfold PySem.W.notCls; rw [h3] <;> rfl, by rw [h2]; exact ho⟩
theorem call_isP {X : Cx} {ob : Addr × Obj} {D : Addr} {d : Option Addr} (C : ExcC X.K D) (hob : ob ∈ X.pn) (O : ErO ob D d) : CallR X (.builtin "isinstance") (fun xs H Q => ErD H d ∧ rIsE X.K D ob.1 xs H Q) := by
  intro pk s τ H xs us Q I r h
  obtain ⟨hd, c, cv, b, rfl, hcv, e, q⟩ := h
  cases r with
  | cons rx rr =>
    cases rr with
    | cons rt rr =>
      cases rr
      cases rx
      have ec := hcv _ rt
      subst ec
      obtain ⟨od, J⟩ := inst_of I hob O hd
      have hc : (PySem.W.clsIn X.K D).isSome = true := by
        obtain ⟨cd, hc, _⟩ := PySem.W.any_some C.hd
        rw [hc]
        rfl
      have fin : ∀ tk, EP X pk τ Q (.bool b) { s with toks := tk } := fun tk => ⟨.bl b, H, I.kept (t' := tk) fun _ _ z => z, rfl, q⟩
      cases od with
      | none => exact PySem.W.kia_one (PySem.W.handS_kitx_exc C.hg C.hk C.hs C.hd C.ha C.hn C.ht C.hm) I.kIn J e (fun z => nomatch z) fin
      | some od => exact PySem.W.kia_one (PySem.W.kitx_exc hc C.hg C.hk C.hs C.ha C.hn C.ht C.hm) I.kIn J e (fun z => nomatch z) fin
theorem pe_xfP {X : Cx} {ob : Addr × Obj} {D : Addr} {d : Option Addr} {e : Expr} {te : TE} {pos : Pos} {n : Str} (C : ExcC X.K D) (hno : PySem.W.findIn X.K (.ref D) n = some none) (hob : ob ∈ X.pn) (O : ErO ob D d) (he : PE X e te)
    (hb : attributeBase e n X.env (eval e X.env) = eval e X.env := by rfl) : PE X (.Attribute e n pos) (tXf ob.1 (.ref D) d D n te) := by
  refine ⟨fun pk s τ H Q I h => ?_⟩
  refine attr_of hb (thn (he.run pk s τ H _ I h) fun u sA hh => ?_)
  obtain ⟨x, HA, IA, rx, ex, _, dd, fs, v, ed, ea, l, q⟩ := hh
  subst ex
  obtain rfl : u = Value.ref ob.1 := rx
  obtain ⟨hget, _⟩ := IA.pin ob (List.mem_append_left _ hob)
  obtain ⟨h1, h2, vs, h3⟩ := O
  have hx : ObjOk X.prog X.w HA sA.heap dd (.xd fs) := IA.hok dd _ ea
  obtain ⟨mA, hns, hr⟩ := hx
  obtain ⟨od, ho, hl⟩ := lookIn_ns hns
  obtain ⟨u, hu, ru⟩ := RelO.some_of (v := v) (o := mA n) (by rw [← l]; exact hr n)
  have J : PySem.W.InstAt sA.heap ob.1 ob.2 D (some od) := ⟨hget, h1, by unfold PySem.W.notCls; rw [h3] <;> rfl, by rw [h2, ed]; exact ho⟩
  exact HandSPX.exc_get IA.kIn J C.hg C.hk C.hs (PySem.W.findObj_own C.hd hno rfl (by rw [hl, hu])) (handed_of ru) ⟨v, HA, IA.tok _, ru, q⟩
/-! ### lists of the very same things are equal -/
def plV : V → Bool | .non => true | .bl _ => true | .int _ => true | .str _ => true | .ref _ => true | _ => false
def rEqS (K : PySem.W.Frag) : R2 := fun x y H Q => ∃ (a b : Addr) (xs : List V), x = .ref a ∧ y = .ref b ∧ SqL K H a xs ∧ SqL K H b xs ∧ xs.all plV = true ∧ Q (.bl true) H
theorem same_at {P : Program} {w : World} {s : Shared} {v : V} {u u' : Value} (h : plV v = true) (r : RelV v u) (r' : RelV v u') : PySem.W.EqTree P w s 0 u u' true := by
  cases v with
  | non => cases r; cases r'; exact .same
  | bl b => cases r; cases r'; exact .same
  | ref a => cases r; cases r'; exact .same
  | int i =>
    obtain ⟨t, rfl⟩ := r
    obtain ⟨t', rfl⟩ := r'
    refine .leaf fun A _ => ?_
    have z := PySem.SeqAt.EqAt.int_int (A := A) (s := s) i t i t'
    rw [beq_self_eq_true] at z
    exact z
  | str i =>
    obtain ⟨t, rfl⟩ := r
    obtain ⟨t', rfl⟩ := r'
    refine .leaf fun A _ => ?_
    have z := PySem.SeqAt.EqAt.str_str (A := A) (s := s) i t i t'
    rw [beq_self_eq_true] at z
    exact z
  | _ => cases h
theorem op_eqS {X : Cx} (hu : X.A.units + 64 < cLine) : OpR X (compareOp .Eq) (rEqS X.K) := by
  intro pk s τ H x y v u Q I rx ry h
  obtain ⟨a, b, xs, rfl, rfl, ha, hb, hpl, q⟩ := h
  cases rx
  cases ry
  obtain ⟨ua, ra, la, _⟩ := I.list ha
  obtain ⟨ub, rb, lb, _⟩ := I.list hb
  have hsz : ua.toArray.size = ub.toArray.size := by rw [List.size_toArray, List.size_toArray, ← ra.length, ← rb.length]
  refine PySem.W.eq_listsT (n := 0) (e := fun _ => true) la.isList lb.isList hsz (fun j h1 h2 => ?_) (by omega) ⟨.bl true, H, I, ?_, q⟩
  · have hj : j < xs.length := by rw [ra.length]; simpa using h1
    obtain ⟨u1, e1, r1⟩ := ra.get (x := xs[j]) (List.getElem?_eq_getElem hj)
    obtain ⟨u2, e2, r2⟩ := rb.get (x := xs[j]) (List.getElem?_eq_getElem hj)
    have p1 : ua.toArray[j] = u1 := by
      have z : ua[j]? = some (ua.toArray[j]) := by simp
      rw [z] at e1
      exact Option.some.inj e1
    have p2 : ub.toArray[j] = u2 := by
      have z : ub[j]? = some (ub.toArray[j]) := by simp
      rw [z] at e2
      exact Option.some.inj e2
    rw [p1, p2]
    exact same_at (List.all_eq_true.mp hpl _ (List.getElem_mem hj)) r1 r2
  · show Value.bool _ = Value.bool true
    congr 1
    exact List.all_eq_true.mpr fun _ _ => rfl
end Own

namespace Own
open PySem PySem.Spec PyProof.Rows L2 Evl L2H
/-! ### defs that may raise, the error's context being told to be None -/
structure FnN (P : Program) (w : World) (K : PySem.W.Frag) (mg : Str → Option Value) (base : Heap) (k : Nat) (f : Addr) (fd : FuncData) (ps : List Str) (sp : Sp) : Prop where
  len : ∀ vs H Z EE, sp vs H Z EE → vs.length = ps.length
  run : ∀ (A : Around) (outer : List Env) (s : Shared) (H : Hp) (args : Args) (us : List Value) (vs : List V) (Z : VK) (EE : XK), Room k A → A.guards = some [] → Env0 P w K mg base A outer s H → BindsTo s fd args (ps.zip us) → Vals vs us → sp vs H Z EE →
    codeAny (model P w) A (.call (.ref f) args) (CR (L2N.CX P w) outer P w H s Z EE) s
structure CalN (P : Program) (w : World) (K : PySem.W.Frag) (mg : Str → Option Value) (base : Heap) (k : Nat) (x : Str) (sp : Sp) : Prop where
  ex : ∃ (f : Addr) (fd : FuncData) (ps : List Str), FnN P w K mg base k f fd ps sp ∧ mg x = some (.ref f) ∧ PySem.W.keepIn K (.ref f) = true ∧ Binds K fd ps []
section
variable {P : Program} {w : World} {K : PySem.W.Frag} {mg : Str → Option Value} {base : Heap}
theorem fn_mkN {x q : Str} {f : Addr} {fd : FuncData} {st : Stmt} {N ps : List Str} {k : Nat} {sp : Sp} (F : Fun K x q st f fd) (S : FnScope N ps (defScope st))
    (len : ∀ vs H Z EE, sp vs H Z EE → vs.length = ps.length)
    (hbody : ∀ (cdv : Value) (A : Around) (outer : List Env) (s : Shared) (H : Hp) (vs : List V) (Z : VK) (EE : XK), Room k (A.deeper (envOfC q (defScope st) s.heap.objs.size f cdv)) → (A.deeper (envOfC q (defScope st) s.heap.objs.size f cdv)).guards = some [] → sp vs H Z EE →
      ∃ t, PSs (cxOf (L2N.CX P w) P w K mg base N q (defScope st) f cdv A outer s H EE) (defBody st) t ∧ t { nx := fun _ H' => Z .non H', rt := Z } (start N vs) H) : FnN P w K mg base (k + 1) f fd ps sp := by
  obtain ⟨oc, od, kV, doc, pm, an, cdv, ct, sl, rfl, lkp, hcd⟩ := F.ex
  refine ⟨len, fun A outer s H args us vs Z EE hr hg e0 hbt r hsp => ?_⟩
  have hlen := len _ _ _ _ hsp
  have KI : K.In s.heap := e0.mod.kin.keeps fun b o e => (e0.bs b o e).1
  have nlm : s.heap.NoLimit := e0.mod.nolimit.keeps fun b o e => (e0.bs b o e).1
  have hkind : ∀ y ∈ ps.zip us, (defScope st).names.lookup y.1 = some .local ∨ ((defScope st).names.lookup y.1 = some .cell ∧ ((cellsFrom (s.heap.objs.size + 1) (defScope st).names []).lookup y.1).isSome = true) := fun ⟨n, v⟩ hyy => by
    rcases S.par n (List.of_mem_zip hyy).1 with qq | qq
    · exact .inl qq
    · exact .inr ⟨qq, PySem.W.cellsFrom_some _ _ _ (.inl qq)⟩
  refine codeAny_call_function hr.depth (KI _ _ lkp) rfl S.co S.gen rfl (PySem.W.codeRec_of KI hcd) (hbt _ _ _ _ ?_)
  refine wpAny_newFunctionEnv_cells S.kind hkind fun env hes st1 xx => ?_
  subst hes
  refine ⟨nlm.keeps xx.toInCall.keep, codeAny_func ?_⟩
  obtain ⟨t, ht, hsq⟩ := hbody cdv A outer s H vs Z EE (hr.deeper _) hg hsp
  have I : Inv (cxOf (L2N.CX P w) P w K mg base N q (defScope st) f cdv A outer s H EE) [] (start N vs) H st1 := inv_start S hr.hd e0 hlen r xx
  refine wpAny_mono (ht.run [] st1 (start N vs) H _ I hsq) (fun fl s' hst => ?_) fun e s' hst => hst
  have ready : ∀ {τ' : L2.St} {H' : Hp} {v : V} {u : Value}, Inv (cxOf (L2N.CX P w) P w K mg base N q (defScope st) f cdv A outer s H EE) [] τ' H' s' → RelV v u → Z v H' → CE outer P w H s Z u s' :=
    fun {τ' H' v u} J rv qq => ⟨v, H', J.os, J.bare, J.base, J.hok, rv, qq⟩
  cases fl with
  | ret u =>
    obtain ⟨v, τ', H', J, rv, qq⟩ := hst
    exact ready J rv qq
  | next =>
    obtain ⟨τ', H', J, qq⟩ := hst
    exact ready (v := V.non) (u := Value.none) J rfl qq
  | brk =>
    obtain ⟨_, _, _, qq⟩ := hst
    exact False.elim qq
  | cont =>
    obtain ⟨_, _, _, qq⟩ := hst
    exact False.elim qq
theorem cal_mkN {x : Str} {st : Stmt} {N ps : List Str} {k : Nat} {sp : Sp} (D : Df K mg x st) (S : FnScope N ps (defScope st))
    (hbd : ∀ (kV doc pm : Value) (an : Option Addr) (cdv ct : Value) (us : List Value), us.length = ps.length → bindArgs (PySem.W.fnOf x x (defArgs st) (defBody st) (defScope st) .none kV doc pm an cdv ct) ⟨us, []⟩ = pure (ps.zip us))
    (len : ∀ vs H Z EE, sp vs H Z EE → vs.length = ps.length)
    (hbody : ∀ (f : Addr) (cdv : Value) (A : Around) (outer : List Env) (s : Shared) (H : Hp) (vs : List V) (Z : VK) (EE : XK), Room k (A.deeper (envOfC x (defScope st) s.heap.objs.size f cdv)) → (A.deeper (envOfC x (defScope st) s.heap.objs.size f cdv)).guards = some [] → sp vs H Z EE →
      ∃ t, PSs (cxOf (L2N.CX P w) P w K mg base N x (defScope st) f cdv A outer s H EE) (defBody st) t ∧ t { nx := fun _ H' => Z .non H', rt := Z } (start N vs) H) : CalN P w K mg base (k + 1) x sp := by
  obtain ⟨f, fd, hmg, F⟩ := D.ex
  exact ⟨f, fd, ps, fn_mkN F S len (hbody f), hmg, F.kp, F.binds hbd⟩
theorem cal_mkP {x : Str} {st : Stmt} {N ps : List Str} {k : Nat} {sp : SpP} (D : Df K mg x st) (S : FnScope N ps (defScope st))
    (hbd : ∀ (kV doc pm : Value) (an : Option Addr) (cdv ct : Value) (us : List Value), us.length = ps.length → bindArgs (PySem.W.fnOf x x (defArgs st) (defBody st) (defScope st) .none kV doc pm an cdv ct) ⟨us, []⟩ = pure (ps.zip us))
    (len : ∀ ob vs H Z EE, sp ob vs H Z EE → vs.length = ps.length)
    (hbody : ∀ (f : Addr) (cdv : Value) (A : Around) (outer : List Env) (s : Shared) (H : Hp) (vs : List V) (Z : VK) (EE : XK) (ob : Addr × Obj), Hot1 A ob → RoomH k (A.deeper (envOfC x (defScope st) s.heap.objs.size f cdv)) → sp ob vs H Z EE →
      ∃ t, PSs (cxH CX0 P w K mg base N x (defScope st) f cdv A outer s H EE ob) (defBody st) t ∧ t { nx := fun _ H' => Z .non H', rt := Z } (start N vs) H) : CalP P w K mg base (k + 1) x sp := by
  obtain ⟨f, fd, hmg, F⟩ := D.ex
  exact ⟨f, fd, ps, fn_mkP F S len (hbody f), hmg, F.kp, F.binds hbd⟩
end
section
variable {X : Cx} {pk : List (Addr × Obj)} {τ : L2.St} {H : Hp} {s : Shared} {k j : Nat} {sp : Sp} {f C : Addr} {fd : FuncData} {ps : List Str} {Z : VK} {us : List Value} {vs : List V} {x m : Str} {p pos apos : Pos} {e o : Expr} {es : List Expr} {t : TA} {ta : TE} {E : L2.St → XK}
theorem run_fnN (F : FnN X.prog X.w X.K X.mg X.base k f fd ps sp) (hr : Room k X.A) (hg : X.A.guards = some []) (hbd : Binds X.K fd ps []) (hx : PassesAt (L2N.CX X.prog X.w) X τ (E τ))
    (I : Inv X pk τ H s) (r : Vals vs us) (h : sp vs H Z (E τ)) : wpAny (model X.prog X.w) X.A (call (.ref f) us) (EP X pk τ Z) X.xe s := by
  have hlen : us.length = ps.length := by rw [← r.length]; exact F.len _ _ _ _ h
  refine wpAny_call (codeAny_mono (F.run X.A X.stack s H ⟨us, []⟩ us vs Z (E τ) hr hg I.env0 (by have q := hbd s us I.kIn (by rw [List.append_nil]; exact hlen); rw [List.append_nil] at q; exact q) r h) fun r s' hsq => ?_)
  cases r with
  | error e => exact hx pk H s e s' I hsq
  | ok fl =>
    cases fl with
    | ret u => exact I.after hsq
    | next => exact False.elim hsq
    | brk => exact False.elim hsq
    | cont => exact False.elim hsq
theorem pe_cN (c : CalN X.prog X.w X.K X.mg X.base k x sp) (hr : Room j X.A) (hg0 : X.A.guards = some []) (hkp : k ≤ j) (hx : ∀ σ, PassesAt (L2N.CX X.prog X.w) X σ (E σ)) (hg : Gl X x) (ha : PA X (e :: es) t)
    (hdb : (x == ("__debug__" : Str)) = false := by decide) (hes : starEach (e :: es) X.env = (false, eval e X.env) :: starEach es X.env := by rfl) (hpl : (backTo pos (starEach es X.env)).any (·.1) = false := by rfl) :
    PE X (.Call (.Name x p) (e :: es) [] pos) (tCallS sp E t) := by
  obtain ⟨f, fd, ps, F, hmg, kp, b⟩ := c.ex
  refine ⟨fun pk s τ H Z I h => ?_⟩
  refine wpAny_Call_Name_kw (ld_glob I hg hmg ?_ hdb)
  refine PySem.W.callWith_K (h₀ := X.base) I.ok.mod.kin kp (thn (ha.run pos pk s τ H _ I h) fun us st1 ⟨vs, H1, I1, r, q⟩ => ⟨I1.kIn, ?_⟩) hes hpl
  exact run_fnN F (hr.mono hkp) hg0 b (hx τ) I1 r q
end
/-! ### errors made -/
section
variable {X : Cx} {x : Str} {C : Addr} {p pos : Pos}
theorem pmk_oexN {CX : CXT} {e : Expr} {es : List Expr} {ta : TA} {fi : Addr} {k : Nat} {fd : FuncData} {ps : List Str} {sp : Sp} (T : OexC X.K C) (iC : PySem.W.findIn X.K (.ref C) "__init__" = some (some (.ref fi))) (tI : PySem.W.typeIn X.K (.ref fi) = some (.type "function"))
    (F1 : FnOk X.prog X.w X.K X.mg X.base CX k fi fd ps sp) (hr : Room (k + 1) X.A) (hb : Binds X.K fd ps []) (hx : Passes CX X (fun _ _ _ => False)) (hg : Gl X x) (hm : X.mg x = some (.ref C)) (ha : PA X (e :: es) ta)
    (hdb : (x == ("__debug__" : Str)) = false := by decide) (hes : starEach (e :: es) X.env = (false, eval e X.env) :: starEach es X.env := by rfl) (hpl : (backTo pos (starEach es X.env)).any (·.1) = false := by rfl) :
    L2N.PMk X (.Call (.Name x p) (e :: es) [] pos) (tMkO C sp [] ta) := by
  intro pk s τ H Q I h
  obtain ⟨_, _, _, _, tl, _, _, _, _, _, _, _, _, _, _, lC, hbm⟩ := T.cls
  refine wpAny_Call_Name_kw (ld_glob I hg hm ?_ hdb)
  refine PySem.W.callWith_K (h₀ := X.base) I.ok.mod.kin T.kC (thn (ha.run pos pk s τ H _ I h) fun us sA ⟨vs, HA, IA, rA, hz, qA⟩ => ⟨IA.kIn, ?_⟩) hes hpl
  show wpAny _ _ (call (.ref C) us) _ _ _
  obtain ⟨hA, gA, dA, tA, oA⟩ := sA
  generalize hn0 : hA.objs.size = n0
  have hle : hA.objs.size ≤ n0 + 1 := by rw [hn0]; exact Nat.le_succ _
  have hfr : HA (n0 + 1) = none := IA.hok.fresh hle
  have qB := qA (n0 + 1) hfr
  rw [List.append_nil] at qB
  generalize hhB : (hA.push (PySem.W.kdv_tup us)).push (PySem.HandSPX.excO C n0) = hB
  have kB : ∀ b o, hA.get? b = some o → hB.get? b = some o := fun b o z => by rw [← hhB]; exact Heap.get?_push_of_some _ (Heap.get?_push_of_some _ z)
  have gB : hB.get? (n0 + 1) = some (PySem.HandSPX.excO C n0) := by
    rw [← hhB, ← hn0]
    heap_get
  have IB : Inv X pk τ (upd HA (n0 + 1) (exo (n0 + 1) C none)) ⟨hB, gA, dA, tA, oA⟩ := IA.laid (t' := tA) (a := n0 + 1) (o := exo (n0 + 1) C none) (h' := hB) kB hle (exo_ok gB)
  have rB : Vals (V.ref (n0 + 1) :: vs) (Value.ref (n0 + 1) :: us) := .cons rfl rA
  have hlen : (Value.ref (n0 + 1) :: us ++ []).length = ps.length := by
    have z := rB.length
    rw [F1.len _ _ _ _ qB] at z
    rw [List.append_nil]
    exact z.symm
  have hus : us.length ≤ sizeLine := by
    rw [← Paired.length rA, sizeLine_eq]
    omega
  have bB := hb _ (Value.ref (n0 + 1) :: us) IB.kIn hlen
  rw [List.append_nil] at bB
  have run := F1.run (X.A.under (.builtin "type.__call__" ⟨.ref C :: us, []⟩)) X.stack _ _ ⟨Value.ref (n0 + 1) :: us, []⟩ (Value.ref (n0 + 1) :: us) _ _ (fun _ _ _ => False) (hr.make C us []) (IB.env0.make C us []) bB rB qB
  subst hn0 hhB
  refine wpAny_call (PySem.HandSPX.call_own F.excBase_ValueError (fun Y => PySem.HandSPX.refsVE_contains Y tl hbm) (IA.kIn _ _ lC) (PySem.W.looks_findIn IA.kIn iC) (fun self => PySem.W.bind_fn IA.kIn self tI) hus (codeAny_mono run fun r s' hst => ?_))
  cases r with
  | error er => exact hx pk τ _ _ er s' IB hst
  | ok fl =>
    cases fl with
    | ret u =>
      obtain ⟨v, HC, oC, bC, uC, hokC, rv, ev, d, fs, ea, ed, hdn, qC⟩ := hst
      subst ev
      obtain ⟨hC, gC, dC, tC, oC'⟩ := s'
      obtain ⟨t0, G, J, kG, ge, hoe, na⟩ := mk_end0 (d2 := dC) (t2 := tC) IA hle kB uC hokC oC bC ea ed hdn
      exact ⟨rv, ⟨hA.objs.size + 1, _, _, ⟨G, gC, dC, tC, oC'⟩, _, .ref C, some d, rfl, J, kG, ge, hoe, ⟨rfl, rfl, fun vs hv => by cases hv; rfl⟩, rfl, rfl, na, rfl, bC, raises_own T.exC T.tyC, qC⟩⟩
    | next => exact False.elim hst
    | brk => exact False.elim hst
    | cont => exact False.elim hst
theorem pmk_own0N {bmB : List Value} {B newId initId : String} (F : ExcBaseFacts B newId initId bmB) (q : PySem.W.excIn X.K C bmB newId = true) (gC : X.mg x = some (.ref C)) (kC : PySem.W.keepIn X.K (.ref C) = true) (r : Raises X (.ref C)) (hg : Gl X x)
    (hdb : (x == ("__debug__" : Str)) = false := by decide) : L2N.PMk X (.Call (.Name x p) [] [] pos) (fun _ H Q => Q (.ref C) none H) := by
  intro pk s τ H Q I h
  refine wpAny_Call_Name_kw (ld_glob I hg gC ?_ hdb)
  refine PySem.W.callWith_K0 I.kIn kC ?_
  obtain ⟨bm, N, nm, qn, bs, hdct, sn, sub, ab, col, dd, k0, k1, k2, k3, k5, mN, hC, hN, hni, T⟩ := exc_obj I.kIn q
  refine wpAny_call_exc_subT F T hC hN hni (fun h' e hm => ?_) (Nat.zero_le _)
  exact L2N.mk_of I hm r h (I.hok.gone hm.new)
end
end Own

namespace Own
open PySem PySem.Spec PyProof.Rows L2 Evl
/-! ### sets of texts -/
/-- the set at a holds just the texts l; it can be walked -/
def SetX (P : Program) (w : World) (h : Heap) (a : Addr) (l : List Str) : Prop :=
  ∃ D : Froz.SD, h.get? a = some (Froz.sObj "set" D) ∧ Froz.TxOk P w D l ∧ l.Nodup ∧ Ris D.2.2.place.toList ∧ (w.params.followText "set-order" = true ∨ D.2.2.led = true)
theorem tail_ris {ep : Nat} {es : Array (Int × Value)} {t : SetTable} {b : Bool} (r : Ris t.place.toList) : Ris (Froz.tailTx ep es t b).2.2.place.toList := by
  unfold Froz.tailTx
  split
  · exact relayAll_ris _ _ _
  · exact r
theorem tail_led {ep : Nat} {es : Array (Int × Value)} {t : SetTable} {b : Bool} : (Froz.tailTx ep es t b).2.2.led = t.led := by
  unfold Froz.tailTx
  split
  · exact relayAll_led _ _ _
  · rfl
theorem add_ris {D : Froz.SD} {hh : Int} {v : Value} (r : Ris D.2.2.place.toList) : Ris (Froz.addTx hh v D).2.2.place.toList := by
  unfold Froz.addTx
  refine tail_ris ?_
  have z := layNew_ris D.2.2 D.1 hh v r
  split
  · exact z
  · exact z
theorem add_led {D : Froz.SD} {hh : Int} {v : Value} : (Froz.addTx hh v D).2.2.led = D.2.2.led := by
  unfold Froz.addTx
  rw [tail_led]
  have z := layNew_led D.2.2 D.1 hh v
  split
  · exact z
  · exact z
section
variable {P : Program} {w : World} {A : Around} {E : Value → Shared → Prop} {s : Shared} {h h' : Heap} {a : Addr} {l : List Str}
theorem SetX.at (R : SetX P w h a l) (k : ∀ o, h.get? a = some o → h'.get? a = some o) : SetX P w h' a l := by
  obtain ⟨D, ho, r⟩ := R
  exact ⟨D, k _ ho, r⟩
theorem SetX.fresh (ho : h.get? a = some { cls := .type "set", dict := none, data := .set #[] 0 (.fresh 0 0 (!w.params.followText "set-order")) }) : SetX P w h a [] := by
  refine ⟨(#[], 0, .fresh 0 0 (!w.params.followText "set-order")), ho, .nil rfl, .nil, List.Pairwise.nil, ?_⟩
  show _ ∨ (!w.params.followText "set-order") = true
  cases w.params.followText "set-order"
  · exact .inr rfl
  · exact .inl rfl
/-- a text is put in, if it is not there -/
theorem setX_add {k : Str} {u : Tok} {Q : Bool → Shared → Prop} (R : SetX P w s.heap a l) (room : l.length + 1 < scanBound)
    (hQ : ∀ b hp l', Heap.SameBut a s.heap hp → SetX P w hp a l' → (∀ z, z ∈ l' ↔ z ∈ l ∨ z = k) → l'.length ≤ l.length + 1 → Q b { s with heap := hp }) :
    wpAny (model P w) A (setAddHashed a (.str k u) (hashStr w k)) Q E s := by
  obtain ⟨D, ho, F, nd, r, ld⟩ := R
  by_cases hk : k ∈ l
  · obtain ⟨es, ep, t⟩ := D
    have dd : (Froz.sObj "set" (es, ep, t)).data = .set es ep t := rfl
    have ff : t.fits es.size = true := F.fit
    have fe : ElemsOf (strKind P w) es.toList := F.el
    have fs : es.size = l.length := F.sz
    have small : es.size < scanBound := by omega
    have key : (strKind P w).is k (.str k u) = true := Froz.is_str k u
    unfold setAddHashed setAddHashedIn
    refine wpAny_holding (wpAny_bind (wpAny_setState_of ho dd ff ?_))
    dsimp only
    rw [byScan_of rfl small fe]
    simp only [↓reduceIte]
    unfold setAddByScan
    refine wpAny_bind (wpAny_bind (wpAny_rule (wpAny_bind (wpAny_setScan_of (knd := strKind P w) (k := k) key ho dd ff fe ?_))))
    cases hfi : List.findIdx? (fun e => (strKind P w).is k e.2) es.toList with
    | none =>
      obtain ⟨e, he, hb⟩ := (F.mem k).mp hk
      have z := List.findIdx?_eq_none_iff.mp hfi e he
      rw [hb] at z
      cases z
    | some j =>
      dsimp only
      refine wpAny_pure (wpAny_pure ?_)
      exact hQ _ s.heap l (Heap.SameBut.refl a s.heap) ⟨(es, ep, t), ho, F, nd, r, ld⟩ (fun z => ⟨.inl, fun q => q.elim id (fun e => e ▸ hk)⟩) (Nat.le_succ _)
  · refine Froz.add_x ho F hk room (hQ true _ (k :: l) ⟨Heap.size_after_update .., fun b hb => Heap.get?_update_other _ _ (Ne.symm hb)⟩ ⟨Froz.addTx (hashStr w k) (.str k u) D, ?_, Froz.add_ok u F, List.nodup_cons.mpr ⟨hk, nd⟩, add_ris r, ld.imp id fun z => add_led.trans z⟩ (fun z => ?_) (Nat.le_refl _))
    · exact Froz.get_upd _ ho rfl
    · rw [List.mem_cons]
      exact Or.comm
theorem setX_loop {it : Addr} {fa wa : List Addr} {G : Array GenState → Array GenState → Prop} {n : Nat} {Pv : Nat → Value → Prop} {St : Nat → Shared → Prop} {R : Result → Shared → Prop}
    (W : WalksS P w A.in1 it fa wa G n Pv St) (hfa : a ∉ fa) (zs : List Str) (hn : n = zs.length) (hb : zs.length + 1 < scanBound) (hv : ∀ i v, Pv i v → ∃ z t, zs[i]? = some z ∧ v = .str z t) :
    ∀ (m i : Nat) (l : List Str) (s : Shared), n - i = m → i ≤ n → St i s → l.length ≤ i → (∀ z, z ∈ l ↔ z ∈ zs.take i) → SetX P w s.heap a l →
      (∀ s' l', Moved (a :: wa) G s s' → l'.length ≤ n → (∀ z, z ∈ l' ↔ z ∈ zs) → SetX P w s'.heap a l' → R (.ok (.ret .none)) s') →
      codeAny (model P w) A (.builtin "set.update.loop" ⟨[.ref a, .ref it], []⟩) R s := by
  have hwa : a ∉ wa := fun q => hfa (W.sub _ q)
  have more : ∀ b ∈ wa, b ∈ a :: wa := fun b q => List.mem_cons_of_mem _ q
  intro m
  induction m with
  | zero =>
    intro i l s hm hi hst hl hz hX hR
    have ei : i = n := by omega
    subst ei
    refine codeAny_builtin F.entry_set_update_loop ?_
    rw [Around.under_plainId F.plain_set_update_loop _]
    show wpAny _ A.in1 (pyNext (.ref it) >>= _) _ _ s
    refine wpAny_bind (W.done s _ _ hst fun s' mv => ?_)
    show wpAny _ A.in1 (ret Value.none) _ _ s'
    rw [List.take_of_length_le (show zs.length ≤ i by omega)] at hz
    exact wpAny_pure (hR s' l (mv.mono more) hl hz (hX.at fun o e => mv.heap a o hwa e))
  | succ m ih =>
    intro i l s hm hi hst hl hz hX hR
    have lt : i < n := by omega
    refine codeAny_builtin F.entry_set_update_loop ?_
    rw [Around.under_plainId F.plain_set_update_loop _]
    show wpAny _ A.in1 (pyNext (.ref it) >>= _) _ _ s
    refine wpAny_bind (W.item i s _ _ lt hst fun v s' pv hst' mv => ?_)
    obtain ⟨z, t, hzi, rfl⟩ := hv i v pv
    have hX' : SetX P w s'.heap a l := hX.at fun o e => mv.heap a o hwa e
    show wpAny _ A.in1 (holding [Value.str z t] (setAdd a (.str z t)) >>= _) _ _ s'
    refine wpAny_bind (wpAny_holding ?_)
    unfold setAdd
    refine wpAny_holding ?_
    refine wpAny_bind ((strKind P w).pyHash (k := z) (Froz.is_str z t) ?_)
    refine setX_add (s := { s' with toks := s'.toks + 1 }) hX' (by omega) fun b hp l' sb hX2 hz2 hl2 => ?_
    have hz3 : ∀ y, y ∈ l' ↔ y ∈ zs.take (i + 1) := fun y => by
      rw [hz2, List.take_add_one, hzi, List.mem_append, hz]
      show _ ↔ _ ∨ y ∈ [z]
      rw [List.mem_singleton]
    refine wpAny_pure ⟨plainId_quiet F.plain_set_update_loop _, ih (i + 1) l' _ (by omega) lt (W.frame _ s' _ _ hst' (Nat.le_succ _) fun b hb2 o e => ?_) (by omega) hz3 hX2 fun s2 l2 mv2 c2 z2 X2 => ?_⟩
    · rw [sb.2 b (fun q : b = a => hfa (by rw [← q]; exact hb2))]
      exact e
    · refine hR s2 l2 (Moved.trans W.gtrans ((mv.mono more).then_heap (Nat.le_succ _) fun b o hb2 e => ?_) mv2) c2 z2 X2
      rw [sb.2 b (fun q : b = a => hb2 (by rw [q]; exact List.mem_cons_self))]
      exact e
set_option maxRecDepth 100000 in
set_option maxHeartbeats 3200000 in
theorem setX_call {p : Addr} {items : Array Value} (zs : List Str) {Q : Value → Shared → Prop} (hh : A.handled = none) (hp : s.heap.IsList p items) (are : StrsAre items.toList zs) (hb : zs.length + 1 < scanBound)
    (fin : ∀ (hp' : Heap) (tk : Nat) (l : List Str), SetX P w hp' s.heap.objs.size l → l.length ≤ zs.length → (∀ z, z ∈ l ↔ z ∈ zs) → (∀ b o, s.heap.get? b = some o → hp'.get? b = some o) → Q (.ref s.heap.objs.size) { s with heap := hp', toks := tk }) :
    wpAny (model P w) A (call (.type "set") [.ref p]) Q E s := by
  have size : items.size = zs.length := by rw [← StrsAre.len_eq are, Array.length_toList]
  obtain ⟨c, tl, hmro⟩ := F.called_set.mro
  have hmade := F.called_set.made
  have hsub := F.called_set.sub
  refine wpAny_call (codeAny_of_tree ?_)
  show wpAny _ _ (callAny (.type "set") _) _ _ _
  refine wpAny_pure ⟨Code.quiet_builtin _ (by decide +kernel), codeAny_builtin F.entry_type_call ?_⟩
  rw [Around.under_plain (weight_type_call_type "set" [.ref p] []) rfl]
  have q1 := F.called_set.notType
  have q2 := F.called_set.canCreate
  have q3 := F.typeCall_set_1 (.ref p)
  repeat (any_goals (first | assumption | wp_step))
  refine codeAny_mono (code_set_led1 (.ref p) (E := E) (Q₁ := fun ob s1 => ob = .ref s.heap.objs.size ∧ s1 = { s with heap := s.heap.push { cls := .type "set", dict := none, data := .set #[] 0 (.fresh 0 0 (!w.params.followText "set-order")) } }) ⟨rfl, rfl⟩) fun r s1 hr => ?_
  cases r with
  | error e => exact hr
  | ok fl =>
    cases fl with
    | ret ob =>
      obtain ⟨rfl, rfl⟩ := hr
      have gS : (s.heap.push { cls := .type "set", dict := none, data := .set #[] 0 (.fresh 0 0 (!w.params.followText "set-order")) }).get? s.heap.objs.size = some { cls := .type "set", dict := none, data := .set #[] 0 (.fresh 0 0 (!w.params.followText "set-order")) } := Heap.get?_push_size _ rfl
      have tS : Shared.TypeIs { s with heap := s.heap.push { cls := .type "set", dict := none, data := .set #[] 0 (.fresh 0 0 (!w.params.followText "set-order")) } } (.ref s.heap.objs.size) "set" := ⟨_, gS, rfl⟩
      have q4 := F.called_set.init.lookup
      have q5 := F.called_set.init.bind (.ref s.heap.objs.size)
      repeat (any_goals (first | assumption | wp_step))
      refine codeAny_mono (codeAny_call_builtin (R := wants (fun r s2 => r = .none ∧ ∃ hp' tk l, s2 = { s with heap := hp', toks := tk } ∧ SetX P w hp' s.heap.objs.size l ∧ l.length ≤ zs.length ∧ (∀ z, z ∈ l ↔ z ∈ zs) ∧
          (∀ b o, s.heap.get? b = some o → hp'.get? b = some o)) E) F.called_set.init.plain F.entry_set_init (check_set_init_1 tS ?_)) fun r2 s2 hr2 => ?_
      · obtain ⟨⟨oc, od, oda, osl⟩, hol, hcl, nl, hdl⟩ := hp
        simp only at hcl hdl
        subst hcl hdl
        have hol' : (s.heap.push { cls := .type "set", dict := none, data := .set #[] 0 (.fresh 0 0 (!w.params.followText "set-order")) }).get? p = some { cls := .type "list", dict := od, data := .seq items nl, slots := osl } := Heap.get?_push_of_some _ hol
        have q6 := F.sub_list_set
        have q7 := F.sub_list_frozenset
        have q8 : (Value.type "list" == Value.type "dict") = false := by decide
        have hl1 : (s.heap.push { cls := .type "set", dict := none, data := .set #[] 0 (.fresh 0 0 (!w.params.followText "set-order")) }).IsList p items := ⟨_, hol', rfl, nl, rfl⟩
        unfold Builtin.«set.__init__» noKeywords Builtin.Frozenset.updateFrom
        generalize hPI : pyIter = PI
        wp_walk
        subst hPI
        refine wpAny_pyIter_list hl1 ?_
        refine wpAny_bind (wpAny_runValue ?_)
        have lt : p < s.heap.objs.size := Heap.lt_size hol
        have calm3 : A.in1.in1.in1.handled = none := by simp [hh]
        have neI : p ≠ (s.heap.push { cls := .type "set", dict := none, data := .set #[] 0 (.fresh 0 0 (!w.params.followText "set-order")) }).objs.size := by
          rw [Heap.size_push]
          exact Nat.ne_of_lt (Nat.lt_succ_of_lt lt)
        have notin : s.heap.objs.size ∉ [(s.heap.push { cls := .type "set", dict := none, data := .set #[] 0 (.fresh 0 0 (!w.params.followText "set-order")) }).objs.size, p] := by
          rw [Heap.size_push]
          simp only [List.mem_cons, List.mem_singleton, List.not_mem_nil, or_false, not_or]
          exact ⟨Nat.ne_of_lt (Nat.lt_succ_self _), Nat.ne_of_gt lt⟩
        have each : ∀ (i : Nat) (v : Value), items[i]? = some v → ∃ z t, zs[i]? = some z ∧ v = .str z t := fun i v hv => by
          have hi : i < zs.length := by rw [← size]; exact (Array.getElem?_eq_some_iff.mp hv).1
          obtain ⟨t, e⟩ := SS.strs_at are i v (by rw [Array.getElem?_toList]; exact hv)
          refine ⟨zs[i], t, List.getElem?_eq_getElem hi, ?_⟩
          rw [e, List.getD_eq_getElem?_getD, List.getElem?_eq_getElem hi]
          rfl
        refine setX_loop ((Walks.list calm3 _ p neI items).toS) notin zs size hb each (items.size - 0) 0 [] _ (by omega) (Nat.zero_le _) ⟨⟨_, Heap.get?_push_size _ rfl, rfl, rfl⟩, (hl1.push _)⟩ (Nat.le_refl _) (fun z => by simp) (SetX.fresh ?_) (fun s' l' mv c2 z2 X2 => ?_)
        · exact Heap.get?_push_of_some _ gS
        · obtain ⟨hp', g2, d2, tk, o2⟩ := s'
          have eg : g2 = s.gens := mv.gens
          have ed : d2 = s.drawn := mv.drawn
          have eo : o2 = s.os := mv.os
          subst eg ed eo
          show wpAny _ _ _ _ _ _
          refine wpAny_pure ?_
          show wpAny _ _ (ret Value.none) _ _ _
          rw [size] at c2
          refine wpAny_pure ⟨rfl, hp', tk, l', rfl, X2, c2, z2, fun b o e => ?_⟩
          have b0 : b < s.heap.objs.size := Heap.lt_size e
          have b2 : b ≠ (s.heap.push { cls := .type "set", dict := none, data := .set #[] 0 (.fresh 0 0 (!w.params.followText "set-order")) }).objs.size := by
            rw [Heap.size_push]
            exact Nat.ne_of_lt (Nat.lt_succ_of_lt b0)
          exact mv.heap b o (by simp only [List.mem_cons, List.mem_singleton, List.not_mem_nil, or_false, not_or]; exact ⟨Nat.ne_of_lt b0, b2⟩) (Heap.get?_push_of_some _ (Heap.get?_push_of_some _ e))
      · cases r2 with
        | error e => exact hr2
        | ok fl2 =>
          cases fl2 with
          | ret r =>
            obtain ⟨rfl, hp', tk, l', rfl, X2, c2, z2, kk⟩ := hr2
            repeat (any_goals (first | assumption | wp_step))
            exact fin _ _ _ X2 c2 z2 kk
          | _ => exact hr2.elim
    | _ => exact hr.elim
end
end Own

namespace Own
open PySem PySem.Spec PyProof.Rows L2 Evl
/-! ### sorted(set(texts)) -/
theorem perm_of {α : Type} [DecidableEq α] : ∀ (l ys : List α), l.Nodup → (∀ z, z ∈ l → z ∈ ys) → ys.length = l.length → ys.Perm l
  | [], ys, _, _, hl => by
    have e : ys = [] := List.eq_nil_of_length_eq_zero hl
    rw [e]
  | x :: r, ys, nd, sub, hl => by
    obtain ⟨n1, n2⟩ := List.nodup_cons.mp nd
    have hx := sub x List.mem_cons_self
    have p1 := List.perm_cons_erase hx
    have hl2 : (ys.erase x).length = r.length := by
      rw [List.length_erase_of_mem hx, hl]
      rfl
    have sub2 : ∀ z, z ∈ r → z ∈ ys.erase x := fun z hz => (List.mem_erase_of_ne (fun e : z = x => n1 (by rw [← e]; exact hz))).mpr (sub z (List.mem_cons_of_mem _ hz))
    exact p1.trans (List.Perm.cons x (perm_of r _ n2 sub2 hl2))
def leS (a b : Str) : Prop := ltCps b.cps.toList a.cps.toList = false
theorem rising_mem : ∀ (p : Str) (r : List Str), risingS p r = true → (∀ a b : Str, ∀ c, leS a b → leS b c → leS a c) → ∀ z ∈ r, leS p z
  | p, [], _, _, z, hz => by cases hz
  | p, x :: r, h, tr, z, hz => by
    have h : (!ltCps x.cps.toList p.cps.toList && risingS x r) = true := h
    rw [Bool.and_eq_true] at h
    have px : leS p x := by
      have q := h.1
      unfold leS
      cases c : ltCps x.cps.toList p.cps.toList with
      | false => rfl
      | true => rw [c] at q; cases q
    rcases List.mem_cons.mp hz with e | hz
    · rw [e]
      exact px
    · exact tr p x z px (rising_mem x r h.2 tr z hz)
theorem rising_tail : ∀ {p : Str} {r : List Str}, risingS p r = true → sortedS r = true
  | _, [], _ => rfl
  | p, x :: r, h => by
    have h : (!ltCps x.cps.toList p.cps.toList && risingS x r) = true := h
    rw [Bool.and_eq_true] at h
    exact h.2
theorem sorted_unique (tr : ∀ a b c : Str, leS a b → leS b c → leS a c) (an : ∀ a b : Str, leS a b → leS b a → a = b) : ∀ (xs ys : List Str), sortedS xs = true → sortedS ys = true → xs.Nodup → ys.Nodup → (∀ z, z ∈ xs ↔ z ∈ ys) → xs = ys
  | [], [], _, _, _, _, _ => rfl
  | [], y :: r, _, _, _, _, m => by cases (m y).mpr List.mem_cons_self
  | x :: r, [], _, _, _, _, m => by cases (m x).mp List.mem_cons_self
  | x :: r, y :: t, h1, h2, d1, d2, m => by
    have e : x = y := by
      rcases List.mem_cons.mp ((m x).mp List.mem_cons_self) with q | q
      · exact q
      · rcases List.mem_cons.mp ((m y).mpr List.mem_cons_self) with q2 | q2
        · exact q2.symm
        · exact an x y (rising_mem x r h1 tr y q2) (rising_mem y t h2 tr x q)
    subst e
    obtain ⟨a1, a2⟩ := List.nodup_cons.mp d1
    obtain ⟨b1, b2⟩ := List.nodup_cons.mp d2
    congr 1
    refine sorted_unique tr an r t (rising_tail h1) (rising_tail h2) a2 b2 fun z => ?_
    have q := m z
    rw [List.mem_cons, List.mem_cons] at q
    constructor
    · intro hz
      rcases q.mp (.inr hz) with e | h
      · exact absurd (e ▸ hz) a1
      · exact h
    · intro hz
      rcases q.mpr (.inr hz) with e | h
      · exact absurd (e ▸ hz) b1
      · exact h
/-- ys: the texts of zs, each once, ascending -/
structure Srt (zs ys : List Str) : Prop where
  so : sortedS ys = true
  nd : ys.Nodup
  me : ∀ z, z ∈ ys ↔ z ∈ zs
theorem leS_iff (a b : Str) : leS a b ↔ a.cps.toList ≤ b.cps.toList := by
  unfold leS
  rw [ltCps_eq, decide_eq_false_iff_not]
  exact Iff.rfl
theorem leS_tr (a b c : Str) (h1 : leS a b) (h2 : leS b c) : leS a c := (leS_iff a c).mpr (List.le_trans ((leS_iff a b).mp h1) ((leS_iff b c).mp h2))
theorem leS_an (a b : Str) (h1 : leS a b) (h2 : leS b a) : a = b := PyProof.Rows.ext_toList (List.le_antisymm ((leS_iff a b).mp h1) ((leS_iff b a).mp h2))
theorem Srt.one {zs zs' ys ys' : List Str} (h : Srt zs ys) (h' : Srt zs' ys') (m : ∀ z, z ∈ zs ↔ z ∈ zs') : ys = ys' := sorted_unique leS_tr leS_an ys ys' h.so h'.so h.nd h'.nd fun z => (h.me z).trans ((m z).trans (h'.me z).symm)
section
variable {P : Program} {w : World} {A : Around} {E : Value → Shared → Prop} {s : Shared} {a : Addr} {l : List Str}
theorem txt_el {D : Froz.SD} (F : Froz.TxOk P w D l) : ∀ e ∈ D.1.toList, ∃ k t, e.2 = Value.str k t := fun e he => by
  obtain ⟨⟨k, hk, _⟩, _⟩ := F.el e he
  have hk : Value.isStrOf k e.2 = true := hk
  cases hv : e.2 with
  | str x t => exact ⟨x, t, rfl⟩
  | _ => rw [hv] at hk; cases hk
theorem strs_of : ∀ (vs : List Value), (∀ v ∈ vs, ∃ k t, v = Value.str k t) → StrsAre vs (vs.map strOf)
  | [], _ => .nil
  | v :: r, h => by
    obtain ⟨k, t, e⟩ := h v List.mem_cons_self
    rw [e]
    exact .cons k t (strs_of r fun u hu => h u (List.mem_cons_of_mem _ hu))
theorem sortX {Q : Value → Shared → Prop} (R : SetX P w s.heap a l) (hh : A.handled = none) (hb : l.length < scanBound)
    (fin : ∀ s' p (out : Array Value) (c : Nat) (ys : List Str), (∀ b o, s.heap.get? b = some o → s'.heap.get? b = some o) → s'.gens = s.gens → s'.os = s.os → s.heap.objs.size ≤ p → s'.heap.get? p = some (seqObj "list" out c) → StrsAre out.toList ys → Srt l ys → ys.length = l.length → Q (.ref p) s') :
    wpAny (model P w) A (call (.builtin "sorted") [.ref a]) Q E s := by
  obtain ⟨D, ho, F, nd, r, ld⟩ := R
  obtain ⟨es, ep, t⟩ := D
  have ff : t.fits es.size = true := F.fit
  have fs : es.size = l.length := F.sz
  refine Calls.call_function_entry kind_sorted plain_sorted entry_sorted (args_sorted1 _) ?_
  unfold Builtin.«sorted»
  refine wpAny_bind (m := checkCount "sorted" 1 1 _) (wpAny_pure ?_)
  refine wpAny_bind (collect_set (A := A.in1) hh ⟨_, ho, rfl, rfl⟩ ff (show es.size < scanBound by omega) r ld fun sB vs kB szB gB oB pm => ?_)
  have lenV : vs.length = l.length := by rw [pm.length_eq, List.length_map, Array.length_toList, fs]
  have areV : StrsAre vs (vs.map strOf) := strs_of vs fun v hv => by
    obtain ⟨e, he, q⟩ := List.mem_map.mp (pm.mem_iff.mp hv)
    obtain ⟨k, tk, h1⟩ := txt_el F e he
    exact ⟨k, tk, by rw [← q]; exact h1⟩
  have memV : ∀ z, z ∈ vs.map strOf ↔ z ∈ l := fun z => by
    rw [F.mem z, List.mem_map]
    constructor
    · rintro ⟨v, hv, e⟩
      obtain ⟨x, hx, q⟩ := List.mem_map.mp (pm.mem_iff.mp hv)
      obtain ⟨k, tk, h1⟩ := txt_el F x hx
      have e2 : k = z := by
        rw [← e, ← q, h1]
        rfl
      exact ⟨x, hx, by rw [h1, e2]; exact Froz.is_str z tk⟩
    · rintro ⟨x, hx, q⟩
      obtain ⟨k, tk, h1⟩ := txt_el F x hx
      refine ⟨x.2, pm.mem_iff.mpr (List.mem_map.mpr ⟨x, hx, rfl⟩), ?_⟩
      rw [h1] at q ⊢
      exact (strKind P w).inj (.str k tk) k z (Froz.is_str k tk) q
  have permV : (vs.map strOf).Perm l := perm_of l (vs.map strOf) nd (fun z hz => (memV z).mpr hz) (by rw [List.length_map]; exact lenV)
  refine wpAny_bind (wpAny_newList ?_ (by rw [lenV, sizeLine_eq]; have : scanBound = 4096 := rfl; omega))
  have hoL : (sB.heap.push (seqObj "list" vs.toArray 0)).get? sB.heap.objs.size = some (seqObj "list" vs.toArray 0) := Heap.get?_push_size _ rfl
  refine wpAny_bind (wpAny_holding (wpAny_call_entry slot_list_sort ⟨_, hoL, rfl⟩ entry_list_sort (list_sort_treeKAny strKind_oneLt hoL areV.keysOf (fun v1 v2 rest e => keyKind_strs (by rw [← e]; exact areV)) (by rw [lenV, sizeLine_eq]; have : scanBound = 4096 := rfl; omega) fun st' hp hs => ⟨_, rfl, ?_⟩) (args_list_sort _)))
  obtain ⟨ys, y1, y2, y3⟩ := sorted_out_str areV hp hs
  obtain ⟨c, hc⟩ := sortedHeap_at (vs := vs) (out := (arrOf st').map (·.2)) hoL
  have py := y2.trans permV
  refine wpAny_pure ⟨_, rfl, fin _ sB.heap.objs.size _ c ys (fun b u e => ?_) gB oB szB hc y1 ⟨y3, py.nodup_iff.mpr nd, fun z => py.mem_iff⟩ py.length_eq⟩
  have q := kB b u e
  have lt := Heap.lt_size q
  show (sortedHeap (sB.heap.push (seqObj "list" vs.toArray 0)) sB.heap.objs.size vs _).get? b = some u
  rw [sortedHeap_old (Nat.ne_of_lt lt) (by rw [size_push']; exact Nat.lt_succ_of_lt lt)]
  exact Heap.get?_push_of_some _ q
end
/-- the set of texts at a, tracked -/
def SetXO (P : Program) (w : World) (a : Addr) (l : List Str) : HO := .ext fun h => SetX P w h a l
section
variable {X : Cx}
theorem setXO_new {w : World} {P : Program} {H : Hp} {h : Heap} {a : Addr} {l : List Str} (R : SetX P w h a l) : ObjOk P w H h a (SetXO P w a l) := by
  have ⟨D, ho, _⟩ := R
  exact ⟨R, ⟨_, ho⟩, fun _ _ p k => SetX.at p k⟩
def rSetX (K : PySem.W.Frag) (P : Program) (w : World) : List V → Hp → VK → Prop := fun vs H Q => ∃ (p : Addr) (zs : List Str), vs = [.ref p] ∧ SqL K H p (zs.map V.str) ∧ zs.length ≤ 4000 ∧
  ∀ (a : Addr) (l : List Str), l.length ≤ zs.length → (∀ z, z ∈ l ↔ z ∈ zs) → H a = none → Q (.ref a) (upd H a (SetXO P w a l))
theorem cr_setX (hc : X.calm = true) : CallR X (.type "set") (rSetX X.K X.prog X.w) := by
  intro pk s τ H vs us Q I r h
  obtain ⟨p, zs, rfl, hp, hl, q⟩ := h
  rw [Vals.ref1 r]
  obtain ⟨its, rv, pl, _⟩ := I.list hp
  refine setX_call zs (I.ok.hd hc) pl.isList (by simpa using rv.strs) (by have : scanBound = 4096 := rfl; omega) fun hp' tk l X2 c2 z2 kk => ?_
  exact ⟨.ref _, upd H s.heap.objs.size (SetXO X.prog X.w s.heap.objs.size l), I.laid (t' := tk) kk (Nat.le_refl _) (setXO_new X2), rfl, q _ l c2 z2 (I.hok.fresh (Nat.le_refl _))⟩
def rSortX (P : Program) (w : World) : List V → Hp → VK → Prop := fun vs H Q => ∃ (a : Addr) (l : List Str), vs = [.ref a] ∧ H a = some (SetXO P w a l) ∧ l.length ≤ 4000 ∧
  ∀ (p : Addr) (ys : List Str), Srt l ys → ys.length = l.length → H p = none → Q (.ref p) (upd H p (.lst (ys.map V.str)))
theorem cr_sortX (hc : X.calm = true) : CallR X (.builtin "sorted") (rSortX X.prog X.w) := by
  intro pk s τ H vs us Q I r h
  obtain ⟨a, l, rfl, ha, hl, q⟩ := h
  have R : SetX X.prog X.w s.heap a l := (I.hok a _ ha).1
  rw [Vals.ref1 r]
  refine sortX R (I.ok.hd hc) (by have : scanBound = 4096 := rfl; omega) fun s' p out c ys k g o hp hg are so len => ?_
  have hlen : (ys.map V.str).length ≤ sizeLine := by rw [List.length_map, len, sizeLine_eq]; omega
  have hn : H p = none := I.hok.fresh hp
  have J : Inv X pk τ (upd H p (.lst (ys.map V.str))) { s with heap := s'.heap, gens := s'.gens, drawn := s'.drawn, toks := s'.toks } :=
    I.call (ch := []) (Un.laid k hp hn) (I.hok.laid k hp ⟨hlen, out.toList, c, vals_of_strs are, hg⟩) (by rw [g]; exact I.bare) (fun _ z => nomatch z)
  have e : s' = { s with heap := s'.heap, gens := s'.gens, drawn := s'.drawn, toks := s'.toks } := by
    cases s'
    cases s
    cases o
    rfl
  rw [e]
  exact ⟨.ref p, _, J, rfl, q p ys so len hn⟩
end
end Own

namespace Own
open PySem PySem.Spec PyProof.Rows L2 Evl
/-! ### sum(lists, []) -/
section
variable {P : Program} {w : World} {A : Around} {E : Value → Shared → Prop} {s : Shared}
/-- the lists ys at as -/
def LsAt (h : Heap) (as : List Addr) (xs : List (List Value)) : Prop := ∀ (j : Nat) (a : Addr), as[j]? = some a → ∃ (ys : List Value) (n : Nat), xs[j]? = some ys ∧ PySem.IsL h a ys.toArray n
theorem sumL_loop {it S : Addr} {fa wa : List Addr} {G : Array GenState → Array GenState → Prop} {n : Nat} {Pv : Nat → Value → Prop} {St : Nat → Shared → Prop} {R : Result → Shared → Prop}
    (W : WalksS P w A.in1 it fa wa G n Pv St) (hSf : S ∉ fa) (as : List Addr) (xs : List (List Value)) (hn : n = as.length) (hx : as.length = xs.length) (hv : ∀ i v, Pv i v → ∃ a, as[i]? = some a ∧ v = .ref a) (hz : xs.flatten.length ≤ sizeLine) (lowA : ∀ a ∈ as, a ≠ S ∧ a ∉ wa) (hex : ∀ i s, St i s → ∀ b ∈ wa, b < s.heap.objs.size) (e0 : Addr) (bs : Nat) (hbs : ∃ b ∈ wa, bs ≤ b) :
    ∀ (m i : Nat) (s : Shared) (acc : Addr) (c k : Nat), n - i = m → i ≤ n → St i s → s.heap.get? S = some { cls := .type "list", dict := none, data := .seq #[.ref acc] c, slots := #[] } → acc ≠ S → acc ∉ wa → (acc = e0 ∨ bs ≤ acc) →
      PySem.IsL s.heap acc (xs.take i).flatten.toArray k → LsAt s.heap as xs →
      (∀ s' p c', Moved (S :: wa) G s s' → PySem.IsL s'.heap p xs.flatten.toArray c' → (p = e0 ∨ bs ≤ p) → R (.ok (.ret (.ref p))) s') →
      codeAny (model P w) A (.builtin "sum.loop" ⟨[.ref it, .ref S, rawInt 2, rawInt 0], []⟩) R s := by
  have hSw : S ∉ wa := fun q => hSf (W.sub _ q)
  have more : ∀ b ∈ wa, b ∈ S :: wa := fun b q => List.mem_cons_of_mem _ q
  intro m
  induction m with
  | zero =>
    intro i s acc c k hm hi hst hS nS nw lo hacc hls hR
    have ei : i = n := by omega
    subst ei
    refine codeAny_builtin F.entry_sum_loop ?_
    rw [Around.under_plainId F.plain_sum_loop _]
    show wpAny _ A.in1 (seqItems? (.ref S) >>= _) _ _ s
    refine wpAny_bind (wpAny_seqItems hS rfl ?_)
    show wpAny _ A.in1 (tryCatch (pyNext (.ref it)) _ >>= _) _ _ s
    refine wpAny_bind (wpAny_tryCatch (W.done s _ _ hst fun s' mv => ?_))
    rw [List.take_of_length_le (by omega)] at hacc
    exact wpAny_pure (hR s' acc k (mv.mono more) (mv.heap acc _ nw hacc) lo)
  | succ m ih =>
    intro i s acc c k hm hi hst hS nS nw lo hacc hls hR
    have lt : i < n := by omega
    refine codeAny_builtin F.entry_sum_loop ?_
    rw [Around.under_plainId F.plain_sum_loop _]
    show wpAny _ A.in1 (seqItems? (.ref S) >>= _) _ _ s
    refine wpAny_bind (wpAny_seqItems hS rfl ?_)
    show wpAny _ A.in1 (tryCatch (pyNext (.ref it)) _ >>= _) _ _ s
    refine wpAny_bind (wpAny_tryCatch (W.item i s _ _ lt hst fun v s' pv hst' mv => ?_))
    obtain ⟨a, hai, rfl⟩ := hv i v pv
    obtain ⟨a1, a2⟩ := lowA a (List.mem_of_getElem? hai)
    obtain ⟨ys, ka, hys, hla⟩ := hls i a hai
    have hS' := mv.heap S _ hSw hS
    have hacc' := mv.heap acc _ nw hacc
    have hla' := mv.heap a _ a2 hla
    have tk : (xs.take (i + 1)).flatten = (xs.take i).flatten ++ ys := by
      rw [List.take_add_one, hys, List.flatten_append]
      show _ ++ (ys ++ []) = _
      rw [List.append_nil]
    have small : (xs.take i).flatten.length + ys.length ≤ sizeLine := by
      have q : (xs.take (i + 1)).flatten.length ≤ xs.flatten.length := by
        have z := congrArg (fun l => (List.flatten l).length) (List.take_append_drop (i + 1) xs)
        have z : ((xs.take (i + 1) ++ xs.drop (i + 1)).flatten).length = xs.flatten.length := z
        rw [List.flatten_append, List.length_append] at z
        omega
      rw [tk, List.length_append] at q
      omega
    show wpAny _ A.in1 ((holding [Value.ref a] (binaryOp .Add (.ref acc) (.ref a))).attempt >>= _) _ _ _
    refine wpAny_bind (wpAny_attempt (wpAny_holding (PySem.P.add_list hacc' hla' ?_ (by rw [List.size_toArray, List.size_toArray]; exact small))))
    generalize hnew : s'.heap.objs.size = p
    generalize hh2 : s'.heap.push { cls := .type "list", data := .seq ((xs.take i).flatten.toArray ++ ys.toArray) } = h2
    have k2 : ∀ b o, s'.heap.get? b = some o → h2.get? b = some o := fun b o e => by rw [← hh2]; exact Heap.get?_push_of_some _ e
    have hp2 : PySem.IsL h2 p (xs.take (i + 1)).flatten.toArray 0 := by
      rw [← hh2, ← hnew, tk]
      have e : (xs.take i).flatten.toArray ++ ys.toArray = ((xs.take i).flatten ++ ys).toArray := by simp
      rw [e]
      exact Heap.get?_push_size _ rfl
    have hS2 := k2 _ _ hS'
    have nSp : p ≠ S := by rw [← hnew]; exact Nat.ne_of_gt (Heap.lt_size hS')
    have npw : p ∉ wa := fun q => by
      have z := hex _ _ hst' p q
      rw [hnew] at z
      exact Nat.lt_irrefl _ z
    have lop : bs ≤ p := by
      obtain ⟨b, hb, hle⟩ := hbs
      have z := hex _ _ hst' b hb
      rw [hnew] at z
      exact Nat.le_of_lt (Nat.lt_of_le_of_lt hle z)
    show wpAny _ A.in1 (updateSeq S (fun _ => #[.ref p]) >>= _) _ _ _
    refine wpAny_bind (wpAny_updateSeq hS2 rfl ?_)
    have hS3 := Heap.get?_update_self (Obj.mapSeq fun _ => #[Value.ref p]) hS2 rfl
    refine wpAny_bind (wpAny_letGo ?_)
    have oth : ∀ b o, b ≠ S → h2.get? b = some o → ((h2.update S (Obj.mapSeq fun _ => #[Value.ref p])).update S (Obj.mapSeq fun _ => #[Value.ref p])).get? b = some o := fun b o nb e => (Heap.get?_update_other _ _ (Ne.symm nb)).trans ((Heap.get?_update_other _ _ (Ne.symm nb)).trans e)
    refine wpAny_bind (wpAny_updateSeq hS3 rfl (wpAny_pure ⟨plainId_quiet F.plain_sum_loop _, ih (i + 1) _ p _ 0 (by omega) lt (W.frame _ s' _ _ hst' (Nat.le_refl _) fun b hb o e => ?_) (Heap.get?_update_self _ hS3 rfl) nSp npw (.inr lop) (oth _ _ nSp hp2) (fun j b hj => ?_) fun s2 q c' mv2 X2 lo2 => ?_⟩))
    · exact oth b o (fun q : b = S => hSf (by rw [← q]; exact hb)) (k2 b o e)
    · obtain ⟨zs, kz, h1, h3⟩ := hls j b hj
      obtain ⟨b1, b2⟩ := lowA b (List.mem_of_getElem? hj)
      exact ⟨zs, kz, h1, oth b _ b1 (k2 _ _ (mv.heap b _ b2 h3))⟩
    · refine hR s2 q c' (Moved.trans W.gtrans ((mv.mono more).then_heap (Nat.le_refl _) fun b o hb e => ?_) mv2) X2 lo2
      exact oth b o (fun q : b = S => hb (by rw [q]; exact List.mem_cons_self)) (k2 b o e)
theorem sumL_call {l e0 : Addr} {as : List Addr} {xs : List (List Value)} {Q : Value → Shared → Prop} (hh : A.handled = none) (hl : s.heap.IsList l (as.map Value.ref).toArray) (he : PySem.IsL s.heap e0 #[] 0 ∨ ∃ k, PySem.IsL s.heap e0 #[] k) (hx : as.length = xs.length) (hls : LsAt s.heap as xs) (hz : xs.flatten.length ≤ sizeLine)
    (fin : ∀ h' tk p c, (∀ b o, s.heap.get? b = some o → h'.get? b = some o) → PySem.IsL h' p xs.flatten.toArray c → (p = e0 ∨ s.heap.objs.size ≤ p) → Q (.ref p) { s with heap := h', toks := tk }) : wpAny (model P w) A (call (.builtin "sum") [.ref l, .ref e0]) Q E s := by
  obtain ⟨ke, he⟩ : ∃ k, PySem.IsL s.heap e0 #[] k := he.elim (fun z => ⟨0, z⟩) id
  refine call_function_tree F.kind_sum F.plain_sum F.entry_sum (by unfold argsOk; kernel_rfl) ?_
  unfold Builtin.«sum»
  simp only [List.length_cons, List.length_nil]
  rw [if_neg (by decide)]
  refine wpAny_bind (wpAny_of_eq (show Builtin.Builtins.bindParams "sum" ["start"] 0 ⟨[.ref e0], []⟩ = pure [some (.ref e0)] from rfl) ?_)
  obtain ⟨⟨oc, od, oda, osl⟩, hol, hcl, nl, hdl⟩ := id hl
  have lt : l < s.heap.objs.size := Heap.lt_size hol
  refine wpAny_bind (wpAny_pyIter_list hl ?_)
  generalize hB : s.heap.push { cls := .type "list_iterator", data := .fields #[.ref l, .int 0 0] } = hpB
  have kB : ∀ b o, s.heap.get? b = some o → hpB.get? b = some o := fun b o e => by rw [← hB]; exact Heap.get?_push_of_some _ e
  have heB := kB _ _ he
  have tyB : Shared.TypeIs { s with heap := hpB } (.ref e0) "list" := ⟨_, heB, rfl⟩
  refine wpAny_bind (wpAny_pure ?_)
  simp only [List.forIn_cons, List.forIn_nil]
  refine wpAny_bind (wpAny_bind (wpAny_bind (wpAny_isInstance (T := "list") (b := false) tyB F.sub_list_str ?_)))
  simp only [Bool.false_eq_true, if_false]
  refine wpAny_pure (wpAny_bind (wpAny_bind (wpAny_isInstance (T := "list") (b := false) tyB F.sub_list_bytes ?_)))
  simp only [Bool.false_eq_true, if_false]
  refine wpAny_pure (wpAny_bind (wpAny_bind (wpAny_isInstance (T := "list") (b := false) tyB (by rw [isSubtype_type]; kernel_rfl) ?_)))
  simp only [Bool.false_eq_true, if_false]
  refine wpAny_pure (wpAny_pure ?_)
  refine wpAny_bind (wpAny_newObj_type ?_)
  have hI : hpB.get? s.heap.objs.size = some { cls := .type "list_iterator", data := .fields #[.ref l, .int 0 0] } := by rw [← hB]; exact Heap.get?_push_size _ rfl
  have szB : hpB.objs.size = s.heap.objs.size + 1 := by rw [← hB]; exact Heap.size_push ..
  have calm : A.in1.handled = none := by simp [hh]
  have neI : l ≠ s.heap.objs.size := Nat.ne_of_lt lt
  have W := (Walks.list (prog := P) (w := w) calm s.heap.objs.size l neI (as.map Value.ref).toArray).toS
  have nl0 : ∀ b o, s.heap.get? b = some o → b ≠ s.heap.objs.size ∧ b ≠ hpB.objs.size := fun b o e => by
    have z := Heap.lt_size e
    rw [szB]
    exact ⟨Nat.ne_of_lt z, Nat.ne_of_lt (Nat.lt_succ_of_lt z)⟩
  have st0 := W.frame 0 { s with heap := hpB } (hpB.push { cls := .type "list", data := .seq #[Value.ref e0] }) s.toks ⟨⟨_, hI, rfl, rfl⟩, ⟨_, kB _ _ hol, hcl, nl, hdl⟩⟩ (Nat.le_refl _) fun b _ o e => Heap.get?_push_of_some _ e
  refine wpAny_pure ⟨plainId_quiet F.plain_sum_loop _, sumL_loop W (S := hpB.objs.size) ?_ as xs (by simp) hx (fun i v hv => ?_) hz (fun a ha => ?_) (fun i s2 hst b hb => ?_) e0 s.heap.objs.size ⟨_, List.mem_singleton.mpr rfl, Nat.le_refl _⟩ (as.map Value.ref).toArray.size 0 _ e0 0 ke (by omega) (Nat.zero_le _) st0 (Heap.get?_push_size _ rfl) (nl0 _ _ he).2 ?_ (.inl rfl) (Heap.get?_push_of_some _ heB) (fun j a hj => ?_) (fun s' p c' mv X2 lo2 => ?_)⟩
  · rw [szB]
    simp only [List.mem_cons, List.not_mem_nil, or_false, not_or]
    exact ⟨Nat.ne_of_gt (Nat.lt_succ_self _), Nat.ne_of_gt (Nat.lt_succ_of_lt lt)⟩
  · have hv : (as.map Value.ref).toArray[i]? = some v := hv
    rw [List.getElem?_toArray, List.getElem?_map] at hv
    cases ha : as[i]? with
    | none => rw [ha] at hv; cases hv
    | some a => rw [ha] at hv; cases hv; exact ⟨a, rfl, rfl⟩
  · obtain ⟨j, hj⟩ := List.mem_iff_getElem?.mp ha
    obtain ⟨ys, n, _, hla⟩ := hls j a hj
    obtain ⟨z1, z2⟩ := nl0 _ _ hla
    exact ⟨z2, fun q => z1 (List.mem_singleton.mp q)⟩
  · obtain ⟨⟨o, ho, _⟩, _⟩ := hst
    rw [List.mem_singleton.mp hb]
    exact Heap.lt_size ho
  · exact fun q => (nl0 _ _ he).1 (List.mem_singleton.mp q)
  · obtain ⟨ys, n, h1, h2⟩ := hls j a hj
    exact ⟨ys, n, h1, Heap.get?_push_of_some _ (kB _ _ h2)⟩
  · obtain ⟨h', g2, d2, tk, o2⟩ := s'
    have eg : g2 = s.gens := mv.gens
    have ed : d2 = s.drawn := mv.drawn
    have eo : o2 = s.os := mv.os
    subst eg ed eo
    refine fin h' tk p c' (fun b o e => mv.heap b o ?_ (Heap.get?_push_of_some _ (kB _ _ e))) X2 lo2
    obtain ⟨z1, z2⟩ := nl0 _ _ e
    simp only [List.mem_cons, List.not_mem_nil, or_false, not_or]
    exact ⟨z2, z1⟩
end
section
variable {X : Cx}
theorem ls_of {pk : List (Addr × Obj)} {τ : L2.St} {H : Hp} {s : Shared} (I : Inv X pk τ H s) : ∀ {as : List Addr} {yss : List (List V)}, Paired (fun a ys => H a = some (.lst ys)) as yss → ∃ xs : List (List Value), as.length = xs.length ∧ LsAt s.heap as xs ∧ Vals yss.flatten xs.flatten
  | _, _, .nil => ⟨[], rfl, (by intro j a h; cases h), Paired.nil⟩
  | _, _, .cons (a := a) (b := ys) h t => by
    obtain ⟨xs, e1, e2, e3⟩ := ls_of I t
    obtain ⟨_, its, n, r, _, e⟩ := I.lstM h
    refine ⟨its :: xs, by rw [List.length_cons, List.length_cons, e1], fun j b hj => ?_, r.append e3⟩
    cases j with
    | zero => cases hj; exact ⟨its, n, rfl, e⟩
    | succ j => exact e2 j b hj
theorem refs_eq : ∀ {as : List Addr} {us : List Value}, Vals (as.map V.ref) us → us = as.map Value.ref
  | [], _, h => by cases h; rfl
  | a :: r, _, h => by
    cases h with
    | cons h t =>
      cases h
      rw [refs_eq t]
      rfl
def rSumL (K : PySem.W.Frag) : List V → Hp → VK → Prop := fun vs H Q => ∃ (l e0 : Addr) (as : List Addr) (yss : List (List V)), vs = [.ref l, .ref e0] ∧ SqL K H l (as.map V.ref) ∧ H e0 = some (.lst []) ∧ Paired (fun a ys => H a = some (.lst ys)) as yss ∧ yss.flatten.length ≤ sizeLine ∧
  ∀ p H', Ex H H' → H' p = some (.lst yss.flatten) → Q (.ref p) H'
theorem cr_sumL (hc : X.calm = true) : CallR X (.builtin "sum") (rSumL X.K) := by
  intro pk s τ H vs us Q I r h
  obtain ⟨l, e0, as, yss, rfl, hl, he, hp, hz, q⟩ := h
  cases r with
  | cons r1 r2 =>
    cases r2 with
    | cons r3 r4 =>
      cases r4
      cases r1
      cases r3
      obtain ⟨its, rv, pl, _⟩ := I.list hl
      obtain ⟨_, ie, ne, re, _, ee⟩ := I.lstM he
      cases re
      obtain ⟨xs, e1, e2, e3⟩ := ls_of I hp
      rw [refs_eq rv] at pl
      have hlen := e3.length
      refine sumL_call (I.ok.hd hc) pl.isList (.inr ⟨ne, ee⟩) e1 e2 (by omega) fun h' tk p c kk X2 lo => ?_
      rcases lo with rfl | lo
      · have z := kk _ _ ee
        have X2 : h'.get? p = some { cls := .type "list", dict := none, data := .seq xs.flatten.toArray c, slots := #[] } := X2
        rw [z] at X2
        have z2 : xs.flatten = [] := by
          have q2 := Option.some.inj X2
          injection q2 with _ _ q3 _
          injection q3 with q4 _
          have q5 := congrArg Array.toList q4
          simpa using q5.symm
        have z3 : yss.flatten = [] := by
          rw [z2] at e3
          cases hy : yss.flatten with
          | nil => rfl
          | cons _ _ => rw [hy] at e3; cases e3
        refine ⟨.ref p, H, I.kept (t' := tk) kk, rfl, q p H (Ex.refl _) ?_⟩
        rw [z3]
        exact he
      · have hn : H p = none := I.hok.fresh lo
        exact ⟨.ref p, upd H p (.lst yss.flatten), I.laid (t' := tk) kk lo ⟨hz, xs.flatten, c, e3, X2⟩, rfl, q p _ (Ex.new hn) upd_same⟩
end
end Own

namespace Own
open PySem PySem.Spec PyProof.Rows L2 Evl
/-! ### len of an object with an own __len__; pairs of the very same things -/
section
variable {X : Cx} {pk : List (Addr × Obj)} {τ : L2.St} {H : Hp} {s : Shared} {k j : Nat} {sp : Sp} {f C : Addr} {fd : FuncData} {ps : List Str} {Z : VK} {us : List Value} {vs : List V}
theorem run_fnG1 (F : FnG X.prog X.w X.K X.mg X.base k f fd ps sp) (hr : Room k X.A.in1) (hg : X.A.guards = some []) (hbd : Binds X.K fd ps [])
    (I : Inv X pk τ H s) (r : Vals vs us) (h : sp vs H Z E0) : wpAny (model X.prog X.w) X.A.in1 (call (.ref f) us) (EP X pk τ Z) X.xe s := by
  have hlen : us.length = ps.length := by rw [← r.length]; exact F.len _ _ _ _ h
  have e1 : us ++ [] = us := List.append_nil us
  refine wpAny_call (codeAny_mono (F.run X.A.in1 X.stack s H ⟨us, []⟩ us vs Z E0 hr hg I.env0.in1 (by have q := hbd s us I.kIn (by rw [e1]; exact hlen); rw [e1] at q; exact q) r h) fun r s' hsq => ?_)
  cases r with
  | error e => exact (show False from hsq).elim
  | ok fl =>
    cases fl with
    | ret u => exact I.after hsq
    | next => exact False.elim hsq
    | brk => exact False.elim hsq
    | cont => exact False.elim hsq
end
def rLenO (K : PySem.W.Frag) (C : Addr) (sp : Sp) : List V → Hp → VK → Prop := fun xs H Q => ∃ (a d : Addr) (fs : List (Str × V)), xs = [.ref a] ∧ H a = some (.ins C d fs) ∧ sp [.ref a] H (fun v H' => (∃ n : Nat, v = .int n ∧ n < 1000000) ∧ Q v H') E0
theorem callLenO {X : Cx} {k j : Nat} {C : Addr} {sp : Sp} (c : MetG X.prog X.w X.K X.mg X.base k C "__len__" sp) (hr : Room j X.A) (hg0 : X.A.guards = some []) (hkp : k + 1 ≤ j) : CallR X (.builtin "len") (rLenO X.K C sp) := by
  intro pins s σ H xs us Q I r hq
  obtain ⟨f, fd, ps, F, M, b⟩ := c.ex
  obtain ⟨a, d, fs, rfl, ha, q⟩ := hq
  rw [Vals.ref1 r]
  obtain ⟨mA, J, _⟩ := ins_get I.hok ha
  obtain ⟨od, J, _⟩ := J.look
  obtain ⟨m, hF⟩ := I.fr
  have hr1 : Room k X.A.in1 := (show Room (k + 1) X.A from hr.mono hkp).in1
  refine PySem.W.len_K hF I.ok.mod.kin J M.at_ M.fn ?_
  refine wpAny_mono (run_fnG1 (us := [.ref a]) (vs := [.ref a]) F hr1 hg0 b I (.cons rfl .nil) q) (fun w s' z => ?_) (fun _ _ e => e)
  obtain ⟨z, H', I', rz, ⟨n, en, hn⟩, q'⟩ := z
  subst en
  obtain ⟨t, rfl⟩ := rz
  exact ⟨⟨by omega, by omega⟩, .int n, H', I'.tok _, ⟨_, rfl⟩, q'⟩
/-- pairs whose first are one text, whose second one thing -/
def rEqP (K : PySem.W.Frag) : R2 := fun x y H Q => ∃ (a b : Addr) (xs : List V), x = .ref a ∧ y = .ref b ∧ SqT K H a xs ∧ SqT K H b xs ∧ xs.all plV = true ∧ Q (.bl true) H
theorem op_eqP {X : Cx} (hu : X.A.units + 64 < cLine) : OpR X (compareOp .Eq) (rEqP X.K) := by
  intro pk s τ H x y v u Q I rx ry h
  obtain ⟨a, b, xs, rfl, rfl, ha, hb, hpl, q⟩ := h
  cases rx
  cases ry
  obtain ⟨ua, ra, la, _⟩ := I.tuple ha
  obtain ⟨ub, rb, lb, _⟩ := I.tuple hb
  have hsz : ua.toArray.size = ub.toArray.size := by rw [List.size_toArray, List.size_toArray, ← ra.length, ← rb.length]
  refine PySem.W.eq_tuplesT (n := 0) (e := fun _ => true) la lb (fun j h1 h2 => ?_) (by omega) ⟨.bl true, H, I, ?_, q⟩
  · have hj : j < xs.length := by rw [ra.length]; simpa using h1
    obtain ⟨u1, e1, r1⟩ := ra.get (x := xs[j]) (List.getElem?_eq_getElem hj)
    obtain ⟨u2, e2, r2⟩ := rb.get (x := xs[j]) (List.getElem?_eq_getElem hj)
    have p1 : ua.toArray[j] = u1 := by
      have z : ua[j]? = some (ua.toArray[j]) := by simp
      rw [z] at e1
      exact Option.some.inj e1
    have p2 : ub.toArray[j] = u2 := by
      have z : ub[j]? = some (ub.toArray[j]) := by simp
      rw [z] at e2
      exact Option.some.inj e2
    rw [p1, p2]
    exact same_at (List.all_eq_true.mp hpl _ (List.getElem_mem hj)) r1 r2
  · show Value.bool _ = Value.bool true
    congr 1
    rw [hsz, beq_self_eq_true, Bool.and_true]
    exact List.all_eq_true.mpr fun _ _ => rfl
def rEqX (K : PySem.W.Frag) : R2 := fun x y H Z => rEqA K x y H Z ∨ rEqP K x y H Z
theorem opEqX {X : Cx} {k : Nat} (hr : Room k X.A) : OpR X (compareOp .Eq) (rEqX X.K) := OpR.or (opEq hr) (op_eqP hr.units)
end Own

namespace Own
open PySem PySem.Spec PyProof.Rows L2 Evl
/-! ### a tuple beside a dict; x in o by an own __contains__ -/
theorem tup_no_dict (l b : Addr) (items : Array Value) (n : Nat) (dd dd2 : Option Addr) (dt : Data) (sl sl2 : Array (Option Value)) :
    Meets (Builtin.«tuple.__eq__» ⟨[.ref l, .ref b], []⟩) (fun _ R s => s.heap.get? l = some { cls := .type "tuple", dict := dd, data := .seq items n, slots := sl } ∧ s.heap.get? b = some { cls := .type "dict", dict := dd2, data := dt, slots := sl2 } ∧ R (.ok (.ret .notImplemented)) s) :=
  .of_wp fun prog w A R s h => by obtain ⟨hp, g, d, tk, os⟩ := s; obtain ⟨hl, hb, h⟩ := h; have f1 := PySem.F.sub_dict_tuple; wp_walk using PySem.AutoSeq1.wpAny_loadPart' hl, PySem.AutoSeq1.wpAny_loadPart' hb; exact ⟨_, rfl, h⟩
theorem dict_no_tup (l b : Addr) (items : Array Value) (n : Nat) (dd dd2 : Option Addr) (dt : Data) (sl sl2 : Array (Option Value)) :
    Meets (Builtin.«dict.__eq__» ⟨[.ref b, .ref l], []⟩) (fun _ R s => s.heap.get? l = some { cls := .type "tuple", dict := dd, data := .seq items n, slots := sl } ∧ s.heap.get? b = some { cls := .type "dict", dict := dd2, data := dt, slots := sl2 } ∧ R (.ok (.ret .notImplemented)) s) :=
  .of_wp fun prog w A R s h => by obtain ⟨hp, g, d, tk, os⟩ := s; obtain ⟨hl, hb, h⟩ := h; have f1 := PySem.F.sub_tuple_dict; wp_walk using PySem.AutoSeq1.wpAny_loadPart' hl, PySem.AutoSeq1.wpAny_loadPart' hb; exact ⟨_, rfl, h⟩
section
variable {A : Around} {s : Shared}
theorem rc_tup_dict {l b : Addr} {items : Array Value} (hl : s.heap.IsTuple l items) (hb : s.TypeIs (.ref b) "dict") (hu : A.units < cLine) : PySem.SeqAt.RcAt A s (.ref l) (.ref b) false ∧ l ≠ b := by
  obtain ⟨⟨cls, dd, data, sl⟩, ho, hc, n, hd⟩ := id hl
  obtain ⟨⟨cls2, dd2, data2, sl2⟩, ho2, hc2⟩ := id hb
  simp only at hc hd hc2
  subst hc hd hc2
  have hne : l ≠ b := fun e => by
    rw [e, ho2] at ho
    have z := congrArg Obj.cls (Option.some.inj ho)
    simp at z
  refine ⟨fun prog w E Q h => ?_, hne⟩
  exact (PySem.SeqAt.rc_eq_decline_or (k := false) ⟨_, ho, rfl⟩ ⟨_, ho2, rfl⟩ (by decide) PySem.F.sub_dict_tuple PySem.F.slot_tuple_eq PySem.F.slot_dict_eq_refl
    (fun _ hq => call_meets PySem.F.slot_tuple_eq ⟨_, ho, rfl⟩ PySem.F.entry_tuple_eq (PySem.F.args_tuple_eq_2 _ _) (tup_no_dict l b items n dd dd2 data2 sl sl2) ⟨ho, ho2, hq⟩)
    (fun _ hq => call_meets PySem.F.slot_dict_eq_refl ⟨_, ho2, rfl⟩ PySem.F.entry_dict_eq (PySem.F.args_dict_eq_2 _ _) (dict_no_tup l b items n dd dd2 data2 sl sl2) ⟨ho, ho2, hq⟩)
    (fun _ hq => PySem.SeqAt.wpAny_isSame_ref_other' hne ho ho2 (by simp) hq) (.inr hu) h)
theorem eq_tup_dict {l b : Addr} {items : Array Value} (hl : s.heap.IsTuple l items) (hb : s.TypeIs (.ref b) "dict") (hu : A.units < cLine) : PySem.SeqAt.EqAt A s (.ref l) (.ref b) false := .of_refs (rc_tup_dict hl hb hu).2 (rc_tup_dict hl hb hu).1
end
theorem vals_mem : ∀ {xs : List V} {us : List Value} {u : Value}, Vals xs us → u ∈ us → ∃ x ∈ xs, RelV x u
  | _, _, _, .nil, h => by cases h
  | _, _, _, .cons r rs, h => by
    rcases List.mem_cons.mp h with rfl | h
    · exact ⟨_, List.mem_cons_self, r⟩
    · obtain ⟨x, hx, rx⟩ := vals_mem rs h
      exact ⟨x, List.mem_cons_of_mem _ hx, rx⟩
/-- a dict is in no list of tuples -/
def rInN (K : PySem.W.Frag) : R2 := fun x y H Q => ∃ (b L : Addr) (kvs : List (Key × V)) (us : List V), x = .ref b ∧ H b = some (.dK kvs) ∧ y = .ref L ∧ SqL K H L us ∧ (∀ u ∈ us, ∃ t xs, u = .ref t ∧ SqT K H t xs) ∧ Q (.bl false) H
theorem op_inN {X : Cx} (hu : X.A.units + 64 < cLine) : OpR X (compareOp .In) (rInN X.K) := by
  intro pk s τ H x y v u Q I rx ry h
  obtain ⟨b, L, kvs, us, rfl, hb, rfl, hL, hus, q⟩ := h
  cases rx
  cases ry
  obtain ⟨its, r, hl, _⟩ := I.list hL
  have hd : s.TypeIs (.ref b) "dict" := by
    obtain ⟨_, _, vs, _, dd⟩ := dk_rd I.hok (.inl hb)
    exact dd.typeIs
  refine PySem.SeqAt.in_listAt (fun _ => false) hl.isList (fun y hy => ?_) ⟨.bl false, H, I, ?_, q⟩
  · have hy : y ∈ its := by simpa using hy
    obtain ⟨u, hu1, ru⟩ := vals_mem r hy
    obtain ⟨t, xs, rfl, ht⟩ := hus u hu1
    cases ru
    obtain ⟨ts, _, tp, _⟩ := I.tuple ht
    exact eq_tup_dict tp hd (by show X.A.units + 1 < cLine; omega)
  · show Value.bool _ = Value.bool false
    congr 1
    simp
/-- x in o, by o's own __contains__ -/
def rInO (K : PySem.W.Frag) (C : Addr) (sp : Sp) : R2 := fun x y H Q => ∃ (a d : Addr) (fs : List (Str × V)), y = .ref a ∧ H a = some (.ins C d fs) ∧ sp [.ref a, x] H (fun v H' => (∃ b, v = .bl b) ∧ Q v H') E0
theorem op_inO {X : Cx} {k j : Nat} {C : Addr} {sp : Sp} (c : MetG X.prog X.w X.K X.mg X.base k C "__contains__" sp) (hr : Room j X.A) (hg0 : X.A.guards = some []) (hkp : k ≤ j) : OpR X (compareOp .In) (rInO X.K C sp) := by
  intro pins s σ H x y u v Q I rx ry hq
  obtain ⟨f, fd, ps, F, M, b⟩ := c.ex
  obtain ⟨a, d, fs, rfl, ha, q⟩ := hq
  cases ry
  obtain ⟨mA, J, _⟩ := ins_get I.hok ha
  obtain ⟨od, J, _⟩ := J.look
  obtain ⟨m, hF⟩ := I.fr
  refine PySem.W.in_K hF I.ok.mod.kin J M.at_ M.fn ?_
  refine wpAny_mono (run_fnG (us := [.ref a, u]) (vs := [.ref a, x]) F (hr.mono hkp) hg0 b I (.cons rfl (.cons rx .nil)) q) (fun w s' z => ?_) (fun _ _ e => e)
  obtain ⟨z, H', I', rz, ⟨bb, eb⟩, q'⟩ := z
  subst eb
  cases rz
  exact wpAny_truthy_bool ⟨.bl bb, H', I', rfl, q'⟩
end Own

namespace Own
open PySem PySem.Spec PyProof.Rows L2 Evl
def top (i : Nat) : Stmt := PySem.Challenge.pw_scriptpicks_k11_words_known.main.body.getD i (.Pass ⟨0, 0, 0, 0⟩)
/-- all but b stands -/
def ExB (b : Addr) (H H' : Hp) : Prop := ∀ a o, a ≠ b → H a = some o → H' a = some o
theorem ExB.refl (b : Addr) (H : Hp) : ExB b H H := fun _ _ _ h => h
theorem ExB.set {b : Addr} {H H' : Hp} {o : HO} (e : ExB b H H') : ExB b H (upd H' b o) := fun a u n h => by
  rw [upd_ne n]
  exact e a u n h
theorem ExB.new {b p : Addr} {H H' : Hp} {o : HO} (e : ExB b H H') (hp : H' p = none) : ExB b H (upd H' p o) := fun a u n h => by
  have q := e a u n h
  rw [upd_ne (ne_of_none q hp)]
  exact q
theorem ints_ne4 {ns : List Int} {i j k : Int} {c : Addr} (z : HO.lst (ns.map V.int) = .lst [.int i, .int j, .int k, .ref c]) : False := by
  have z2 : ns.map V.int = [.int i, .int j, .int k, .ref c] := by injection z
  match ns, z2 with
  | [], z2 => cases z2
  | [_], z2 => cases z2
  | [_, _], z2 => cases z2
  | [_, _, _], z2 => cases z2
  | _ :: _ :: _ :: _ :: _, z2 =>
    simp only [List.map_cons] at z2
    injection z2 with _ z2
    injection z2 with _ z2
    injection z2 with _ z2
    injection z2 with z2 _
    cases z2
theorem first_int (ns : List Int) (lo hi : Option Int) : ∃ z, atI (cutV (ns.map V.int) lo hi ++ [V.int 0]) 0 = some (V.int z) := by
  unfold cutV
  rw [← List.map_drop, ← List.map_take]
  generalize (List.take _ (List.drop _ ns)) = l
  cases l with
  | nil => exact ⟨0, rfl⟩
  | cons a r => exact ⟨a, atI_nat (j := 0) rfl⟩
theorem genB {H H3 H4 : Hp} {b : Addr} {o : HO} (hq : upd H3 b o = H4) (e : ExB b H H3) : ExB b H H4 ∧ H4 b = some o := by
  subst hq
  exact ⟨e.set, upd_same⟩
structure Txt0 (mg : Str → Option Value) : Prop where
  abs : mg "abs" = none
  int : mg "int" = none
  len : mg "len" = none
  tuple : mg "tuple" = none
  list : mg "list" = none
  all : mg "all" = none
  any : mg "any" = none
  zip : mg "zip" = none
  range : mg "range" = none
  repr : mg "repr" = none
  dict : mg "dict" = none
abbrev s_l_bag : Stmt := top 12
theorem sc_l_bag : FnScope ["_law_script", "_law_cell"] ["_law_script"] (defScope s_l_bag) := ⟨rfl, rfl, rfl, by decide +kernel, rfl, by decide +kernel, by decide +kernel⟩
abbrev s_l_take : Stmt := top 13
theorem sc_l_take : FnScope ["_law_bag_here", "_law_many", "_law_cell", "_law_mixed", "_law_value", "_law_begin", "_law_second"] ["_law_bag_here", "_law_many"] (defScope s_l_take) := ⟨rfl, rfl, rfl, by decide +kernel, rfl, by decide +kernel, by decide +kernel⟩
abbrev s_l_some : Stmt := top 15
theorem sc_l_some : FnScope ["_law_bag_here", "_law_things"] ["_law_bag_here", "_law_things"] (defScope s_l_some) := ⟨rfl, rfl, rfl, by decide +kernel, rfl, by decide +kernel, by decide +kernel⟩
section
variable {P : Program} {w : World} {K : PySem.W.Frag} {mg : Str → Option Value} {base : Heap}
/-- the bag as a list -/
def spTakeL : Sp := fun vs H Q _ => ∃ (b c : Addr) (m i j k : Int) (ns : List Int), vs = [.ref b, .int m] ∧ H b = some (.lst [.int i, .int j, .int k, .ref c]) ∧ H c = some (.lst (ns.map V.int)) ∧ ns.length ≤ 63 ∧ 0 < m ∧ m < 1000000000 ∧
  ∀ (H' : Hp) (r i' j' k' : Int), 0 ≤ r → r < m → ExB b H H' → H' b = some (.lst [.int i', .int j', .int k', .ref c]) → Q (.int r) H'
theorem ok_takeL (T : Txt0 mg) (D : Df K mg "_law_take" s_l_take) : CalG P w K mg base 1 "_law_take" spTakeL := by
  refine cal_mk D sc_l_take (fun _ _ _ _ _ _ us hl => match us, hl with | [_, _], _ => rfl) (fun vs H Q E h => ?_) (fun f cdv A outer s H vs Q E hr hG h => ?_)
  · obtain ⟨b, c, m, i, j, k, ns, rfl, _⟩ := h
    rfl
  · obtain ⟨b, c, m, i, j, k, ns, rfl, hb, hc, h63, hm, hm9, q⟩ := h
    have nbc : c ≠ b := ne_of hc hb (fun z => ints_ne4 z)
    refine ⟨_, (Evl.pss_cut (ps_if (pt_cmpR (opEq hr) (pe_ix ixAny (pv 0) pe_int (fun _ _ => rfl)) pe_int (nomark _)) (pss_cons (ps_set (i := 2) sc_l_take.nd rfl (Or.inl rfl) (pe_ix ixAny (pe_op opAdd (pe_slice slAny (pe_ix ixAny (pv 0) pe_int (fun _ _ => rfl)) (po_some (pe_ix ixAny (pv 0) pe_int (fun _ _ => rfl))) po_none) (pe_lst (pa_cons pe_int pa_nil))) pe_int (fun _ _ => rfl)))
      (pss_cons (ps_augS (pv 0) pe_int pgetL pe_int ip_add set_list)
      (Evl.pss_cut (ps_if (pt_cmpR opGe (pv 2) pe_int (nomark _)) (pss_one (ps_asg (pv 2) (pg_sub (pv 0) pe_int set_list))) pss_nil)
      (pss_cons (ps_set (i := 3) sc_l_take.nd rfl (Or.inl rfl) (pe_op opAdd (pe_op opAdd (pe_op opMul (pe_ix ixAny (pv 0) pe_int (fun _ _ => rfl)) pe_int) (pe_op op_mod (pe_callTy call_int1 (by rfl) T.int (by decide +kernel) (pa_cons (pv 2) pa_nil)) pe_int)) (pe_op opMul pe_int (pe_ix ixAny (pv 0) pe_int (fun _ _ => rfl)))))
      (pss_one (ps_asg (pe_op op_mod (pe_callTy call_int1 (by rfl) T.int (by decide +kernel) (pa_cons (pv 3) pa_nil)) pe_int) (pg_sub (pv 0) pe_int set_list))))))) pss_nil)
      (pss_cons (ps_if (pt_cmpR opGt (pe_ix ixAny (pv 0) pe_int (fun _ _ => rfl)) pe_int (nomark _)) (pss_cons (ps_set (i := 4) sc_l_take.nd rfl (Or.inl rfl) (pe_op op_mod (pe_callTy call_int1 (by rfl) T.int (by decide +kernel) (pa_cons (pe_ix ixAny (pv 0) pe_int (fun _ _ => rfl)) pa_nil)) (pv 1)))
      (pss_cons (ps_asg (pe_op op_fdivW (pe_ix ixAny (pv 0) pe_int (fun _ _ => rfl)) (pv 1)) (pg_sub (pv 0) pe_int set_list))
      (pss_one (ps_ret (pv 4))))) pss_nil)
      (pss_cons (ps_set (i := 5) sc_l_take.nd rfl (Or.inl rfl) (pe_op op_mod (pe_callTy call_int1 (by rfl) T.int (by decide +kernel) (pa_cons (pe_op opMul (pe_op opAdd (pe_ix ixAny (pv 0) pe_int (fun _ _ => rfl)) pe_int) pe_int) pa_nil)) pe_int))
      (pss_cons (ps_set (i := 6) sc_l_take.nd rfl (Or.inl rfl) (pe_op op_mod (pe_callTy call_int1 (by rfl) T.int (by decide +kernel) (pa_cons (pe_op opMul (pe_op op_mod (pe_callTy call_int1 (by rfl) T.int (by decide +kernel) (pa_cons (pe_op opMul (pv 5) (pv 5)) pa_nil)) pe_int) pe_int) pa_nil)) pe_int))
      (pss_one (ps_ret (pe_op op_mod (pe_callTy call_int1 (by rfl) T.int (by decide +kernel) (pa_cons (pe_op op_fdivW (pv 6) pe_int) pa_nil)) (pv 1)))))))), ?_⟩
    refine ⟨fun σ' H' => ∃ (i j k : Int) (x2 x3 : Option V), σ' = [some (.ref b), some (.int m), x2, x3, none, none, none] ∧ ExB b H H' ∧ H' b = some (.lst [.int i, .int j, .int k, .ref c]), ?_, ?_⟩
    · refine ⟨_, rfl, .inl ⟨b, _, 0, _, rfl, rfl, sq_of hb, rfl, .inl ⟨rfl, _, rfl, ?_⟩⟩⟩
      refine ite2 (fun _ => ?_) (fun _ => ⟨i, j, k, none, none, rfl, ExB.refl b H, hb⟩)
      -- cell = (bag[3][bag[2]:] + [0])[0]
      refine ⟨_, rfl, .inl ⟨b, _, 3, _, rfl, rfl, sq_of hb, rfl, ⟨_, rfl, .inl ⟨b, _, 2, _, rfl, rfl, sq_of hb, rfl, k, rfl, .inl ⟨c, _, rfl, sq_of hc, fun p hp => ?_⟩⟩⟩⟩⟩
      refine ⟨by show 1 ≤ sizeLine; decide, fun p2 hp2 => .inr (.inr (.inl ⟨p, p2, _, _, rfl, rfl, up_old hp2 upd_same, upd_same, ?_, fun p3 hp3 => ?_⟩))⟩
      · refine sz_of ?_
        have q1 := cutV_length (ns.map V.int) (some k) none
        rw [List.length_map] at q1
        show _ + 1 ≤ 100000
        omega
      obtain ⟨z, hz⟩ := first_int ns (some k) none
      refine .inl ⟨p3, _, 0, _, rfl, rfl, sq_of upd_same, hz, ?_⟩
      have e3 := (((ExB.refl b H).new (o := .lst (cutV (ns.map V.int) (some k) none)) hp).new (o := .lst [V.int 0]) hp2).new (o := .lst (cutV (ns.map V.int) (some k) none ++ [V.int 0])) hp3
      have hb3 := up_old (o := .lst (cutV (ns.map V.int) (some k) none ++ [V.int 0])) hp3 (up_old (o := .lst [V.int 0]) hp2 (up_old (o := .lst (cutV (ns.map V.int) (some k) none)) hp hb))
      generalize upd (upd (upd H p _) p2 _) p3 _ = H3 at e3 hb3 ⊢
      -- bag[2] += 1
      refine ⟨_, rfl, b, _, 2, _, rfl, rfl, sq_of hb3, rfl, k, 1, rfl, rfl, b, _, 2, 2, rfl, rfl, hb3, rfl, ?_⟩
      generalize hq4 : upd H3 b _ = H4
      obtain ⟨e4, hb4⟩ := genB hq4 e3
      -- if cell >= ..: bag[0] = cell
      refine ⟨fun σ' H' => ∃ (i : Int), σ' = [some (.ref b), some (.int m), some (.int z), none, none, none, none] ∧ ExB b H H' ∧ H' b = some (.lst [.int i, .int j, .int (k + 1), .ref c]), ?_, ?_⟩
      · refine ⟨_, rfl, z, _, rfl, rfl, _, rfl, ?_⟩
        refine ite2 (fun _ => ?_) (fun _ => ⟨i, rfl, e4, hb4⟩)
        exact ⟨_, rfl, _, rfl, b, _, 0, 0, rfl, rfl, hb4, rfl, z, rfl, e4.set, upd_same⟩
      · rintro σ5 H5 ⟨i5, rfl, e5, hb5⟩
        -- mixed
        refine ⟨_, rfl, .inl ⟨b, _, 1, _, rfl, rfl, sq_of hb5, rfl, .inl ⟨j, 48271, rfl, rfl, .inr (by decide), ?_⟩⟩⟩
        refine ⟨_, rfl, .inl ⟨z, rfl, ?_⟩⟩
        refine ⟨_, _, rfl, rfl, (show (0 : Int) < 2147483647 by decide), .inl ⟨_, _, rfl, rfl, ?_⟩⟩
        refine ⟨_, rfl, .inl ⟨b, _, 2, _, rfl, rfl, sq_of hb5, rfl, .inl ⟨7919, _, rfl, rfl, .inl (by decide), .inl ⟨_, _, rfl, rfl, ?_⟩⟩⟩⟩
        refine ⟨_, rfl, .inl ⟨_, rfl, ?_⟩⟩
        refine ⟨_, _, rfl, rfl, (show (0 : Int) < 2147483647 by decide), _, rfl, b, _, 1, 1, rfl, rfl, hb5, rfl, ?_⟩
        exact ⟨i5, _, k + 1, _, _, rfl, e5.set, upd_same⟩
    · rintro σ' H' ⟨i, j, k, x2, x3, rfl, e, hb⟩
      refine ⟨_, rfl, .inl ⟨b, _, 0, _, rfl, rfl, sq_of hb, rfl, i, 0, rfl, rfl, _, rfl, ?_⟩⟩
      refine ite2 (fun _ => ?_) (fun _ => ?_)
      · refine ⟨_, rfl, .inl ⟨b, _, 0, _, rfl, rfl, sq_of hb, rfl, .inl ⟨_, rfl, ?_⟩⟩⟩
        refine ⟨_, rfl, _, _, rfl, rfl, hm, ?_⟩
        refine ⟨_, rfl, .inl ⟨b, _, 0, _, rfl, rfl, sq_of hb, rfl, ?_⟩⟩
        refine ⟨_, rfl, _, _, rfl, rfl, wide_div hm (b := 30) (by omega) (by decide) (by decide), ?_⟩
        refine ⟨_, rfl, b, _, 0, 0, rfl, rfl, hb, rfl, ?_⟩
        exact ⟨_, rfl, q _ _ _ _ _ (Int.emod_nonneg _ (by omega)) (Int.emod_lt_of_pos _ hm) e.set upd_same⟩
      · refine ⟨_, rfl, .inl ⟨b, _, 1, _, rfl, rfl, sq_of hb, rfl, .inl ⟨j, 1, rfl, rfl, .inl ⟨_, 39373, rfl, rfl, .inr (by decide), .inl ⟨_, rfl, ?_⟩⟩⟩⟩⟩
        refine ⟨_, _, rfl, rfl, (show (0 : Int) < 1000000007 by decide), ?_⟩
        have h0 : 0 ≤ (j + 1) * 39373 % 1000000007 := Int.emod_nonneg _ (by decide)
        have h1 : (j + 1) * 39373 % 1000000007 < 1000000007 := Int.emod_lt_of_pos _ (by decide)
        refine ⟨_, rfl, _, rfl, .inl ⟨_, _, rfl, rfl, .inl ⟨Int.lt_of_lt_of_le (by decide) h0, Int.lt_trans h1 (by decide)⟩, .inl ⟨_, rfl, ?_⟩⟩⟩
        refine ⟨_, _, rfl, rfl, (show (0 : Int) < 998244353 by decide), .inl ⟨_, 30011, rfl, rfl, .inr (by decide), .inl ⟨_, rfl, ?_⟩⟩⟩
        refine ⟨_, _, rfl, rfl, (show (0 : Int) < 998244353 by decide), ?_⟩
        refine ⟨_, rfl, _, _, rfl, rfl, wide_div (b := 30) (by decide) (by decide) (by decide) (by decide), .inl ⟨_, rfl, ?_⟩⟩
        exact ⟨_, rfl, _, _, rfl, rfl, hm, q _ _ _ _ _ (Int.emod_nonneg _ (by omega)) (Int.emod_lt_of_pos _ hm) e hb⟩
end
/-- the bag, its numbers left open -/
def bagF (b c : Addr) (h : Heap) : Prop := ∃ (i j k : Int) (t u v : Tok) (n : Nat), h.get? b = some { cls := .type "list", data := .seq #[.int i t, .int j u, .int k v, .ref c] n }
def bagO (b c : Addr) : HO := .ext (bagF b c)
def BagAt (H : Hp) (b : Addr) : Prop := ∃ (c : Addr) (ns : List Int), H b = some (bagO b c) ∧ H c = some (.lst (ns.map V.int)) ∧ ns.length ≤ 63
theorem BagAt.ex {H H' : Hp} {b : Addr} (e : Ex H H') (h : BagAt H b) : BagAt H' b := by
  obtain ⟨c, ns, h1, h2, h3⟩ := h
  exact ⟨c, ns, e _ _ h1, e _ _ h2, h3⟩
theorem objOk_swap {P : Program} {w : World} {H H' : Hp} {h : Heap} (ht : ∀ a xs, H a = some (.tup xs) → H' a = some (.tup xs)) (ho : ∀ a x, H a = some (.own x) → H' a = some (.own x)) : ∀ (o : HO) (a : Addr), ObjOk P w H h a o → ObjOk P w H' h a o
  | .lst _, _, q => q
  | .tup _, _, q => q
  | .dK _, _, q => q
  | .dT kvs, a, q => by
    obtain ⟨q1, q2, xs, q3, q4⟩ := q
    exact ⟨q1, q2, xs, Paired.mapP q3 fun x y z => ⟨z.1, ht _ _ z.2.1, z.2.2⟩, q4⟩
  | .set _ _, _, q => q
  | .ins _ _ _, a, q => by
    obtain ⟨q1, q2⟩ := q
    exact ⟨ho _ _ q1, q2⟩
  | .own _, _, q => q
  | .xd _, _, q => q
  | .met _ _, _, q => q
  | .rng _ _, _, q => q
  | .frz o u, a, q => ⟨q.1, objOk_swap ht ho u a q.2⟩
  | .tbl _, _, q => q
  | .ext _, _, q => q
theorem hOk_set {P : Program} {w : World} {H : Hp} {h : Heap} {b : Addr} {o1 o2 : HO} (hk : HOk P w H h) (h1 : H b = some o1) (nt : ∀ xs, o1 ≠ .tup xs) (no : ∀ x, o1 ≠ .own x) (h2 : ObjOk P w (upd H b o2) h b o2) : HOk P w (upd H b o2) h := fun a o e => by
  by_cases ea : a = b
  · subst ea
    rw [upd_same] at e
    cases e
    exact h2
  · rw [upd_ne ea] at e
    refine objOk_swap (fun a' xs q => ?_) (fun a' x q => ?_) o a (hk a o e)
    · have n : a' ≠ b := fun z => by
        rw [z, h1] at q
        exact nt _ (Option.some.inj q)
      rw [upd_ne n]
      exact q
    · have n : a' ≠ b := fun z => by
        rw [z, h1] at q
        exact no _ (Option.some.inj q)
      rw [upd_ne n]
      exact q
def spTake : Sp := fun vs H Q _ => ∃ (b : Addr) (m : Int), vs = [.ref b, .int m] ∧ BagAt H b ∧ 0 < m ∧ m < 1000000000 ∧ ∀ (H' : Hp) (r : Int), 0 ≤ r → r < m → Ex H H' → Q (.int r) H'
section
variable {P : Program} {w : World} {K : PySem.W.Frag} {mg : Str → Option Value} {base : Heap}
theorem bag_shut {P : Program} {w : World} {H : Hp} {h : Heap} {b c : Addr} {i j k : Int} (q : ObjOk P w H h b (.lst [.int i, .int j, .int k, .ref c])) : bagF b c h := by
  obtain ⟨_, its, n, rv, ho⟩ := q
  cases rv with
  | cons r1 rv => cases rv with
    | cons r2 rv => cases rv with
      | cons r3 rv => cases rv with
        | cons r4 rv =>
          cases rv
          obtain ⟨t, rfl⟩ := r1
          obtain ⟨u, rfl⟩ := r2
          obtain ⟨v, rfl⟩ := r3
          cases r4
          exact ⟨i, j, k, t, u, v, n, ho⟩
theorem take_ext (C : CalG P w K mg base 1 "_law_take" spTakeL) : CalG P w K mg base 1 "_law_take" spTake := by
  obtain ⟨f, fd, ps, F, a, kp, bd⟩ := C.ex
  have hps : ps.length = 2 := (F.len [.ref 0, .int 1] (fun x => if x = 0 then some (.lst [.int 0, .int 0, .int 0, .ref 1]) else if x = 1 then some (.lst ([].map V.int)) else none) (fun _ _ => True) (fun _ _ _ => True) ⟨0, 1, 1, 0, 0, 0, [], rfl, rfl, rfl, by decide, by decide, by decide, fun _ _ _ _ _ _ _ _ _ => trivial⟩).symm
  refine ⟨f, fd, ps, ⟨fun vs H Q E h => ?_, fun A outer s H args us vs Q E hr hg e0 hb rv h => ?_⟩, a, kp, bd⟩
  · obtain ⟨b, m, rfl, _⟩ := h
    exact hps.symm
  · obtain ⟨b, m, rfl, ⟨c, ns, h1, h2, h3⟩, hm, hm9, q⟩ := h
    obtain ⟨⟨i, j, k, t, u, v, n, ho⟩, _, _⟩ := e0.hok b _ h1
    have nbc : c ≠ b := ne_of h2 h1 (by intro z; cases z)
    have hok : HOk P w (upd H b (.lst [.int i, .int j, .int k, .ref c])) s.heap := hOk_set e0.hok h1 (fun _ z => by cases z) (fun _ z => by cases z)
      ⟨by show 4 ≤ sizeLine; decide, [.int i t, .int j u, .int k v, .ref c], n, .cons ⟨t, rfl⟩ (.cons ⟨u, rfl⟩ (.cons ⟨v, rfl⟩ (.cons rfl .nil))), ho⟩
    have nb : ∀ x, H x = none → (upd H b (.lst [.int i, .int j, .int k, .ref c])) x = none := fun x e => by
      rw [upd_ne (fun z => by rw [z, h1] at e; cases e)]
      exact e
    have e1 : Env0 P w K mg base A outer s (upd H b (.lst [.int i, .int j, .int k, .ref c])) :=
      ⟨e0.frames, e0.mod, fun x o e => ⟨(e0.bs x o e).1, nb _ (e0.bs x o e).2⟩, e0.bsz, e0.funs, fun x hx => nb _ (e0.frf x hx), hok, e0.bare⟩
    have run := F.run A outer s _ args us [.ref b, .int m] (fun v H'' => (∃ i j k, H'' b = some (.lst [.int i, .int j, .int k, .ref c])) ∧ Q v (upd H'' b (bagO b c))) E hr hg e1 hb rv
      ⟨b, c, m, i, j, k, ns, rfl, upd_same, by rw [upd_ne nbc]; exact h2, h3, hm, hm9, fun H' r i' j' k' r0 r1 e2 hb' => ⟨⟨_, _, _, hb'⟩, q _ r r0 r1 fun x o hx => by
        by_cases ex : x = b
        · rw [ex] at hx ⊢
          rw [upd_same, ← h1]
          exact hx
        · rw [upd_ne ex]
          exact e2 x o ex (by rw [upd_ne ex]; exact hx)⟩⟩
    refine codeAny_mono run fun r s' hq => ?_
    cases r with
    | error e => exact hq
    | ok fl =>
      cases fl with
      | next => exact hq
      | brk => exact hq
      | cont => exact hq
      | ret u' =>
        obtain ⟨v', H'', q1, q2, q3, q4, q5, ⟨i2, j2, k2, q6⟩, q7⟩ := hq
        refine ⟨v', upd H'' b (bagO b c), q1, q2, ⟨?_, ?_, ?_, ?_, ?_, ?_, ?_⟩, ?_, q5, q7⟩
        · exact fun x o e n f g => q3.keep x o e (nb x n) f g
        · exact fun x o e n f g => q3.slot x o e (nb x n) f g
        · intro x o e n g
          have nx : x ≠ b := fun z => by
            rw [z, h1] at n
            cases n
          rw [upd_ne nx]
          exact q3.free x o e (nb x n) g
        · exact q3.there
        · intro x xs e
          have nx : x ≠ b := fun z => by
            rw [z, h1] at e
            cases e
          rw [upd_ne nx]
          exact q3.tups x xs (by rw [upd_ne nx]; exact e)
        · intro x o u e
          have nx : x ≠ b := fun z => by
            rw [z, h1] at e
            cases e
          rw [upd_ne nx]
          exact q3.frzs x o u (by rw [upd_ne nx]; exact e)
        · intro x ps e
          have nx : x ≠ b := fun z => by
            rw [z, h1] at e
            cases e
          rw [upd_ne nx]
          exact q3.tbls x ps (by rw [upd_ne nx]; exact e)
        · refine hOk_set q4 q6 (fun _ z => by cases z) (fun _ z => by cases z) ?_
          have q8 := bag_shut (q4 b _ q6)
          refine ⟨q8, ?_, fun ha hb ⟨i, j, k, t, u, v, n, x⟩ y => ⟨i, j, k, t, u, v, n, y _ x⟩⟩
          obtain ⟨_, _, _, _, _, _, _, x⟩ := q8
          exact ⟨_, x⟩
def spBagL (K : PySem.W.Frag) : Sp := fun vs H Q _ => ∃ (a : Addr) (ns : List Int), vs = [.ref a] ∧ SqL K H a (ns.map V.int) ∧ ns.length ≤ 63 ∧
  ∀ (H' : Hp) (b c : Addr) (ms : List Int), Ex H H' → H' b = some (.lst [.int 0, .int 1234567891, .int 0, .ref c]) → H' c = some (.lst (ms.map V.int)) → ms.length ≤ 63 → H b = none → Q (.ref b) H'
theorem all_ints : ∀ (ys : List V), (∀ (i : Nat) y, ys[i]? = some y → ∃ z : Int, y = .int z) → ∃ ms : List Int, ys = ms.map V.int
  | [], _ => ⟨[], rfl⟩
  | y :: ys, h => by
    obtain ⟨z, rfl⟩ := h 0 y rfl
    obtain ⟨ms, e⟩ := all_ints ys fun i y q => h (i + 1) y q
    exact ⟨z :: ms, by rw [e]; rfl⟩
theorem cut_at {xs : List V} {lo hi : Option Int} {i : Nat} {x : V} (h : (cutV xs lo hi)[i]? = some x) : ∃ j : Nat, xs[j]? = some x := by
  unfold cutV at h
  rw [List.getElem?_take] at h
  split at h
  · rw [List.getElem?_drop] at h
    exact ⟨_, h⟩
  · cases h
theorem map_at {ns : List Int} {i : Nat} {x : V} (h : (ns.map V.int)[i]? = some x) : ∃ z : Int, x = .int z := by
  rw [List.getElem?_map] at h
  cases e : ns[i]? with
  | none => rw [e] at h; cases h
  | some z => rw [e] at h; exact ⟨z, (Option.some.inj h).symm⟩
theorem ok_bagL (T : Txt0 mg) (D : Df K mg "_law_bag" s_l_bag) : CalG P w K mg base 1 "_law_bag" (spBagL K) := by
  refine cal_mk D sc_l_bag (fun _ _ _ _ _ _ us hl => match us, hl with | [_], _ => rfl) (fun vs H Q E h => ?_) (fun f cdv A outer s H vs Q E hr hG h => ?_)
  · obtain ⟨a, ns, rfl, _⟩ := h
    rfl
  · obtain ⟨a, ns, rfl, ha, h63, q⟩ := h
    refine ⟨_, (pss_one (ps_ret (pe_lst (pa_cons pe_int (pa_cons pe_int (pa_cons pe_int (pa_cons (pe_lcO (pe_lc (own := [("_law_cell", 1)]) rfl sc_l_bag.nd (piAny (pe_slice slAny (pv 0) po_none (po_some pe_int))) (blkOk_by (own := [("_law_cell", 1)]) (N := ["_law_script", "_law_cell"]) (sc := defScope s_l_bag) (by first | decide +kernel | kernel_rfl)) (fun _ _ _ _ _ => pg_name (i := 1) sc_l_bag.nd rfl (Or.inl rfl)) (fun _ _ _ _ _ => pts_nil) (fun _ _ _ _ _ => pe_callB call_abs (by rfl) T.abs (by decide +kernel) (pa_cons (pv 1) pa_nil)))) pa_nil))))))), ?_⟩
    refine .inl ⟨_, rfl, 63, rfl, .inl ⟨a, _, rfl, ha, fun p hp => ?_⟩⟩
    generalize hq1 : upd H p _ = H1
    obtain ⟨e1, h1⟩ := gen1 hq1 hp
    have hlen := cutV_length (ns.map V.int) none (some 63)
    rw [List.length_map] at hlen
    refine ⟨p, rfl, ⟨_, sq_of h1⟩, ?_⟩
    refine lcG (walk_list (xs := cutV (ns.map V.int) none (some 63))) (by omega) (sq_of h1) (fun _ _ e h => ex_l e h) yAt_ex (fun i ys _ => ∀ (j : Nat) y, ys[j]? = some y → ∃ z : Int, y = .int z) (fun _ _ _ _ _ h => h) (fun j y z => by simp at z) ?_ ?_
    · rintro i x H2 H3 ys hi e2 ⟨rfl, hx⟩ hp N N0 kN kN0
      obtain ⟨j, hj⟩ := cut_at hx
      obtain ⟨z, rfl⟩ := map_at hj
      refine ⟨rfl, ?_⟩
      refine ⟨_, rfl, z, rfl, ?_⟩
      refine kN _ _ (Ex.refl _) fun j y hy => ?_
      rw [List.getElem?_append] at hy
      split at hy
      · exact hp j y hy
      · rw [List.getElem?_singleton] at hy
        split at hy
        · exact ⟨_, (Option.some.inj hy).symm⟩
        · cases hy
    · intro D H2 ys hD e2 h2 hl hp
      obtain ⟨ms, rfl⟩ := all_ints ys hp
      refine ⟨by show 4 ≤ sizeLine; decide, fun b hb => ?_⟩
      generalize hq3 : upd H2 b _ = H3
      obtain ⟨e3, h3⟩ := gen1 hq3 hb
      rw [List.length_map] at hl
      exact q _ b D ms ((e1.trans e2).trans e3) h3 (e3 _ _ h2) (by omega) (fresh_back (e1.trans e2) hb)
/-- script: any list of ints -/
def spBag (K : PySem.W.Frag) : Sp := fun vs H Q _ => ∃ (a : Addr) (ns : List Int), vs = [.ref a] ∧ SqL K H a (ns.map V.int) ∧ ns.length ≤ 63 ∧ ∀ (H' : Hp) (b : Addr), Ex H H' → BagAt H' b → Q (.ref b) H'
theorem bag_ext (C : CalG P w K mg base 1 "_law_bag" (spBagL K)) : CalG P w K mg base 1 "_law_bag" (spBag K) := by
  obtain ⟨f, fd, ps, F, a, kp, bd⟩ := C.ex
  refine ⟨f, fd, ps, ⟨fun vs H Q E h => ?_, fun A outer s H args us vs Q E hr hg e0 hb rv h => ?_⟩, a, kp, bd⟩
  · obtain ⟨a, ns, rfl, ha, hl, _⟩ := h
    exact F.len [.ref a] H (fun _ _ => True) E ⟨a, ns, rfl, ha, hl, fun _ _ _ _ _ _ _ _ _ => trivial⟩
  · obtain ⟨a, ns, rfl, ha, hl, q⟩ := h
    have run := F.run A outer s _ args us [.ref a] (fun v H'' => ∃ (b c : Addr) (ms : List Int), v = .ref b ∧ Ex H H'' ∧ H'' b = some (.lst [.int 0, .int 1234567891, .int 0, .ref c]) ∧ H'' c = some (.lst (ms.map V.int)) ∧ ms.length ≤ 63 ∧ H b = none) E hr hg e0 hb rv
      ⟨a, ns, rfl, ha, hl, fun H' b c ms e h1 h2 h3 h4 => ⟨b, c, ms, rfl, e, h1, h2, h3, h4⟩⟩
    refine codeAny_mono run fun r s' hq => ?_
    cases r with
    | error e => exact hq
    | ok fl =>
      cases fl with
      | next => exact hq
      | brk => exact hq
      | cont => exact hq
      | ret u' =>
        obtain ⟨v', H'', q1, q2, q3, q4, q5, b, c, ms, rfl, e, h1, h2, h3, h4⟩ := hq
        have nbc : c ≠ b := ne_of h2 h1 (fun z => ints_ne4 z)
        have no : ∀ x o, H x = some o → x ≠ b := fun x o hx z => by
          rw [z, h4] at hx
          cases hx
        refine ⟨.ref b, upd H'' b (bagO b c), q1, q2, ⟨q3.keep, q3.slot, ?_, q3.there, ?_, ?_, ?_⟩, ?_, q5, q _ b (Ex.mut e h4) ⟨c, ms, upd_same, ?_, h3⟩⟩
        · intro x o ho n g
          have z := q3.free x o ho n g
          have nx : x ≠ b := fun y => by
            rw [y, h1] at z
            cases z
          rw [upd_ne nx]
          exact z
        · intro x xs hx
          rw [upd_ne (no _ _ hx)]
          exact q3.tups x xs hx
        · intro x o u hx
          rw [upd_ne (no _ _ hx)]
          exact q3.frzs x o u hx
        · intro x ps hx
          rw [upd_ne (no _ _ hx)]
          exact q3.tbls x ps hx
        · refine hOk_set q4 h1 (fun _ z => by cases z) (fun _ z => by cases z) ?_
          have q8 := bag_shut (q4 b _ h1)
          refine ⟨q8, ?_, fun ha hb ⟨i, j, k, t, u, v, n, x⟩ y => ⟨i, j, k, t, u, v, n, y _ x⟩⟩
          obtain ⟨_, _, _, _, _, _, _, x⟩ := q8
          exact ⟨_, x⟩
        · rw [upd_ne nbc]
          exact h2
def spSome (K : PySem.W.Frag) : Sp := fun vs H Q _ => ∃ (b a : Addr) (xs : List V), vs = [.ref b, .ref a] ∧ BagAt H b ∧ (SqL K H a xs ∨ SqT K H a xs) ∧ xs ≠ [] ∧ xs.length ≤ 100000 ∧
  ∀ (H' : Hp) (i : Nat) (x : V), Ex H H' → xs[i]? = some x → Q x H'
theorem ok_some (T : Txt0 mg) (D : Df K mg "_law_some" s_l_some) (c_l_take : CalG P w K mg base 1 "_law_take" spTake) : CalG P w K mg base 2 "_law_some" (spSome K) := by
  refine cal_mk D sc_l_some (fun _ _ _ _ _ _ us hl => match us, hl with | [_, _], _ => rfl) (fun vs H Q E h => ?_) (fun f cdv A outer s H vs Q E hr hG h => ?_)
  · obtain ⟨b, a, xs, rfl, _⟩ := h
    rfl
  · obtain ⟨b, a, xs, rfl, hb, ha, hne, hl, q⟩ := h
    have hpos : 0 < xs.length := List.length_pos_iff.mpr hne
    refine ⟨_, (pss_one (ps_ret (pe_ix ixAny (pv 1) (pe_cG c_l_take hr hG (by decide) rfl (pa_cons (pv 0) (pa_cons (pe_callB callLen (by rfl) T.len PySem.boot_len (pa_cons (pv 1) pa_nil)) pa_nil))) (fun _ _ => rfl)))), ?_⟩
    refine ⟨_, rfl, _, rfl, _, rfl, .inl ⟨a, xs, rfl, ha, ?_⟩⟩
    refine ⟨b, _, rfl, hb, by omega, by omega, fun H' r r0 r1 e => ?_⟩
    obtain ⟨j, rfl⟩ : ∃ j : Nat, r = (j : Int) := ⟨r.toNat, by omega⟩
    have hj : j < xs.length := by omega
    rcases ha with ha | ha
    · exact .inl ⟨a, xs, _, xs[j], rfl, rfl, ex_l e ha, atI_nat (List.getElem?_eq_getElem hj), q H' j _ e (List.getElem?_eq_getElem hj)⟩
    · exact .inr (.inl ⟨a, xs, _, xs[j], rfl, rfl, ex_t e ha, atI_nat (List.getElem?_eq_getElem hj), q H' j _ e (List.getElem?_eq_getElem hj)⟩)
end
abbrev s_l_names : Stmt := top 16
theorem sc_l_names : FnScope ["_law_bag_here", "_law_many", "_law_letters", "_law_found", "_law_words", "_law_k", "_law_signs", "_law_spin", "_law_at", "_law_rest", "_law_some_here", "_law_one"] ["_law_bag_here", "_law_many"] (defScope s_l_names) := ⟨rfl, rfl, rfl, by decide +kernel, rfl, by decide +kernel, by decide +kernel⟩
section
variable {P : Program} {w : World} {K : PySem.W.Frag} {mg : Str → Option Value} {base : Heap}
/-! ### names -/
def LET : Str := "abcdefghijklmnopqrstuvwxyz"
def WRD : Str := "at as last like all name book goal with turn part drop call copy chain close eq lt gt put"
def WL : List Str := ["at", "as", "last", "like", "all", "name", "book", "goal", "with", "turn", "part", "drop", "call", "copy", "chain", "close", "eq", "lt", "gt", "put"]
def lowc (c : Nat) : Bool := decide (97 ≤ c) && decide (c ≤ 122)
def isNm (z : Str) : Bool := decide (1 ≤ z.length) && decide (z.length ≤ 8) && (TL.tl z).all lowc
theorem wl_split : Txt.split WRD " " = WL := by decide +kernel
theorem wl_nm : WL.all isNm = true := by decide +kernel
theorem let_at : ∀ j : Fin 26, atI LET.cps.toList ((j.val : Nat) : Int) = some (97 + j.val) := by decide +kernel
theorem let_occ : ∀ j : Fin 26, Builtin.Str.occurrences LET (sgn (97 + j.val)) 0 LET.length 1 = [j.val] := by decide +kernel
theorem let_rot : ∀ j : Fin 26, (TL.tl (cutS LET (some (j.val : Int)) none ++ cutS LET none (some (j.val : Int)))).Nodup ∧ (TL.tl (cutS LET (some (j.val : Int)) none ++ cutS LET none (some (j.val : Int)))).all lowc = true ∧ (TL.tl (cutS LET (some (j.val : Int)) none ++ cutS LET none (some (j.val : Int)))).length = 26 := by decide +kernel
theorem let_cut : ∀ j : Fin 26, (cutS LET (some (j.val : Int)) none).length + (cutS LET none (some (j.val : Int))).length ≤ 26 := by decide +kernel
theorem four_at {r : Int} (h0 : 0 ≤ r) (h1 : r < 4) : ∃ n : Nat, 1 ≤ n ∧ n ≤ 8 ∧ atI [V.int 1, V.int 2, V.int 8, V.int 4] r = some (.int (n : Int)) := by
  have q : r = 0 ∨ r = 1 ∨ r = 2 ∨ r = 3 := by omega
  rcases q with rfl | rfl | rfl | rfl
  · exact ⟨1, by decide, by decide, rfl⟩
  · exact ⟨2, by decide, by decide, rfl⟩
  · exact ⟨8, by decide, by decide, rfl⟩
  · exact ⟨4, by decide, by decide, rfl⟩
/-- of more different names than stand in a list one is none of it -/
theorem more_left {α : Type} [DecidableEq α] : ∀ (xs ys : List α), xs.Nodup → ys.length < xs.length → ∃ x ∈ xs, x ∉ ys
  | [], ys, _, h => by simp at h
  | x :: xs, ys, hn, h => by
    by_cases hx : x ∈ ys
    · have hn2 := (List.nodup_cons.mp hn)
      obtain ⟨z, hz, hz2⟩ := more_left xs (ys.erase x) hn2.2 (by
        rw [List.length_erase_of_mem hx]
        rw [List.length_cons] at h
        have : 0 < ys.length := List.length_pos_of_mem hx
        omega)
      refine ⟨z, List.mem_cons_of_mem _ hz, fun q => hz2 ?_⟩
      have ne : z ≠ x := fun e => hn2.1 (e ▸ hz)
      exact (List.mem_erase_of_ne ne).mpr q
    · exact ⟨x, List.mem_cons_self, hx⟩
def spNames : Sp := fun vs H Q _ => ∃ (b : Addr) (m : Int), vs = [.ref b, .int m] ∧ BagAt H b ∧ 0 ≤ m ∧ m ≤ 25 ∧
  ∀ (H' : Hp) (p : Addr) (ns : List Str), Ex H H' → H p = none → H' p = some (.lst (ns.map V.str)) → (ns.length : Int) = m → ns.Nodup → (∀ z ∈ ns, isNm z = true) → Q (.ref p) H'
theorem ok_names (T : Txt0 mg) (D : Df K mg "_law_names" s_l_names) (c_l_take : CalG P w K mg base 1 "_law_take" spTake) : CalG P w K mg base 2 "_law_names" spNames := by
  refine cal_mk D sc_l_names (fun _ _ _ _ _ _ us hl => match us, hl with | [_, _], _ => rfl) (fun vs H Q E h => ?_) (fun f cdv A outer s H vs Q E hr hG h => ?_)
  · obtain ⟨b, m, rfl, _⟩ := h
    rfl
  · obtain ⟨b, m, rfl, hb, m0, m25, q⟩ := h
    refine ⟨_, (pss_cons (ps_asg (pe_tup (pa_cons pe_str (pa_cons (pe_lst pa_nil) pa_nil))) (pg_tup rfl (pgs_cons (pg_name (i := 2) sc_l_names.nd rfl (Or.inr rfl)) (pgs_cons (pg_name (i := 3) sc_l_names.nd rfl (Or.inr rfl)) pgs_nil))))
      (pss_cons (ps_set (i := 4) sc_l_names.nd rfl (Or.inl rfl) (pe_split pe_str pe_str))
      (pss_cons (ps_forO (ps_for PassesOwn.never rfl (pi_range1 rfl T.range (pa_cons (pv 1) pa_nil)) (pg_name (i := 5) sc_l_names.nd rfl (Or.inl rfl))
        (pss_cons (ps_setLcO (ps_setLc (i := 6) (own := [("_law_spin", 7)]) rfl sc_l_names.nd rfl rfl (sw_true rfl rfl rfl (by decide +kernel)) (pi_range1 rfl T.range (pa_cons (pe_ix ixAny (pe_lst (pa_cons pe_int (pa_cons pe_int (pa_cons pe_int (pa_cons pe_int pa_nil))))) (pe_cG c_l_take hr hG (by decide) rfl (pa_cons (pv 0) (pa_cons pe_int pa_nil))) (fun _ _ => rfl)) pa_nil)) (blkOk_by (own := [("_law_spin", 7)]) (N := ["_law_bag_here", "_law_many", "_law_letters", "_law_found", "_law_words", "_law_k", "_law_signs", "_law_spin", "_law_at", "_law_rest", "_law_some_here", "_law_one"]) (sc := defScope s_l_names) (by first | decide +kernel | kernel_rfl)) (fun _ _ _ _ _ => pg_name (i := 7) sc_l_names.nd rfl (Or.inl rfl)) (fun _ _ _ _ _ => pts_nil) (fun _ _ _ _ _ => pe_ix ixAnyB (pv 2) (pe_cG c_l_take hr hG (by decide) rfl (pa_cons (pv 0) (pa_cons pe_int pa_nil))) (fun _ _ => rfl))))
      (pss_cons (ps_asg (pe_tup (pa_cons (pe_bm PySem.F.plainAttrs_str PySem.F.slot_str_index PySem.F.type_str_index mt_sindex (pv 2) (pa_cons (pe_ix ixAny (pv 6) pe_int (fun _ _ => rfl)) pa_nil)) (pa_cons (pe_join pe_str (pe_slice slAny (pv 6) (po_some pe_int) po_none)) pa_nil))) (pg_tup rfl (pgs_cons (pg_name (i := 8) sc_l_names.nd rfl (Or.inl rfl)) (pgs_cons (pg_name (i := 9) sc_l_names.nd rfl (Or.inr rfl)) pgs_nil))))
      (pss_cons (ps_set (i := 10) sc_l_names.nd rfl (Or.inl rfl) (pe_op opAdd (pe_op opMul (pe_slice slAny (pv 4) (po_some (pv 8)) po_none) (pe_callTy call_int1 (by rfl) T.int (by decide +kernel) (pa_cons (pe_cmpR (opEq hr) (pe_cG c_l_take hr hG (by decide) rfl (pa_cons (pv 0) (pa_cons pe_int pa_nil))) pe_int (nomark _)) pa_nil))) (pe_lcO (pe_lc (own := [("_law_one", 11)]) rfl sc_l_names.nd (piAny (pe_op opAdd (pe_slice slAny (pv 2) (po_some (pv 8)) po_none) (pe_slice slAny (pv 2) po_none (po_some (pv 8))))) (blkOk_by (own := [("_law_one", 11)]) (N := ["_law_bag_here", "_law_many", "_law_letters", "_law_found", "_law_words", "_law_k", "_law_signs", "_law_spin", "_law_at", "_law_rest", "_law_some_here", "_law_one"]) (sc := defScope s_l_names) (by first | decide +kernel | kernel_rfl)) (fun _ _ _ _ _ => pg_name (i := 11) sc_l_names.nd rfl (Or.inl rfl)) (fun _ _ _ _ _ => pts_nil) (fun _ _ _ _ _ => pe_op opAddB (pv 11) (pv 9))))))
      (pss_one (ps_expr (pe_bm PySem.F.plainAttrs_list PySem.F.slot_list_append PySem.F.type_list_append mt_append (pv 3) (pa_cons (pe_ix ixAny (pe_lcO (pe_lc (own := [("_law_one", 11)]) rfl sc_l_names.nd (piAny (pv 10)) (blkOk_by (own := [("_law_one", 11)]) (N := ["_law_bag_here", "_law_many", "_law_letters", "_law_found", "_law_words", "_law_k", "_law_signs", "_law_spin", "_law_at", "_law_rest", "_law_some_here", "_law_one"]) (sc := defScope s_l_names) (by first | decide +kernel | kernel_rfl)) (fun _ _ _ _ _ => pg_name (i := 11) sc_l_names.nd rfl (Or.inl rfl)) (fun _ _ _ _ _ => pts_one (pt_cmpR opNotInB (pv 11) (pv 3) rfl)) (fun _ _ _ _ _ => pv 11))) pe_int (fun _ _ => rfl)) pa_nil)))))))))
      (pss_one (ps_ret (pv 3)))))), ?_⟩
    -- letters, found = '..', []
    refine ⟨Nat.zero_le _, fun fp hfp => ?_⟩
    generalize hq1 : upd H fp _ = H0
    obtain ⟨e0, h0⟩ := gen1 hq1 hfp
    refine ⟨by show 2 ≤ sizeLine; decide, fun tp htp => ?_⟩
    generalize hqt : upd H0 tp _ = H1
    obtain ⟨et, ht⟩ := gen1 hqt htp
    have e1 := e0.trans et
    have h1 := et _ _ h0
    refine ⟨tp, _, rfl, st_of ht, rfl, _, _, rfl, _, _, rfl, rfl, ?_⟩
    -- words
    refine ⟨⟨_, rfl⟩, _, _, rfl, rfl, (by decide), (by decide), fun wp hwp => ?_⟩
    generalize hq2 : upd H1 wp _ = H2
    obtain ⟨e2, h2⟩ := gen1 hq2 hwp
    have h2 : H2 wp = some (.lst (WL.map V.str)) := h2.trans (by rw [← wl_split]; rfl)
    refine ⟨_, rfl, m, rfl, by omega, by omega, ?_⟩
    refine frG (walk_range (lo := 0) (n := m.toNat)) (fun i σ H' => ∃ (ns : List Str) (x5 x6 x8 x9 x10 : Option V), σ = [some (.ref b), some (.int m), some (.str LET), some (.ref fp), some (.ref wp), x5, x6, none, x8, x9, x10, none] ∧ Ex H H' ∧
      H' fp = some (.lst (ns.map V.str)) ∧ H' wp = some (.lst (WL.map V.str)) ∧ ns.length = i ∧ ns.Nodup ∧ ∀ z ∈ ns, isNm z = true) ?_ (fun _ _ _ _ _ => trivial) ?_ ?_
    · exact ⟨[], none, none, none, none, none, rfl, e1.trans e2, e2 _ _ h1, h2, rfl, List.nodup_nil, fun z hz => by cases hz⟩
    · rintro i x σ H3 H4 hi ⟨ns, x5, x6, x8, x9, x10, rfl, e3, hf, hw, hl, hnd, hnm⟩ ⟨rfl, rfl⟩
      -- signs
      refine ⟨by show 4 ≤ sizeLine; decide, fun l4 hl4 => ?_⟩
      generalize hq5 : upd H4 l4 _ = H5
      obtain ⟨e5, h5⟩ := gen1 hq5 hl4
      refine ⟨_, rfl, b, 4, rfl, hb.ex (e3.trans e5), by decide, by decide, fun H6 r r0 r1 e6 => ?_⟩
      obtain ⟨n, n1, n8, hn⟩ := four_at r0 r1
      refine .inl ⟨l4, _, r, _, rfl, rfl, sq_of (e6 _ _ h5), hn, ?_⟩
      refine ⟨(n : Int), rfl, by omega, by omega, ?_⟩
      refine lcG (walk_range (lo := 0) (n := (n : Int).toNat)) (by omega) trivial (fun _ _ _ _ => trivial) yFn_ex (fun i ys _ => ∃ cl : List Nat, ys = (cl.map sgn).map V.str ∧ cl.length = i ∧ cl.all lowc = true) (fun _ _ _ _ _ h => h) ⟨[], rfl, rfl, rfl⟩ ?_ ?_
      · rintro j x H7 H8 ys hj e7 ⟨rfl, rfl⟩ ⟨cl, rfl, hcl, hlow⟩ N N0 kN kN0
        refine ⟨rfl, ?_⟩
        refine ⟨_, rfl, _, rfl, b, 26, rfl, hb.ex (((e3.trans e5).trans e6).trans e7), by decide, by decide, fun H9 r r0 r1 e9 => ?_⟩
        obtain ⟨j, rfl⟩ : ∃ j : Nat, r = (j : Int) := ⟨r.toNat, by omega⟩
        have ha := let_at ⟨j, by omega⟩
        refine .inr (.inr (.inl ⟨_, _, 97 + j, rfl, rfl, by decide, ha, ?_⟩))
        refine kN _ _ e9 ⟨cl ++ [97 + j], by simp [sgn], by simp [hcl], ?_⟩
        rw [List.all_append, hlow]
        simp [lowc]
        omega
      · rintro sp H7 ys hsp e7 h7 _ ⟨cl, rfl, hcl, hlow⟩
        -- at, rest
        have hcn : cl.length = n := by rw [hcl]; rfl
        obtain ⟨c0, cr, rfl⟩ : ∃ c0 cr, cl = c0 :: cr := by
          cases cl with
          | nil => rw [List.length_nil] at hcn; omega
          | cons c r => exact ⟨c, r, rfl⟩
        rw [List.all_cons, Bool.and_eq_true] at hlow
        obtain ⟨hc0, hcr⟩ := hlow
        obtain ⟨j0, rfl⟩ : ∃ j : Fin 26, c0 = 97 + j.val := by
          simp only [lowc, Bool.and_eq_true, decide_eq_true_eq] at hc0
          exact ⟨⟨c0 - 97, by omega⟩, by show c0 = 97 + (c0 - 97); omega⟩
        have hcrl : cr.length ≤ 7 := by rw [List.length_cons] at hcn; omega
        refine ⟨_, rfl, rfl, _, rfl, .inl ⟨sp, _, 0, .str (sgn (97 + j0.val)), rfl, rfl, sq_of h7, atI_nat (j := 0) rfl, ?_⟩⟩
        refine ⟨LET, sgn (97 + j0.val), j0.val, [], rfl, rfl, let_occ j0, ?_⟩
        refine ⟨⟨_, rfl⟩, _, rfl, 1, rfl, .inl ⟨sp, _, rfl, sq_of h7, fun l8 hl8 => ?_⟩⟩
        generalize hq8 : upd H7 l8 _ = H8
        obtain ⟨e8, h8⟩ := gen1 hq8 hl8
        have h8 : H8 l8 = some (.lst ((cr.map sgn).map V.str)) := by
          rw [h8]
          have z := cut_from (((((97 + j0.val) :: cr : List Nat)).map sgn).map V.str) 1
          rw [show (some (1 : Int)) = some ((1 : Nat) : Int) from rfl, z]
          rfl
        refine ⟨_, l8, cr.map sgn, rfl, rfl, .inl (sq_of h8), ?_, ?_⟩
        · have z := sum_sgn cr
          rw [z, List.length_map]
          show cr.length + cr.length * 0 ≤ 16777216
          omega
        generalize hR : Txt.join _ (cr.map sgn) = R
        have hR : R = SX.S cr := hR.symm.trans (join_sgn cr)
        refine ⟨by show 2 ≤ sizeLine; decide, fun t9 ht9 => ?_⟩
        generalize hq9 : upd H8 t9 _ = H9
        obtain ⟨e9, h9⟩ := gen1 hq9 ht9
        refine ⟨t9, _, rfl, st_of h9, rfl, _, _, rfl, _, _, rfl, rfl, ?_⟩
        have ee := (((e5.trans e6).trans e7).trans e8).trans e9
        -- some = words[at:] * int(take(8) == 0) + ..
        refine ⟨_, rfl, _, rfl, _, rfl, .inl ⟨wp, _, rfl, sq_of (ee _ _ hw), fun l10 hl10 => ?_⟩⟩
        generalize hq10 : upd H9 l10 _ = H10
        obtain ⟨e10, h10⟩ := gen1 hq10 hl10
        refine ⟨_, rfl, b, 8, rfl, hb.ex ((e3.trans ee).trans e10), by decide, by decide, fun H11 r r0 r1 e11 => ?_⟩
        refine .inl ⟨rfl, .inr ⟨_, rfl, ?_⟩⟩
        have hz10 : H10 l10 = some (.lst ((WL.drop j0.val).map V.str)) := by
          rw [h10, cut_from, List.map_drop]
        obtain ⟨kk, hkk⟩ : ∃ kk : Nat, (kk = 0 ∨ kk = 1) ∧ (if decide (V.int r = V.int 0) = true then (1 : Int) else 0) = (kk : Int) := by
          by_cases hz : decide (V.int r = V.int 0) = true
          · exact ⟨1, .inr rfl, by rw [if_pos hz]; rfl⟩
          · exact ⟨0, .inl rfl, by rw [if_neg hz]; rfl⟩
        refine .inr ⟨l10, (kk : Int), (WL.drop j0.val).map V.str, rfl, by rw [hkk.2], e11 _ _ hz10, by omega, by omega, ?_, fun l12 hl12 => ?_⟩
        · refine sz_of ?_
          rw [List.length_map, List.length_drop, Int.toNat_natCast]
          have z : WL.length = 20 := rfl
          rw [z]
          rcases hkk.1 with rfl | rfl <;> omega
        generalize hq12 : upd H11 l12 _ = H12
        obtain ⟨e12, h12⟩ := gen1 hq12 hl12
        obtain ⟨W0, hW0, hW1, hW2⟩ : ∃ W0 : List Str, H12 l12 = some (.lst (W0.map V.str)) ∧ W0.length ≤ 20 ∧ W0.all isNm = true := by
          rw [h12, Int.toNat_natCast]
          rcases hkk.1 with rfl | rfl
          · exact ⟨[], rfl, by decide, rfl⟩
          · refine ⟨WL.drop j0.val, by simp, ?_, ?_⟩
            · rw [List.length_drop]
              have z : WL.length = 20 := rfl
              omega
            · rw [List.all_eq_true]
              exact fun x hx => (List.all_eq_true.mp wl_nm) x (List.drop_subset _ _ hx)
        refine .inr (.inr ⟨_, rfl, _, rfl, _, rfl, .inr (.inr ⟨LET, rfl, by decide, ?_⟩)⟩)
        refine ⟨_, rfl, _, rfl, _, rfl, .inr (.inr ⟨LET, rfl, by decide, ?_⟩)⟩
        refine .inr (.inl ⟨_, _, rfl, rfl, sz_of (Nat.le_trans (let_cut j0) (by decide)), _, rfl, ?_⟩)
        obtain ⟨rnd, rlow, rlen⟩ := let_rot j0
        generalize hrot : (cutS LET (some (j0.val : Int)) none ++ cutS LET none (some (j0.val : Int))) = ROT at rnd rlow rlen
        have eW := (ee.trans e10).trans (e11.trans e12)
        have hrotl : ROT.cps.size = 26 := by rw [← rlen, Array.length_toList]
        refine lcG (walk_str (z := ROT)) (by rw [hrotl]; decide) trivial (fun _ _ _ _ => trivial) (fun _ _ _ _ h => ex_eq h.1) (fun i ys _ => ys = (((TL.tl ROT).take i).map fun c => sgn c ++ R).map V.str) (fun _ _ _ _ _ h => h) rfl ?_ ?_
        · rintro j x H13 H14 ys hj e13 ⟨rfl, c, hc, rfl⟩ rfl N N0 kN kN0
          refine ⟨rfl, ?_⟩
          refine ⟨_, rfl, _, rfl, .inr (.inl ⟨sgn c, R, rfl, rfl, ?_, ?_⟩)⟩
          · rw [hR]
            show 1 + cr.toArray.size ≤ sizeLine
            refine sz_of ?_
            rw [List.size_toArray]
            omega
          · refine kN _ _ (Ex.refl _) ?_
            have hc' : (TL.tl ROT)[j]? = some c := by rw [Array.getElem?_toList]; exact hc
            rw [List.take_add_one, hc', List.map_append, List.map_append]
            rfl
        · rintro l15 H15 ys hl15 e15 h15 _ rfl
          rw [hrotl, List.take_of_length_le (by rw [rlen]; decide)] at h15
          have c2l : ((TL.tl ROT).map fun c => sgn c ++ R).length = 26 := by rw [List.length_map]; exact rlen
          refine .inr (.inr (.inl ⟨l12, l15, W0.map V.str, ((TL.tl ROT).map fun c => sgn c ++ R).map V.str, rfl, rfl, e15 _ _ hW0, h15, ?_, fun l16 hl16 => ?_⟩))
          · rw [List.length_map, List.length_map]
            refine sz_of ?_
            omega
          generalize hq16 : upd H15 l16 _ = H16
          obtain ⟨e16, h16⟩ := gen1 hq16 hl16
          rw [← List.map_append] at h16
          have eA := (eW.trans e15).trans e16
          have hf16 := eA _ _ hf
          have hcl2 : (W0 ++ (TL.tl ROT).map fun c => sgn c ++ R).length ≤ 46 := by
            rw [List.length_append, c2l]
            omega
          have hcn2 : ∀ z ∈ (W0 ++ (TL.tl ROT).map fun c => sgn c ++ R), isNm z = true := by
            intro z hz
            rcases List.mem_append.mp hz with hz | hz
            · exact (List.all_eq_true.mp hW2) z hz
            · obtain ⟨c, hc, rfl⟩ := List.mem_map.mp hz
              have lc := (List.all_eq_true.mp rlow) c hc
              have e1 : TL.tl (sgn c ++ R) = c :: cr := by
                rw [TL.tl_append, hR]
                rfl
              unfold isNm
              rw [TL.len_tl, e1, List.all_cons, lc, hcr, List.length_cons]
              simp
              omega
          have hmore : ∃ z ∈ (W0 ++ (TL.tl ROT).map fun c => sgn c ++ R), z ∉ ns := by
            obtain ⟨z, hz, hz2⟩ := more_left ((TL.tl ROT).map fun c => sgn c ++ R) ns (by
              rw [List.Nodup, List.pairwise_map]
              refine List.Pairwise.imp (fun {a b} hab e => hab ?_) rnd
              have q := congrArg TL.tl e
              rw [TL.tl_append, TL.tl_append] at q
              exact (List.cons.inj q).1) (by rw [c2l]; omega)
            exact ⟨z, List.mem_append_right _ hz, hz2⟩
          generalize (W0 ++ (TL.tl ROT).map fun c => sgn c ++ R) = C at h16 hcl2 hcn2 hmore
          refine ⟨_, rfl, .inl ⟨rfl, _, sq_of hf16⟩, .inl ⟨_, rfl, l16, rfl, ⟨_, sq_of h16⟩, ?_⟩⟩
          refine lcG (walk_list (xs := C.map V.str)) (by rw [List.length_map]; omega) (sq_of h16) (fun _ _ e h => ex_l e h) yAt_ex (fun i ys _ => ys = ((C.take i).filter fun z => !decide (z ∈ ns)).map V.str) (fun _ _ _ _ _ h => h) rfl ?_ ?_
          · rintro j x H17 H18 ys hj e17 ⟨rfl, hx⟩ rfl N N0 kN kN0
            obtain ⟨z, hz, rfl⟩ := str_at hx
            refine ⟨rfl, ?_⟩
            refine ⟨_, rfl, _, rfl, .inl ⟨fp, _, rfl, .inl (sq_of (e17 _ _ hf16)), rfl, flat_strs ns, _, rfl, ?_⟩⟩
            have hin : (if true = true then !inV (V.str z) (ns.map V.str) else inV (V.str z) (ns.map V.str)) = !decide (z ∈ ns) := by
              rw [if_pos rfl, in_strs]
            rw [hin]
            by_cases hm : (!decide (z ∈ ns)) = true
            · rw [hm]
              refine iteT ⟨_, rfl, kN _ _ (Ex.refl _) ?_⟩
              rw [List.take_add_one, hz, List.filter_append, Option.toList, List.filter_cons, if_pos hm, List.map_append]
              rfl
            · rw [show (!decide (z ∈ ns)) = false by simpa using hm]
              refine iteF (kN0 _ (Ex.refl _) ?_)
              rw [List.take_add_one, hz, List.filter_append, Option.toList, List.filter_cons, if_neg hm, List.map_append]
              simp
          · rintro l17 H17 ys hl17 e17 h17 _ rfl
            rw [List.take_of_length_le (by rw [List.length_map]; exact Nat.le_refl _)] at h17
            obtain ⟨z0, zr, hz0⟩ : ∃ z0 zr, (C.filter fun z => !decide (z ∈ ns)) = z0 :: zr := by
              cases hc : (C.filter fun z => !decide (z ∈ ns)) with
              | nil =>
                obtain ⟨z, hz, hz2⟩ := hmore
                have q : z ∈ C.filter fun z => !decide (z ∈ ns) := List.mem_filter.mpr ⟨hz, by simpa using hz2⟩
                rw [hc] at q
                cases q
              | cons z0 zr => exact ⟨z0, zr, rfl⟩
            rw [hz0] at h17
            have hm0 : z0 ∈ C.filter fun z => !decide (z ∈ ns) := by rw [hz0]; exact List.mem_cons_self
            obtain ⟨hz1, hz2⟩ := List.mem_filter.mp hm0
            have hz2 : z0 ∉ ns := by simpa using hz2
            refine .inl ⟨l17, _, 0, .str z0, rfl, rfl, sq_of h17, atI_nat (j := 0) rfl, ?_⟩
            have hf17 := e17 _ _ hf16
            refine ⟨fp, _, .str z0, rfl, rfl, hf17, ?_, ?_⟩
            · rw [List.length_map]
              refine sz_lt ?_
              omega
            · have fe := (e3.trans eA).trans e17
              have nfw : wp ≠ fp := fun z => by
                have q := fe wp
                rw [z] at hwp
                rw [h1] at hwp
                cases hwp
              refine ⟨ns ++ [z0], _, _, _, _, _, rfl, Ex.mut fe hfp, ?_, ?_, ?_, ?_, ?_⟩
              · rw [upd_same, List.map_append]
                rfl
              · rw [upd_ne nfw]
                exact e17 _ _ (eA _ _ hw)
              · rw [List.length_append, hl]
                rfl
              · rw [List.nodup_append]
                refine ⟨hnd, by simp, fun a ha b hb e => hz2 ?_⟩
                rw [List.mem_singleton] at hb
                rw [← hb, ← e]
                exact ha
              · intro z hz
                rcases List.mem_append.mp hz with hz | hz
                · exact hnm z hz
                · rw [List.mem_singleton] at hz
                  rw [hz]
                  exact hcn2 z0 hz1
    · rintro σ H3 ⟨ns, x5, x6, x8, x9, x10, rfl, e3, hf, hw, hl, hnd, hnm⟩
      exact ⟨_, rfl, q _ fp ns e3 hfp hf (by omega) hnd hnm⟩
end
/-! ### atoms and facts as data -/
abbrev A3 := Str × Str × Str
def sl3 (a : A3) : List Str := [a.1, a.2.1, a.2.2]
def AtomAt (H : Hp) (v : V) (a : A3) : Prop := ∃ p, v = .ref p ∧ H p = some (.tup ((sl3 a).map V.str))
theorem AtomAt.tex {H H' : Hp} {v : V} {a : A3} (e : TEx H H') (h : AtomAt H v a) : AtomAt H' v a := by
  obtain ⟨p, h1, h2⟩ := h
  exact ⟨p, h1, e _ _ h2⟩
theorem AtomAt.ex {H H' : Hp} {v : V} {a : A3} (e : Ex H H') (h : AtomAt H v a) : AtomAt H' v a := h.tex (TEx.of e)
def AllAt (H : Hp) : List V → List A3 → Prop
  | [], [] => True
  | v :: vs, a :: as => AtomAt H v a ∧ AllAt H vs as
  | _, _ => False
theorem AllAt.tex {H H' : Hp} (e : TEx H H') : ∀ {vs : List V} {as : List A3}, AllAt H vs as → AllAt H' vs as
  | [], [], _ => trivial
  | _ :: _, _ :: _, h => ⟨h.1.tex e, AllAt.tex e h.2⟩
  | [], _ :: _, h => h.elim
  | _ :: _, [], h => h.elim
theorem AllAt.len {H : Hp} : ∀ {vs : List V} {as : List A3}, AllAt H vs as → vs.length = as.length
  | [], [], _ => rfl
  | _ :: vs, _ :: as, h => by rw [List.length_cons, List.length_cons, AllAt.len h.2]
  | [], _ :: _, h => h.elim
  | _ :: _, [], h => h.elim
theorem AllAt.at {H : Hp} : ∀ {vs : List V} {as : List A3} {i : Nat} {v : V}, AllAt H vs as → vs[i]? = some v → ∃ a, as[i]? = some a ∧ AtomAt H v a
  | _ :: _, a :: _, 0, _, h, e => ⟨a, rfl, by cases e; exact h.1⟩
  | _ :: vs, _ :: as, i + 1, v, h, e => AllAt.at (vs := vs) (as := as) (i := i) h.2 e
  | [], [], _, _, _, e => by simp at e
  | [], _ :: _, _, _, h, _ => h.elim
  | _ :: _, [], _, _, h, _ => h.elim
theorem AllAt.snoc {H : Hp} {v : V} {a : A3} (hv : AtomAt H v a) : ∀ {vs : List V} {as : List A3}, AllAt H vs as → AllAt H (vs ++ [v]) (as ++ [a])
  | [], [], _ => ⟨hv, trivial⟩
  | _ :: vs, _ :: as, h => ⟨h.1, AllAt.snoc hv h.2⟩
  | [], _ :: _, h => h.elim
  | _ :: _, [], h => h.elim
def FactAt (H : Hp) (v : V) (as : List A3) : Prop := ∃ p xs, v = .ref p ∧ H p = some (.tup xs) ∧ AllAt H xs as
theorem FactAt.ex {H H' : Hp} {v : V} {as : List A3} (e : Ex H H') (h : FactAt H v as) : FactAt H' v as := by
  obtain ⟨p, xs, h1, h2, h3⟩ := h
  exact ⟨p, xs, h1, e _ _ h2, h3.tex (TEx.of e)⟩
def atD (a : A3) : PyData := .tuple ((sl3 a).map PyData.str)
theorem dp_strs {K : PySem.W.Frag} {H : Hp} : ∀ ns : List Str, DpAll K H (ns.map V.str) (ns.map PyData.str)
  | [] => .nil
  | n :: ns => .cons (.str n) (dp_strs ns)
theorem AtomAt.dp {K : PySem.W.Frag} {H : Hp} {v : V} {a : A3} (h : AtomAt H v a) : Dp K H v (atD a) := by
  obtain ⟨p, rfl, h2⟩ := h
  exact .tup (st_of h2) (dp_strs _)
theorem AllAt.dp {K : PySem.W.Frag} {H : Hp} : ∀ {vs : List V} {as : List A3}, AllAt H vs as → DpAll K H vs (as.map atD)
  | [], [], _ => .nil
  | _ :: vs, _ :: as, h => .cons h.1.dp (AllAt.dp h.2)
  | [], _ :: _, h => h.elim
  | _ :: _, [], h => h.elim
def faD (as : List A3) : PyData := .tuple (as.map atD)
theorem FactAt.dp {K : PySem.W.Frag} {H : Hp} {v : V} {as : List A3} (h : FactAt H v as) : Dp K H v (faD as) := by
  obtain ⟨p, xs, rfl, h2, h3⟩ := h
  exact .tup (st_of h2) h3.dp
/-! ### the mathematics -/
def isR (r : Str) : Bool := r == "eq" || r == "lt" || r == "gt" || r == ""
def trR (r : Str) : Str := if r = "lt" then "gt" else if r = "gt" then "lt" else r
def trA (a : A3) : A3 := (trR a.1, a.2.2, a.2.1)
def okp (p a : Str) : Bool := (("" : Str) == p) || (a == p)
def fitL (p a : A3) : List Bool := List.zipWith okp (sl3 p) (sl3 a)
def fitB (p a : A3) : Bool := (fitL p a).all id
theorem isR_cases {r : Str} (h : isR r = true) : r = "eq" ∨ r = "lt" ∨ r = "gt" ∨ r = "" := by
  simp only [isR, Bool.or_eq_true, beq_iff_eq] at h
  rcases h with ((h | h) | h) | h
  · exact .inl h
  · exact .inr (.inl h)
  · exact .inr (.inr (.inl h))
  · exact .inr (.inr (.inr h))
theorem trR_trR {r : Str} (h : isR r = true) : trR (trR r) = r := by
  rcases isR_cases h with rfl | rfl | rfl | rfl <;> decide +kernel
theorem trR_isR {r : Str} (h : isR r = true) : isR (trR r) = true := by
  rcases isR_cases h with rfl | rfl | rfl | rfl <;> decide +kernel
theorem trA_trA {a : A3} (h : isR a.1 = true) : trA (trA a) = a := by
  obtain ⟨r, l, t⟩ := a
  show (trR (trR r), l, t) = (r, l, t)
  rw [trR_trR h]
theorem okp_trR {p a : Str} (hp : isR p = true) (ha : isR a = true) : okp (trR p) a = okp p (trR a) := by
  rcases isR_cases hp with rfl | rfl | rfl | rfl <;> rcases isR_cases ha with rfl | rfl | rfl | rfl <;> decide +kernel
theorem fitB_eq (p a : A3) : fitB p a = (okp p.1 a.1 && (okp p.2.1 a.2.1 && okp p.2.2 a.2.2)) := by
  show (okp p.1 a.1 && (okp p.2.1 a.2.1 && (okp p.2.2 a.2.2 && true))) = _
  rw [Bool.and_true]
theorem fitB_tr {p a : A3} (hp : isR p.1 = true) (ha : isR a.1 = true) : fitB (trA p) a = fitB p (trA a) := by
  rw [fitB_eq, fitB_eq]
  show (okp (trR p.1) a.1 && (okp p.2.2 a.2.1 && okp p.2.1 a.2.2)) = (okp p.1 (trR a.1) && (okp p.2.1 a.2.2 && okp p.2.2 a.2.1))
  rw [okp_trR hp ha, Bool.and_comm (okp p.2.2 a.2.1)]
theorem okp_self (a : Str) : okp a a = true := by simp [okp]
theorem fitB_self (a : A3) : fitB a a = true := by
  rw [fitB_eq, okp_self, okp_self, okp_self]
  rfl
def lay (z : Str) : Bool := (PyData.str z).canLay0
def sOk (a : A3) : Bool := lay a.1 && (lay a.2.1 && lay a.2.2)
theorem shp_at {a : A3} (h : sOk a = true) : SeqAt.shaped (atD a) = true := by
  show ((lay a.1 && (lay a.2.1 && (lay a.2.2 && true))) && true) = true
  rw [Bool.and_true, Bool.and_true]
  exact h
theorem nm_ok {z : Str} (h : isNm z = true) : lay z = true := by
  unfold isNm at h
  rw [Bool.and_eq_true] at h
  show z.cps.all (· < 0x110000) = true
  rw [← Array.all_toList, List.all_eq_true]
  intro c hc
  have q := (List.all_eq_true.mp h.2) c hc
  simp only [lowc, Bool.and_eq_true, decide_eq_true_eq] at q
  exact decide_eq_true (by omega)
theorem rel_ok {r : Str} (h : isR r = true) : lay r = true := by
  rcases isR_cases h with rfl | rfl | rfl | rfl <;> decide +kernel
theorem eqv_at (a b : A3) : PyData.eqv (atD a) (atD b) = decide (a = b) := by
  obtain ⟨a1, a2, a3⟩ := a
  obtain ⟨b1, b2, b3⟩ := b
  show (a1 == b1 && (a2 == b2 && (a3 == b3 && true))) = decide ((a1, a2, a3) = (b1, b2, b3))
  rw [Bool.and_true]
  by_cases h1 : a1 = b1 <;> by_cases h2 : a2 = b2 <;> by_cases h3 : a3 = b3 <;> simp [h1, h2, h3]
theorem eqv_ats : ∀ as bs : List A3, PyData.eqvAll (as.map atD) (bs.map atD) = decide (as = bs)
  | [], [] => rfl
  | [], _ :: _ => rfl
  | _ :: _, [] => rfl
  | a :: as, b :: bs => by
    show (PyData.eqv (atD a) (atD b) && PyData.eqvAll (as.map atD) (bs.map atD)) = decide (a :: as = b :: bs)
    rw [eqv_at, eqv_ats as bs]
    by_cases h1 : a = b <;> by_cases h2 : as = bs <;> simp [h1, h2]
theorem shp_fa {as : List A3} (h : as.length ≤ 2) (hs : ∀ a ∈ as, sOk a = true) : SeqAt.shaped (faD as) = true := by
  have hk : ∀ a ∈ as, (atD a).canLay0 = true := fun a ha => (Bool.and_eq_true_iff.mp (shp_at (hs a ha))).1
  match as, h, hk with
  | [], _, _ => rfl
  | [a], _, hk =>
    show (((atD a).canLay0 && true) && true) = true
    rw [hk a (by simp)]
    rfl
  | [a, b], _, hk =>
    show (((atD a).canLay0 && ((atD b).canLay0 && true)) && true) = true
    rw [hk a (by simp), hk b (by simp)]
    rfl
  | _ :: _ :: _ :: _, h, _ => simp at h
theorem eqv_fa (as bs : List A3) : PyData.eqv (faD as) (faD bs) = decide (as = bs) := eqv_ats as bs
def isR3 (r : Str) : Bool := r == "eq" || r == "lt" || r == "gt"
theorem isR_of {r : Str} (h : isR3 r = true) : isR r = true := by
  unfold isR
  unfold isR3 at h
  rw [h]
  rfl
theorem rel_at {r : Int} (h0 : 0 ≤ r) (h1 : r < 4) : ∃ z : Str, isR3 z = true ∧ atI [V.str "eq", V.str "lt", V.str "gt", V.str "lt"] r = some (.str z) := by
  have q : r = 0 ∨ r = 1 ∨ r = 2 ∨ r = 3 := by omega
  rcases q with rfl | rfl | rfl | rfl
  · exact ⟨"eq", by decide +kernel, rfl⟩
  · exact ⟨"lt", by decide +kernel, rfl⟩
  · exact ⟨"gt", by decide +kernel, rfl⟩
  · exact ⟨"lt", by decide +kernel, rfl⟩
theorem okp_full {p a : Str} (h : p ≠ "") : okp p a = decide (p = a) := by
  unfold okp
  have h1 : (("" : Str) == p) = false := beq_eq_false_iff_ne.mpr fun e => h e.symm
  rw [h1, Bool.false_or]
  by_cases e : p = a
  · subst e
    simp
  · have e2 : ¬ a = p := fun z => e z.symm
    have e3 : (a == p) = false := beq_eq_false_iff_ne.mpr e2
    rw [e3]
    simp [e]
theorem fitB_full {p a : A3} (h1 : p.1 ≠ "") (h2 : p.2.1 ≠ "") (h3 : p.2.2 ≠ "") : fitB p a = decide (p = a) := by
  obtain ⟨p1, p2, p3⟩ := p
  obtain ⟨a1, a2, a3⟩ := a
  rw [fitB_eq]
  show (okp p1 a1 && (okp p2 a2 && okp p3 a3)) = _
  rw [okp_full h1, okp_full h2, okp_full h3]
  by_cases e1 : p1 = a1 <;> by_cases e2 : p2 = a2 <;> by_cases e3 : p3 = a3 <;> simp [e1, e2, e3]
theorem fitB_none (a : A3) : fitB ("", "", "") a = true := by
  rw [fitB_eq]
  show ((("" : Str) == "" || _) && (((("" : Str) == "") || _) && ((("" : Str) == "") || _))) = true
  rw [show (("" : Str) == "") = true from by decide +kernel]
  rfl
theorem isR3_ne {r : Str} (h : isR3 r = true) : r ≠ "" := by
  intro e
  subst e
  revert h
  decide +kernel
theorem nm_ne {z : Str} (h : isNm z = true) : z ≠ "" := by
  intro e
  subst e
  revert h
  decide +kernel
theorem fin_at {a : A3} (h : sOk a = true) (h1 : a.1.length ≤ 8) (h2 : a.2.1.length ≤ 8) (h3 : a.2.2.length ≤ 8) : fin 1 300 (atD a) := by
  unfold sOk lay at h
  rw [Bool.and_eq_true, Bool.and_eq_true] at h
  refine (fin_tup (n := 0) (W := 82) (m := 3) (fun d hd => ?_) (Nat.le_refl _)).mono (by decide) (by decide)
  have hd : d ∈ [PyData.str a.1, PyData.str a.2.1, PyData.str a.2.2] := hd
  simp only [List.mem_cons, List.not_mem_nil, or_false] at hd
  rcases hd with rfl | rfl | rfl
  · exact fin_str (L := 8) h.1 h1
  · exact fin_str (L := 8) h.2.1 h2
  · exact fin_str (L := 8) h.2.2 h3
def gA (a : A3) : Prop := sOk a = true ∧ a.1.length ≤ 8 ∧ a.2.1.length ≤ 8 ∧ a.2.2.length ≤ 8
theorem gA.fin {a : A3} (h : gA a) : fin 1 300 (atD a) := fin_at h.1 h.2.1 h.2.2.1 h.2.2.2
theorem fin_fa {as : List A3} (h : ∀ a ∈ as, gA a) (h2 : as.length ≤ 2) : Own.fin 2 700 (faD as) := by
  refine (fin_tup (n := 1) (W := 300) (m := 2) (fun d hd => ?_) (by rw [List.length_map]; exact h2)).mono (by decide) (by decide)
  obtain ⟨a, ha, rfl⟩ := List.mem_map.mp hd
  exact (h a ha).fin
theorem rel_len {r : Str} (h : isR r = true) : r.length ≤ 8 := by
  rcases isR_cases h with rfl | rfl | rfl | rfl <;> decide
theorem nm_len {z : Str} (h : isNm z = true) : z.length ≤ 8 := by
  unfold isNm at h
  simp only [Bool.and_eq_true, decide_eq_true_eq] at h
  exact h.1.2
theorem gA_of {ns : List Str} (hnm : ∀ z ∈ ns, isNm z = true) {a : A3} (h0 : isR a.1 = true) (h1 : a.2.1 = "" ∨ a.2.1 ∈ ns) (h2 : a.2.2 = "" ∨ a.2.2 ∈ ns) : gA a := by
  have ok : ∀ z : Str, (z = "" ∨ z ∈ ns) → lay z = true ∧ z.length ≤ 8 := fun z hz => by
    rcases hz with rfl | hz
    · exact ⟨by decide +kernel, by decide⟩
    · exact ⟨nm_ok (hnm z hz), nm_len (hnm z hz)⟩
  refine ⟨?_, rel_len h0, (ok _ h1).2, (ok _ h2).2⟩
  show (lay a.1 && (lay a.2.1 && lay a.2.2)) = true
  rw [rel_ok h0, (ok _ h1).1, (ok _ h2).1]
  rfl
theorem gA.tr {a : A3} (h : gA a) (hr : isR a.1 = true) : gA (trA a) := by
  obtain ⟨h1, h2, h3, h4⟩ := h
  have hr2 := trR_isR hr
  unfold sOk at h1
  rw [Bool.and_eq_true, Bool.and_eq_true] at h1
  refine ⟨?_, rel_len hr2, h4, h3⟩
  show (lay (trR a.1) && (lay a.2.2 && lay a.2.1)) = true
  rw [rel_ok hr2, h1.2.1, h1.2.2]
  rfl
end Own

namespace Own
open PySem PySem.Spec PyProof.Rows L2 Evl
/-! ### what data is -/
structure TxtI (K : PySem.W.Frag) (mg : Str → Option Value) (rel : Addr) : Prop where
  isinstance : mg "isinstance" = none
  str : mg "str" = none
  bool : mg "bool" = none
  tuple : mg "tuple" = none
  g_LONGEST_NAME : ∃ t, mg "LONGEST_NAME" = some (.int 8 t)
  g_RELATIONS : mg "RELATIONS" = some (.ref rel)
  rels : ∀ H, SqT K H rel [.str "eq", .str "lt", .str "gt"]
def rLeA : R2 := fun x y H Z => rLeI x y H Z ∨ ∃ i j, x = .str i ∧ y = .str j ∧ Z (.bl (!decide (j.cps.toList < i.cps.toList))) H
theorem opLeA {X : Cx} : OpR X (compareOp .LtE) rLeA := OpR.or op_le op_le_str
def nmD : PyData → Bool | .str z => isNm z | _ => false
def relD : PyData → Bool | .str z => isR3 z | _ => false
def blankD : PyData → Bool | .str z => decide (z = "") | _ => false
def atomD : PyData → Bool | .tuple [a, b, c] => relD a && (nmD b && nmD c) | _ => false
def partD (d : PyData) : Bool := blankD d || nmD d
def patD : PyData → Bool | .tuple [a, b, c] => (blankD a || relD a) && (partD b && partD c) | _ => false
def factD : PyData → Bool | .tuple ds => decide (1 ≤ ds.length) && (decide (ds.length ≤ 2) && ds.all atomD) | _ => false
def rowD : PyData → Bool | .tuple [a, b] => nmD a && factD b | _ => false
theorem str_of {d : PyData} (h : isStrD d = true) : ∃ z, d = .str z := by cases d <;> first | exact ⟨_, rfl⟩ | cases h
theorem tup_of {d : PyData} (h : isTupD d = true) : ∃ ds, d = .tuple ds := by cases d <;> first | exact ⟨_, rfl⟩ | cases h
theorem nmD_no {d : PyData} (h : isStrD d = false) : nmD d = false := by cases d <;> first | rfl | cases h
theorem relD_no {d : PyData} (h : isStrD d = false) : relD d = false := by cases d <;> first | rfl | cases h
theorem blankD_no {d : PyData} (h : isStrD d = false) : blankD d = false := by cases d <;> first | rfl | cases h
theorem atomD_no {d : PyData} (h : isTupD d = false) : atomD d = false := by cases d <;> first | rfl | cases h
theorem patD_no {d : PyData} (h : isTupD d = false) : patD d = false := by cases d <;> first | rfl | cases h
theorem factD_no {d : PyData} (h : isTupD d = false) : factD d = false := by cases d <;> first | rfl | cases h
theorem rowD_no {d : PyData} (h : isTupD d = false) : rowD d = false := by cases d <;> first | rfl | cases h
theorem atomD_len : ∀ {ds : List PyData}, ds.length ≠ 3 → atomD (.tuple ds) = false
  | [], _ => rfl
  | [_], _ => rfl
  | [_, _], _ => rfl
  | [_, _, _], h => absurd rfl h
  | _ :: _ :: _ :: _ :: _, _ => rfl
theorem patD_len : ∀ {ds : List PyData}, ds.length ≠ 3 → patD (.tuple ds) = false
  | [], _ => rfl
  | [_], _ => rfl
  | [_, _], _ => rfl
  | [_, _, _], h => absurd rfl h
  | _ :: _ :: _ :: _ :: _, _ => rfl
theorem rowD_len : ∀ {ds : List PyData}, ds.length ≠ 2 → rowD (.tuple ds) = false
  | [], _ => rfl
  | [_], _ => rfl
  | [_, _], h => absurd rfl h
  | _ :: _ :: _ :: _, _ => rfl
theorem Da.str_inv {H : Hp} {v : V} {z : Str} (h : Da H v (.str z)) : v = .str z := by cases h; rfl
theorem Da.tup_inv {H : Hp} {v : V} {ds : List PyData} (h : Da H v (.tuple ds)) : ∃ p xs, v = .ref p ∧ H p = some (.tup xs) ∧ DaAll H xs ds := by cases h with | tup h1 h2 => exact ⟨_, _, rfl, h1, h2⟩
theorem Da.lst_inv {H : Hp} {v : V} {ds : List PyData} (h : Da H v (.list ds)) : ∃ p xs, v = .ref p ∧ H p = some (.lst xs) ∧ DaAll H xs ds := by cases h with | lst h1 h2 => exact ⟨_, _, rfl, h1, h2⟩
theorem three {H : Hp} {xs : List V} {ds : List PyData} (h : DaAll H xs ds) (hl : ds.length = 3) : ∃ x y z a b c, xs = [x, y, z] ∧ ds = [a, b, c] ∧ Da H x a ∧ Da H y b ∧ Da H z c := by
  match ds, xs, h, hl with
  | [a, b, c], _, .cons h1 (.cons h2 (.cons h3 .nil)), _ => exact ⟨_, _, _, _, _, _, rfl, rfl, h1, h2, h3⟩
theorem two {H : Hp} {xs : List V} {ds : List PyData} (h : DaAll H xs ds) (hl : ds.length = 2) : ∃ x y a b, xs = [x, y] ∧ ds = [a, b] ∧ Da H x a ∧ Da H y b := by
  match ds, xs, h, hl with
  | [a, b], _, .cons h1 (.cons h2 .nil), _ => exact ⟨_, _, _, _, rfl, rfl, h1, h2⟩
theorem okD.memT {n W : Nat} {ds : List PyData} (h : okD n W (.tuple ds)) {d : PyData} (hd : d ∈ ds) : okD n W d := by
  obtain ⟨h1, h2, h3⟩ := h
  have q2 : PyData.depthAll ds + 1 ≤ n := h2
  have q3 : wds ds + 3 ≤ W := h3
  have z := wd_mem hd
  exact ⟨gDs_iff.mp h1 d hd, Nat.le_trans (depthAll_le.mp (Nat.le_refl _) d hd) (by omega), by omega⟩
theorem okD.memL {n W : Nat} {ds : List PyData} (h : okD n W (.list ds)) {d : PyData} (hd : d ∈ ds) : okD n W d := okD.memT (ds := ds) h hd
theorem okD.lenT {n W : Nat} {ds : List PyData} (h : okD n W (.tuple ds)) : 5 * ds.length ≤ W := by
  have q3 : wds ds + 3 ≤ W := h.2.2
  have := len_wds ds
  omega
theorem int_ne (n m : Nat) : (!decide (V.int (n : Int) = V.int (m : Int))) = !decide (n = m) := by
  by_cases h : n = m
  · rw [h]
    simp
  · rw [decide_eq_false h, decide_eq_false (show ¬ V.int (n : Int) = V.int (m : Int) from fun e => h (Int.ofNat.inj (V.int.inj e)))]
theorem int_eq (n m : Nat) : decide (V.int (n : Int) = V.int (m : Int)) = decide (n = m) := by
  by_cases h : n = m
  · rw [h]
    simp
  · rw [decide_eq_false h, decide_eq_false (show ¬ V.int (n : Int) = V.int (m : Int) from fun e => h (Int.ofNat.inj (V.int.inj e)))]
theorem one_lt (a b : Nat) : decide (([a] : List Nat) < [b]) = decide (a < b) := by
  by_cases h : a < b
  · rw [decide_eq_true h, decide_eq_true (List.cons_lt_cons_iff.mpr (.inl h))]
  · rw [decide_eq_false h, decide_eq_false]
    intro e
    rcases List.cons_lt_cons_iff.mp e with e | ⟨_, e⟩
    · exact h e
    · exact absurd e (by simp)
theorem le_a (c : Nat) : (!decide ((sgn c).cps.toList < (Str.ofString "a").cps.toList)) = decide (97 ≤ c) := by
  show (!decide (([c] : List Nat) < [97])) = _
  rw [one_lt]
  by_cases h : c < 97
  · rw [decide_eq_true h, decide_eq_false (by omega)]
    rfl
  · rw [decide_eq_false h, decide_eq_true (by omega)]
    rfl
theorem le_z (c : Nat) : (!decide ((Str.ofString "z").cps.toList < (sgn c).cps.toList)) = decide (c ≤ 122) := by
  show (!decide (([122] : List Nat) < [c])) = _
  rw [one_lt]
  by_cases h : 122 < c
  · rw [decide_eq_true h, decide_eq_false (by omega)]
    rfl
  · rw [decide_eq_false h, decide_eq_true (by omega)]
    rfl
theorem rel_in (z : Str) : inV (.str z) [.str "eq", .str "lt", .str "gt"] = isR3 z := by
  rw [show [V.str "eq", V.str "lt", V.str "gt"] = (["eq", "lt", "gt"] : List Str).map V.str from rfl, in_strs]
  unfold isR3
  by_cases h1 : z = "eq" <;> by_cases h2 : z = "lt" <;> by_cases h3 : z = "gt" <;> simp [h1, h2, h3]
theorem tk {α : Type} {l : List α} {i : Nat} {x : α} (h : l[i]? = some x) : l.take (i + 1) = l.take i ++ [x] := by
  rw [List.take_add_one, h]
  rfl
section
variable {P : Program} {w : World} {K : PySem.W.Frag} {mg : Str → Option Value} {base : Heap} {rel : Addr}
def spIs (p : PyData → Bool) : Sp := fun vs H Q _ => ∃ (v : V) (d : PyData), vs = [v] ∧ Da H v d ∧ okD 40 16000000 d ∧ ∀ H', Ex H H' → Q (.bl (p d)) H'
end
abbrev s_is_name : Stmt := top 6
theorem sc_is_name : FnScope ["thing", "letter"] ["thing"] (defScope s_is_name) := ⟨rfl, rfl, rfl, by decide +kernel, rfl, by decide +kernel, by decide +kernel⟩
abbrev s_is_relation : Stmt := top 7
theorem sc_is_relation : FnScope ["thing"] ["thing"] (defScope s_is_relation) := ⟨rfl, rfl, rfl, by decide +kernel, rfl, by decide +kernel, by decide +kernel⟩
section
variable {P : Program} {w : World} {K : PySem.W.Frag} {mg : Str → Option Value} {base : Heap} {rel : Addr}
theorem ok_is_name (T : Txt0 mg) (TI : TxtI K mg rel) (D : Df K mg "is_name" s_is_name) : CalG P w K mg base 1 "is_name" (spIs nmD) := by
  obtain ⟨t0, g_LONGEST_NAME⟩ := TI.g_LONGEST_NAME
  refine cal_mk D sc_is_name (fun _ _ _ _ _ _ us hl => match us, hl with | [_], _ => rfl) (fun vs H Q E h => ?_) (fun f cdv A outer s H vs Q E hr hG h => ?_)
  · obtain ⟨v, d, rfl, _⟩ := h
    rfl
  · obtain ⟨v, d, rfl, hv, hok, q⟩ := h
    refine ⟨_, (pss_cons (ps_if (PW.pt (pw_or (pt_not (pt_val (pe_callB call_isi (by rfl) TI.isinstance (by decide +kernel) (pa_cons (pv 0) (pa_cons (pe_bltn (v := .ty "str") (by rfl) TI.str (by decide +kernel) rfl) pa_nil))))) (pw_or1 (pt_not (pt_chain opLeA opLeA pe_int (pe_callB callLen (by rfl) T.len PySem.boot_len (pa_cons (pv 0) pa_nil)) (pe_glob (v := .int _) rfl g_LONGEST_NAME ⟨_, rfl⟩)))))) (pss_one (ps_ret pe_bl)) pss_nil)
      (pss_one (ps_ret (pe_callB (cr_all rfl) (by rfl) T.all (by decide +kernel) (pa_cons (pe_lcO (pe_lc (own := [("letter", 1)]) rfl sc_is_name.nd (piAny (pv 0)) (blkOk_by (own := [("letter", 1)]) (N := ["thing", "letter"]) (sc := defScope s_is_name) (by first | decide +kernel | kernel_rfl)) (fun _ _ _ _ _ => pg_name (i := 1) sc_is_name.nd rfl (Or.inl rfl)) (fun _ _ _ _ _ => pts_nil) (fun _ _ _ _ _ => pe_chain opLeA opLeA pe_str (pv 1) pe_str))) pa_nil))))), ?_⟩
    refine ⟨_, rfl, v, .ty "str", _, _, _, rfl, .ty _, hv.ty, kit_ty (kit_str d), _, rfl, ?_⟩
    cases hs : isStrD d with
    | false =>
      refine iteT ?_
      rw [← nmD_no hs]
      exact q _ (Ex.refl _)
    | true =>
      obtain ⟨z, rfl⟩ := str_of hs
      have ev := hv.str_inv
      subst ev
      have hw : 10 * z.length + 5 ≤ 16000000 := hok.2.2
      refine iteF ⟨_, rfl, .inr ⟨z, rfl, by show z.length ≤ 16777216; omega, ?_⟩⟩
      refine .inl ⟨_, _, rfl, rfl, _, rfl, ite2 (fun h1 => .inl ⟨_, _, rfl, rfl, _, rfl, ite2 (fun h2 => ?_) (fun h2 => ?_)⟩) (fun h1 => ⟨_, rfl, ifT (by rfl) ?_⟩)⟩
      · have e : nmD (.str z) = false := by
          show (_ && decide (z.length ≤ 8) && _) = false
          have z2 : ¬ ((z.length : Int) ≤ (8 : Int)) := by simpa using h2
          rw [decide_eq_false (show ¬ z.length ≤ 8 by omega), Bool.and_false, Bool.false_and]
        rw [← e]
        exact q _ (Ex.refl _)
      · have z1 : ((1 : Int) ≤ (z.length : Int)) := by simpa using h1
        have z2 : ((z.length : Int) ≤ (8 : Int)) := by simpa using h2
        refine .inr (.inr ⟨_, rfl, z, rfl, ?_⟩)
        refine lcG walk_str (by have z2 : z.cps.size = z.length := rfl; omega) trivial (fun _ _ _ _ => trivial) (fun i H x H' h => by rw [h.1]; exact Ex.refl _) (fun i ys _ => ys = (((TL.tl z).take i).map lowc).map V.bl) (fun _ _ _ _ _ h => h) rfl ?_ ?_
        · rintro i x H1 H2 ys hi e ⟨rfl, c, hc, rfl⟩ rfl N N0 kN kN0
          have hc2 : (TL.tl z)[i]? = some c := by
            show z.cps.toList[i]? = some c
            rw [Array.getElem?_toList]
            exact hc
          have fin : ∀ b : Bool, b = lowc c → N (.bl b) H2 := fun b hb => kN _ _ (Ex.refl _) (by
            rw [tk hc2, List.map_append, List.map_append, hb]
            rfl)
          refine ⟨rfl, ?_⟩
          refine ⟨_, rfl, .inr ⟨_, _, rfl, rfl, _, congrArg V.bl (le_a c), ite2 (fun k1 => .inr ⟨_, _, rfl, rfl, ?_⟩) (fun k1 => fin _ ?_)⟩⟩
          · refine fin _ ?_
            rw [show (!decide ((Str.ofString "z").cps.toList < (⟨#[c]⟩ : Str).cps.toList)) = decide (c ≤ 122) from le_z c]
            unfold lowc
            rw [k1, Bool.true_and]
          · unfold lowc
            rw [show decide (97 ≤ c) = false from by simpa using k1, Bool.false_and]
        · rintro l H1 ys hl e1 h1' _ rfl
          refine ⟨l, _, rfl, sq_of h1', ?_⟩
          have e : ((((TL.tl z).take z.cps.size).map lowc).all id) = nmD (.str z) := by
            rw [show z.cps.size = (TL.tl z).length from by simp, List.take_length, List.all_map]
            show _ = (decide (1 ≤ z.length) && decide (z.length ≤ 8) && (TL.tl z).all lowc)
            rw [decide_eq_true (show 1 ≤ z.length by omega), decide_eq_true (show z.length ≤ 8 by omega)]
            rfl
          rw [e]
          exact q _ e1
      · have e : nmD (.str z) = false := by
          show (decide (1 ≤ z.length) && _ && _) = false
          have z1 : ¬ ((1 : Int) ≤ (z.length : Int)) := by simpa using h1
          rw [decide_eq_false (show ¬ 1 ≤ z.length by omega), Bool.false_and, Bool.false_and]
        rw [← e]
        exact q _ (Ex.refl _)
theorem ok_is_relation (T : Txt0 mg) (TI : TxtI K mg rel) (D : Df K mg "is_relation" s_is_relation) : CalG P w K mg base 1 "is_relation" (spIs relD) := by
  refine cal_mk D sc_is_relation (fun _ _ _ _ _ _ us hl => match us, hl with | [_], _ => rfl) (fun vs H Q E h => ?_) (fun f cdv A outer s H vs Q E hr hG h => ?_)
  · obtain ⟨v, d, rfl, _⟩ := h
    rfl
  · obtain ⟨v, d, rfl, hv, hok, q⟩ := h
    refine ⟨_, (pss_one (ps_ret (pe_and (pe_callB call_isi (by rfl) TI.isinstance (by decide +kernel) (pa_cons (pv 0) (pa_cons (pe_bltn (v := .ty "str") (by rfl) TI.str (by decide +kernel) rfl) pa_nil))) (pe_one (pe_cmpR opIn (pv 0) (pe_glob (v := .ref _) rfl TI.g_RELATIONS rfl) rfl))))), ?_⟩
    refine ⟨_, rfl, v, .ty "str", _, _, _, rfl, .ty _, hv.ty, kit_ty (kit_str d), _, rfl, ?_⟩
    cases hs : isStrD d with
    | false =>
      refine iteF ?_
      rw [← relD_no hs]
      exact q _ (Ex.refl _)
    | true =>
      obtain ⟨z, rfl⟩ := str_of hs
      have ev := hv.str_inv
      subst ev
      refine iteT ⟨_, rfl, .inl ⟨rel, _, rfl, .inr (TI.rels H), rfl, rfl, ?_⟩⟩
      show Q (.bl (inV (.str z) [.str "eq", .str "lt", .str "gt"])) H
      rw [rel_in]
      exact q _ (Ex.refl _)
end
theorem call_isiB {X : Cx} {s : Shared} {H : Hp} {sc : Scope} {ce : Env} {fp : List Addr} : CallR (X.blk s H sc ce fp) (.builtin "isinstance") (rIsi X.K) := call_isi
theorem low_mem (c : Nat) : decide (c ∈ List.range' 97 26) = lowc c := by
  unfold lowc
  by_cases h : 97 ≤ c ∧ c ≤ 122
  · rw [decide_eq_true h.1, decide_eq_true h.2, decide_eq_true (List.mem_range'_1.mpr ⟨h.1, by omega⟩)]
    rfl
  · rw [decide_eq_false (fun z => h ⟨(List.mem_range'_1.mp z).1, by have := (List.mem_range'_1.mp z).2; omega⟩)]
    by_cases h1 : 97 ≤ c
    · rw [decide_eq_false (show ¬ c ≤ 122 from fun z => h ⟨h1, z⟩), Bool.and_false]
    · rw [decide_eq_false h1, Bool.false_and]
theorem let_S : (("abcdefghijklmnopqrstuvwxyz" : Str)) = SX.S (List.range' 97 26) := by decide +kernel
theorem let_in (c : Nat) : (!(Builtin.Str.occurrences ("abcdefghijklmnopqrstuvwxyz" : Str) ⟨#[c]⟩ 0 ("abcdefghijklmnopqrstuvwxyz" : Str).length 1).isEmpty) = lowc c := by
  rw [let_S, ← low_mem]
  exact StrLaws.found_one _ c
theorem emp_snoc {α : Type} (ys : List α) (y : α) : (ys ++ [y]).isEmpty = false := by cases ys <;> rfl
/-- what the law's own look says of an atom (L = 1), of a pattern (L = 0) -/
def lookD (L : Int) (d : PyData) : Bool := if L = 1 then atomD d else patD d
theorem lookD_no {L : Int} {d : PyData} (h : isTupD d = false) : lookD L d = false := by
  unfold lookD
  rw [atomD_no h, patD_no h]
  split <;> rfl
theorem lookD_len {L : Int} {ds : List PyData} (h : ds.length ≠ 3) : lookD L (.tuple ds) = false := by
  unfold lookD
  rw [atomD_len h, patD_len h]
  split <;> rfl
theorem rel_str {d : PyData} (h : isStrD d = false) : (blankD d || relD d) = false := by rw [blankD_no h, relD_no h]; rfl
theorem part_str {d : PyData} (h : isStrD d = false) : partD d = false := by unfold partD; rw [blankD_no h, nmD_no h]; rfl
theorem lookD_str {L : Int} {a b c : PyData} (h : [a, b, c].all isStrD = false) : lookD L (.tuple [a, b, c]) = false := by
  have h : (isStrD a && (isStrD b && (isStrD c && true))) = false := h
  rw [Bool.and_true] at h
  have e1 : atomD (.tuple [a, b, c]) = (relD a && (nmD b && nmD c)) := rfl
  have e2 : patD (.tuple [a, b, c]) = ((blankD a || relD a) && (partD b && partD c)) := rfl
  unfold lookD
  rw [e1, e2]
  cases ha : isStrD a with
  | false =>
    rw [rel_str ha, relD_no ha]
    split <;> rfl
  | true =>
    cases hb : isStrD b with
    | false =>
      rw [nmD_no hb, part_str hb, Bool.false_and, Bool.false_and, Bool.and_false, Bool.and_false]
      split <;> rfl
    | true =>
      have hc : isStrD c = false := by
        rw [ha, hb] at h
        exact h
      rw [nmD_no hc, part_str hc, Bool.and_false, Bool.and_false, Bool.and_false, Bool.and_false]
      split <;> rfl
/-- the part k is as it should be -/
def okAt (L : Int) (g : Bool) (z : Str) : Bool := g || (!decide (L = 1) && decide (z = ""))
theorem lookD_three {L : Int} (hL : L = 0 ∨ L = 1) (a b c : Str) : (okAt L (isR3 a) a && (okAt L (isNm b) b && okAt L (isNm c) c)) = lookD L (.tuple [.str a, .str b, .str c]) := by
  unfold lookD okAt
  rcases hL with rfl | rfl
  · rw [if_neg (by decide)]
    show ((isR3 a || decide (a = "")) && ((isNm b || decide (b = "")) && (isNm c || decide (c = "")))) = ((decide (a = "") || isR3 a) && ((decide (b = "") || isNm b) && (decide (c = "") || isNm c)))
    rw [Bool.or_comm (isR3 a), Bool.or_comm (isNm b), Bool.or_comm (isNm c)]
  · rw [if_pos rfl]
    show ((isR3 a || false) && ((isNm b || false) && (isNm c || false))) = (isR3 a && (isNm b && isNm c))
    rw [Bool.or_false, Bool.or_false, Bool.or_false]
theorem str_eq0 (z : Str) : (!decide (V.str z = V.str "")) = !decide (z = "") := by
  by_cases h : z = ""
  · rw [h]
    simp
  · rw [decide_eq_false h, decide_eq_false (fun e => h (V.str.inj e))]
theorem int_one (L : Int) : decide (V.int L = V.int 1) = decide (L = 1) := by
  by_cases h : L = 1
  · rw [h]
    simp
  · rw [decide_eq_false h, decide_eq_false (fun e => h (V.int.inj e))]
abbrev s_l_is_name : Stmt := top 18
theorem sc_l_is_name : FnScope ["_law_thing", "_law_sign"] ["_law_thing"] (defScope s_l_is_name) := ⟨rfl, rfl, rfl, by decide +kernel, rfl, by decide +kernel, by decide +kernel⟩
section
variable {P : Program} {w : World} {K : PySem.W.Frag} {mg : Str → Option Value} {base : Heap} {rel : Addr}
theorem ok_l_is_name (T : Txt0 mg) (TI : TxtI K mg rel) (D : Df K mg "_law_is_name" s_l_is_name) : CalG P w K mg base 1 "_law_is_name" (spIs nmD) := by
  refine cal_mk D sc_l_is_name (fun _ _ _ _ _ _ us hl => match us, hl with | [_], _ => rfl) (fun vs H Q E h => ?_) (fun f cdv A outer s H vs Q E hr hG h => ?_)
  · obtain ⟨v, d, rfl, _⟩ := h
    rfl
  · obtain ⟨v, d, rfl, hv, hok, q⟩ := h
    refine ⟨_, (pss_cons (ps_if (PW.pt (pw_or (pt_not (pt_val (pe_callB call_isi (by rfl) TI.isinstance (by decide +kernel) (pa_cons (pv 0) (pa_cons (pe_bltn (v := .ty "str") (by rfl) TI.str (by decide +kernel) rfl) pa_nil))))) (pw_or1 (pt_not (pt_chain opLt opLt pe_int (pe_callB callLen (by rfl) T.len PySem.boot_len (pa_cons (pv 0) pa_nil)) pe_int))))) (pss_one (ps_ret pe_bl)) pss_nil)
      (pss_one (ps_ret (pe_cmpR (op_eq0 hr) (pe_lcO (pe_lc (own := [("_law_sign", 1)]) rfl sc_l_is_name.nd (piAny (pv 0)) (blkOk_by (own := [("_law_sign", 1)]) (N := ["_law_thing", "_law_sign"]) (sc := defScope s_l_is_name) (by first | decide +kernel | kernel_rfl)) (fun _ _ _ _ _ => pg_name (i := 1) sc_l_is_name.nd rfl (Or.inl rfl)) (fun _ _ _ _ _ => pts_one (pt_cmpR opNotInB (pv 1) pe_str rfl)) (fun _ _ _ _ _ => pv 1))) (pe_lst pa_nil) (nomark _))))), ?_⟩
    refine ⟨_, rfl, v, .ty "str", _, _, _, rfl, .ty _, hv.ty, kit_ty (kit_str d), _, rfl, ?_⟩
    cases hs : isStrD d with
    | false =>
      refine iteT ?_
      rw [← nmD_no hs]
      exact q _ (Ex.refl _)
    | true =>
      obtain ⟨z, rfl⟩ := str_of hs
      have ev := hv.str_inv
      subst ev
      have hw : 10 * z.length + 5 ≤ 16000000 := hok.2.2
      have ez : nmD (.str z) = (decide (1 ≤ z.length) && decide (z.length ≤ 8) && (TL.tl z).all lowc) := rfl
      refine iteF ⟨_, rfl, .inr ⟨z, rfl, by show z.length ≤ 16777216; omega, ?_⟩⟩
      refine ⟨_, _, rfl, rfl, _, rfl, ite2 (fun h1 => ⟨_, _, rfl, rfl, _, rfl, ite2 (fun h2 => ?_) (fun h2 => ?_)⟩) (fun h1 => ⟨_, rfl, ifT (by rfl) ?_⟩)⟩
      · have e : nmD (.str z) = false := by
          have z2 : ¬ ((z.length : Int) < (9 : Int)) := by simpa using h2
          rw [ez, decide_eq_false (show ¬ z.length ≤ 8 by omega), Bool.and_false, Bool.false_and]
        rw [← e]
        exact q _ (Ex.refl _)
      · have z1 : ((0 : Int) < (z.length : Int)) := by simpa using h1
        have z2 : ((z.length : Int) < (9 : Int)) := by simpa using h2
        refine .inr (.inr ⟨_, rfl, z, rfl, ?_⟩)
        refine lcG walk_str (by have z2 : z.cps.size = z.length := rfl; omega) trivial (fun _ _ _ _ => trivial) (fun i H x H' h => by rw [h.1]; exact Ex.refl _) (fun i ys _ => ys.isEmpty = ((TL.tl z).take i).all lowc) (fun _ _ _ _ _ h => h) rfl ?_ ?_
        · rintro i x H1 H2 ys hi e ⟨rfl, c, hc, rfl⟩ hy N N0 kN kN0
          have hc2 : (TL.tl z)[i]? = some c := by
            show z.cps.toList[i]? = some c
            rw [Array.getElem?_toList]
            exact hc
          have step : ((TL.tl z).take (i + 1)).all lowc = (((TL.tl z).take i).all lowc && lowc c) := by
            rw [tk hc2, List.all_append]
            show (_ && (_ && true)) = _
            rw [Bool.and_true]
          refine ⟨rfl, ?_⟩
          refine ⟨_, rfl, .inr ⟨_, _, rfl, rfl, _, congrArg (fun b => V.bl (!b)) (let_in c), ?_⟩⟩
          cases hlc : lowc c with
          | true =>
            refine iteF (kN0 _ (Ex.refl _) ?_)
            rw [step, hlc, Bool.and_true]
            exact hy
          | false =>
            refine iteT ⟨_, rfl, kN _ _ (Ex.refl _) ?_⟩
            rw [step, hlc, Bool.and_false, emp_snoc]
        · rintro l H1 ys hl e1 h1' _ hy
          refine ⟨by show 0 ≤ sizeLine; decide, fun n1 hn1 => ?_⟩
          generalize hq2 : upd H1 n1 _ = H2
          obtain ⟨e2, h2'⟩ := gen1 hq2 hn1
          refine ⟨l, n1, ys, rfl, rfl, sq_of (e2 _ _ h1'), sq_of h2', ?_⟩
          have e : ys.isEmpty = nmD (.str z) := by
            rw [hy, ez, show z.cps.size = (TL.tl z).length from by simp, List.take_length, decide_eq_true (show 1 ≤ z.length by omega), decide_eq_true (show z.length ≤ 8 by omega)]
            rfl
          rw [e]
          exact q _ (e1.trans e2)
      · have e : nmD (.str z) = false := by
          have z1 : ¬ ((0 : Int) < (z.length : Int)) := by simpa using h1
          rw [ez, decide_eq_false (show ¬ 1 ≤ z.length by omega), Bool.false_and, Bool.false_and]
        rw [← e]
        exact q _ (Ex.refl _)
end
abbrev s_l_odd : Stmt := top 17
theorem sc_l_odd : FnScope ["_law_bag_here", "_law_some_here"] ["_law_bag_here"] (defScope s_l_odd) := ⟨rfl, rfl, rfl, by decide +kernel, rfl, by decide +kernel, by decide +kernel⟩
def oddL : List PyData := [.none, .int 5, .str "a", .str "", .tuple [], .list [], .dict [], .tuple [.str "eq"], .bool true, .int (10 ^ (39 : Int).toNat), .list [.none], .tuple [.str "name", .str "a"], .str "eq", .int (-1), .tuple [.int 0, .int 1]] ++ [.str "a1", .str "aB", .str "a_", .str "a{", .str "a\n"] ++ [.dict [(.str "a", .int 1)], .str "ab b", .str "abcdefghi", .tuple [.str "last"], .tuple [.str "", .str "", .str ""]]
theorem odd_tab : (oddL.all fun d => gD d && (decide (d.depth ≤ 1) && decide (wd d ≤ 4000))) = true := by decide +kernel
theorem odd_ok {d : PyData} (h : d ∈ oddL) : okD 1 4000 d := by
  have z := List.all_eq_true.mp odd_tab d h
  simp only [Bool.and_eq_true, decide_eq_true_eq] at z
  exact ⟨z.1, z.2.1, z.2.2⟩
theorem odd_tab2 : (oddL.all fun d => d.canLay0 || (match d with | .dict _ => true | _ => false)) = true := by decide +kernel
theorem odd_or {d : PyData} (h : d ∈ oddL) : d.canLay0 = true ∨ ∃ ks, d = .dict ks := by
  have z := List.all_eq_true.mp odd_tab2 d h
  rw [Bool.or_eq_true] at z
  rcases z with z | z
  · exact .inl z
  · cases d with
    | dict ks => exact .inr ⟨ks, rfl⟩
    | _ => cases z
theorem dict_gen {H H1 H2 : Hp} {d : Addr} {o2 : HO} (hq : upd H1 d o2 = H2) (e : Ex H H1) (hd : H d = none) : Ex H H2 ∧ H2 d = some o2 := by
  subst hq
  exact ⟨Ex.mut e hd, upd_same⟩
/-- a list or a tuple -/
def ConAt (A : Addr → Prop) (H : Hp) (v : V) (d : PyData) (p : Addr) (xs : List V) (ds : List PyData) : Prop := v = .ref p ∧ ((H p = some (.lst xs) ∧ d = .list ds) ∨ (H p = some (.tup xs) ∧ d = .tuple ds)) ∧ DaAA A H xs ds
theorem con_of {A : Addr → Prop} {H : Hp} {v : V} {d : PyData} (h : DaA A H v d) (hc : (isTupD d || isLstD d) = true) : ∃ p xs ds, ConAt A H v d p xs ds := by
  cases h with
  | lst h0 h1 h2 => exact ⟨_, _, _, rfl, .inl ⟨h1, rfl⟩, h2⟩
  | tup h0 h1 h2 => exact ⟨_, _, _, rfl, .inr ⟨h1, rfl⟩, h2⟩
  | non => cases hc
  | bl b => cases hc
  | int i => cases hc
  | str z => cases hc
  | dct h0 h1 h2 => cases hc
section
variable {A : Addr → Prop} {K : PySem.W.Frag} {H : Hp} {v : V} {d : PyData} {p : Addr} {xs : List V} {ds : List PyData}
theorem ConAt.sq (h : ConAt A H v d p xs ds) : SqL K H p xs ∨ SqT K H p xs := by
  rcases h.2.1 with h | h
  · exact .inl (sq_of h.1)
  · exact .inr (st_of h.1)
theorem ConAt.ex {H' : Hp} (e : Ex H H') (h : ConAt A H v d p xs ds) : ConAt A H' v d p xs ds := by
  obtain ⟨h1, h2, h3⟩ := h
  refine ⟨h1, ?_, DaAA.move (fun a o _ q => e a o q) (fun _ q => q) ds h3⟩
  rcases h2 with h2 | h2
  · exact .inl ⟨e _ _ h2.1, h2.2⟩
  · exact .inr ⟨e _ _ h2.1, h2.2⟩
theorem ConAt.lst (h : ConAt A H v d p xs ds) : TyX K H v (.type (tyD d)) := by
  obtain ⟨rfl, h2, _⟩ := h
  rcases h2 with ⟨h2, rfl⟩ | ⟨h2, rfl⟩
  · exact .base (.lst h2)
  · exact .base (.tup h2)
theorem ConAt.ok (h : ConAt A H v d p xs ds) {n W : Nat} (k : okD n W d) : gDs ds = true ∧ PyData.depthAll ds + 1 ≤ n ∧ wds ds + 3 ≤ W := by
  rcases h.2.1 with ⟨_, rfl⟩ | ⟨_, rfl⟩
  · exact k
  · exact k
end
/-- sizes of a list's items -/
def okDs (n W : Nat) (ds : List PyData) : Prop := gDs ds = true ∧ PyData.depthAll ds ≤ n ∧ wds ds ≤ W
theorem okDs.list {n W : Nat} {ds : List PyData} (h : okDs n W ds) : okD (n + 1) (W + 3) (.list ds) := ⟨h.1, Nat.succ_le_succ h.2.1, Nat.add_le_add_right h.2.2 3⟩
theorem okDs.tup {n W : Nat} {ds : List PyData} (h : okDs n W ds) : okD (n + 1) (W + 3) (.tuple ds) := ⟨h.1, Nat.succ_le_succ h.2.1, Nat.add_le_add_right h.2.2 3⟩
theorem okDs.mono {n W n' W' : Nat} {ds : List PyData} (h : okDs n W ds) (h1 : n ≤ n') (h2 : W ≤ W') : okDs n' W' ds := ⟨h.1, Nat.le_trans h.2.1 h1, Nat.le_trans h.2.2 h2⟩
theorem wds_set : ∀ {ds : List PyData} {i : Nat} {x y : PyData}, ds[i]? = some x → wds (ds.set i y) + wd x = wds ds + wd y
  | _ :: xs, 0, _, y, h => by
    cases h
    show wd y + 2 + wds xs + wd _ = wd _ + 2 + wds xs + wd y
    omega
  | z :: xs, i + 1, x, y, h => by
    have q := wds_set (ds := xs) (i := i) (y := y) h
    show wd z + 2 + wds (xs.set i y) + wd x = wd z + 2 + wds xs + wd y
    omega
theorem okDs.set {n W V : Nat} {ds : List PyData} {i : Nat} {x y : PyData} (h : okDs n W ds) (hx : ds[i]? = some x) (hy : gD y = true) (hd : y.depth ≤ n) (hw : W + wd y ≤ V + wd x) : okDs n V (ds.set i y) := by
  obtain ⟨h1, h2, h3⟩ := h
  refine ⟨gDs_iff.mpr fun d hm => ?_, depthAll_le.mpr fun d hm => ?_, ?_⟩
  · rcases List.mem_or_eq_of_mem_set hm with q | q
    · exact gDs_iff.mp h1 d q
    · rw [q]; exact hy
  · rcases List.mem_or_eq_of_mem_set hm with q | q
    · exact depthAll_le.mp h2 d q
    · rw [q]; exact hd
  · have := wds_set (y := y) hx
    omega
theorem erase_eq {α : Type} : ∀ (l : List α) (i : Nat), l.eraseIdx i = l.take i ++ l.drop (i + 1)
  | [], _ => by simp
  | _ :: _, 0 => rfl
  | x :: xs, i + 1 => by
    show x :: xs.eraseIdx i = x :: (xs.take i ++ xs.drop (i + 1))
    rw [erase_eq xs i]
theorem okDs.sub {n W : Nat} {ds es : List PyData} (h : okDs n W ds) (hm : ∀ d ∈ es, d ∈ ds) (hw : wds es ≤ W) : okDs n W es :=
  ⟨gDs_iff.mpr fun d hd => gDs_iff.mp h.1 d (hm d hd), depthAll_le.mpr fun d hd => depthAll_le.mp h.2.1 d (hm d hd), hw⟩
theorem kit_tl {K : PySem.W.Frag} (d : PyData) : PySem.W.kitAny K (.type (tyD d)) [.type "tuple", .type "list"] = some (isTupD d || isLstD d) := by
  refine kitAny_cons (kit_ty (kit_tuple d)) (fun e => ?_) (fun e => by rw [e]; rfl)
  rw [e, Bool.false_or]
  exact kitAny_cons (kit_ty (kit_list d)) (fun e => by rw [e]; exact kitAny_nil) (fun e => by rw [e])
section
variable {P : Program} {w : World} {K : PySem.W.Frag} {mg : Str → Option Value} {base : Heap} {rel : Addr}
def spOdd : Sp := fun vs H Q _ => ∃ (b : Addr), vs = [.ref b] ∧ BagAt H b ∧ ∀ (H' : Hp) (v : V) (d : PyData), Ex H H' → DaA (fun a => H a = none) H' v d → okD 1 4000 d → (d.canLay0 = true ∨ ∃ ks, d = .dict ks) → Q v H'
theorem ok_odd (T : Txt0 mg) (D : Df K mg "_law_odd" s_l_odd) (c_l_some : CalG P w K mg base 2 "_law_some" (spSome K)) : CalG P w K mg base 3 "_law_odd" spOdd := by
  refine cal_mk D sc_l_odd (fun _ _ _ _ _ _ us hl => match us, hl with | [_], _ => rfl) (fun vs H Q E h => ?_) (fun f cdv A outer s H vs Q E hr hG h => ?_)
  · obtain ⟨b, rfl, _⟩ := h
    rfl
  · obtain ⟨b, rfl, hb, q⟩ := h
    refine ⟨_, (pss_cons (ps_set (i := 1) sc_l_odd.nd rfl (Or.inl rfl) (pe_lst (pa_cons pe_non (pa_cons pe_int (pa_cons pe_str (pa_cons pe_str (pa_cons (pe_tup pa_nil) (pa_cons (pe_lst pa_nil) (pa_cons pe_dnewK (pa_cons (pe_tup (pa_cons pe_str pa_nil)) (pa_cons pe_bl (pa_cons (pe_op op_pow pe_int pe_int) (pa_cons (pe_lst (pa_cons pe_non pa_nil)) (pa_cons (pe_tup (pa_cons pe_str (pa_cons pe_str pa_nil))) (pa_cons pe_str (pa_cons (pe_un un_neg pe_int) (pa_cons (pe_tup (pa_cons pe_int (pa_cons pe_int pa_nil))) pa_nil)))))))))))))))))
      (pss_cons (ps_set (i := 1) sc_l_odd.nd rfl (Or.inl rfl) (pe_op opAdd (pv 1) (pe_lst (pa_cons pe_str (pa_cons pe_str (pa_cons pe_str (pa_cons pe_str (pa_cons pe_str pa_nil))))))))
      (pss_one (ps_ret (pe_cG c_l_some hr hG (by decide) rfl (pa_cons (pv 0) (pa_cons (pe_op opAdd (pv 1) (pe_lst (pa_cons (pe_disp (pps_cons pe_str pe_int pps_nil) (by rfl) (by rfl) (fun z => by cases z) (by decide)) (pa_cons pe_str (pa_cons pe_str (pa_cons (pe_tup (pa_cons pe_str pa_nil)) (pa_cons (pe_tup (pa_cons pe_str (pa_cons pe_str (pa_cons pe_str pa_nil)))) pa_nil))))))) pa_nil))))))), ?_⟩
    refine ⟨by show 0 ≤ sizeLine; decide, fun t1 n1 => ?_⟩
    generalize hq1 : upd H t1 _ = H1
    obtain ⟨e1, h1⟩ := gen1 hq1 n1
    refine ⟨by show 0 ≤ sizeLine; decide, fun l1 n2 => ?_⟩
    generalize hq2 : upd H1 l1 _ = H2
    obtain ⟨e2, h2⟩ := gen1 hq2 n2
    refine fun d1 n3 => ?_
    generalize hq3 : upd H2 d1 _ = H3
    obtain ⟨e3, h3⟩ := gen1 hq3 n3
    obtain ⟨H4, hq4⟩ : ∃ H4, H3 = H4 := ⟨_, rfl⟩
    subst hq4
    have e4 := e3
    have h4 := h3
    refine ⟨by show 1 ≤ sizeLine; decide, fun t2 n5 => ?_⟩
    generalize hq5 : upd H3 t2 _ = H5
    obtain ⟨e5, h5⟩ := gen1 hq5 n5
    refine ⟨10, 39, rfl, rfl, ⟨by decide, by decide, by decide⟩, ?_⟩
    refine ⟨by show 1 ≤ sizeLine; decide, fun l2 n6 => ?_⟩
    generalize hq6 : upd H5 l2 _ = H6
    obtain ⟨e6, h6⟩ := gen1 hq6 n6
    refine ⟨by show 2 ≤ sizeLine; decide, fun t3 n7 => ?_⟩
    generalize hq7 : upd H6 t3 _ = H7
    obtain ⟨e7, h7⟩ := gen1 hq7 n7
    refine ⟨1, rfl, ?_⟩
    refine ⟨by show 2 ≤ sizeLine; decide, fun t4 n8 => ?_⟩
    generalize hq8 : upd H7 t4 _ = H8
    obtain ⟨e8, h8⟩ := gen1 hq8 n8
    refine ⟨by show 15 ≤ sizeLine; decide, fun l3 n9 => ?_⟩
    generalize hq9 : upd H8 l3 _ = H9
    obtain ⟨e9, h9⟩ := gen1 hq9 n9
    refine ⟨_, rfl, ?_⟩
    refine ⟨by show 5 ≤ sizeLine; decide, fun l4 n10 => ?_⟩
    generalize hq10 : upd H9 l4 _ = H10
    obtain ⟨e10, h10⟩ := gen1 hq10 n10
    refine .inr (.inr (.inl ⟨l3, l4, _, _, rfl, rfl, e10 _ _ h9, h10, by show 15 + 5 ≤ sizeLine; decide, fun l5 n11 => ?_⟩))
    generalize hq11 : upd H10 l5 _ = H11
    obtain ⟨e11, h11⟩ := gen1 hq11 n11
    refine ⟨_, rfl, _, rfl, ?_⟩
    refine fun d2 n12 => ?_
    generalize hq12 : upd H11 d2 _ = H12
    obtain ⟨e12, h12⟩ := gen1 hq12 n12
    refine ⟨h12, [(Sum.inr "a", .int 1)], rfl, by show 1 ≤ 15; decide, ?_⟩
    generalize hq13 : upd H12 d2 _ = H13
    obtain ⟨e13, h13⟩ := dict_gen hq13 e12 n12
    refine ⟨by show 1 ≤ sizeLine; decide, fun t5 n14 => ?_⟩
    generalize hq14 : upd H13 t5 _ = H14
    obtain ⟨e14, h14⟩ := gen1 hq14 n14
    refine ⟨by show 3 ≤ sizeLine; decide, fun t6 n15 => ?_⟩
    generalize hq15 : upd H14 t6 _ = H15
    obtain ⟨e15, h15⟩ := gen1 hq15 n15
    refine ⟨by show 5 ≤ sizeLine; decide, fun l6 n16 => ?_⟩
    generalize hq16 : upd H15 l6 _ = H16
    obtain ⟨e16, h16⟩ := gen1 hq16 n16
    have e1116 := ((e13.trans e14).trans e15).trans e16
    refine .inr (.inr (.inl ⟨l5, l6, _, _, rfl, rfl, e1116 _ _ h11, h16, by show 20 + 5 ≤ sizeLine; decide, fun l7 n17 => ?_⟩))
    generalize hq17 : upd H16 l7 _ = H17
    obtain ⟨e17, h17⟩ := gen1 hq17 n17
    have f15 := e16.trans e17
    have f14 := e15.trans f15
    have f13 := e14.trans f14
    have f8 := (((e9.trans e10).trans e11).trans e13).trans f13
    have f7 := e8.trans f8
    have f6 := e7.trans f7
    have f5 := e6.trans f6
    have f4 := e5.trans f5
    have f2 := e4.trans f4
    have f1 := e2.trans f2
    have f0 := e1.trans f1
    have b13 := (((e4.trans e5).trans e6).trans e7).trans e8
    have m1 : H t1 = none := n1
    have m2 : H l1 = none := none_of e1 n2
    have m3 : H d1 = none := none_of (e1.trans e2) n3
    have m5 : H t2 = none := none_of ((e1.trans e2).trans e4) n5
    have m6 : H l2 = none := none_of (((e1.trans e2).trans e4).trans e5) n6
    have m7 : H t3 = none := none_of ((((e1.trans e2).trans e4).trans e5).trans e6) n7
    have m8 : H t4 = none := none_of (((((e1.trans e2).trans e4).trans e5).trans e6).trans e7) n8
    have u11 := ((((e1.trans e2).trans b13).trans e9).trans e10).trans e11
    have m12 : H d2 = none := none_of u11 n12
    have m14 : H t5 = none := none_of (u11.trans e13) n14
    have m15 : H t6 = none := none_of ((u11.trans e13).trans e14) n15
    have all : DaAA (fun a => H a = none) H17 _ oddL := DaAA.app (DaAA.app
      (.cons .non (.cons (.int 5) (.cons (.str "a") (.cons (.str "") (.cons (.tup m1 (f1 _ _ h1) .nil) (.cons (.lst m2 (f2 _ _ h2) .nil) (.cons (.dct (kv := []) m3 (f4 _ _ h3) rfl) (.cons (.tup m5 (f5 _ _ h5) (.cons (.str "eq") .nil)) (.cons (.bl true) (.cons (.int _)
        (.cons (.lst m6 (f6 _ _ h6) (.cons .non .nil)) (.cons (.tup m7 (f7 _ _ h7) (.cons (.str "name") (.cons (.str "a") .nil))) (.cons (.str "eq") (.cons (.int (-1)) (.cons (.tup m8 (f8 _ _ h8) (.cons (.int 0) (.cons (.int 1) .nil))) .nil)))))))))))))))
      (.cons (.str "a1") (.cons (.str "aB") (.cons (.str "a_") (.cons (.str "a{") (.cons (.str "a\n") .nil))))))
      (.cons (.dct (kv := [("a", 1)]) m12 (f13 _ _ h13) rfl) (.cons (.str "ab b") (.cons (.str "abcdefghi") (.cons (.tup m14 (f14 _ _ h14) (.cons (.str "last") .nil)) (.cons (.tup m15 (f15 _ _ h15) (.cons (.str "") (.cons (.str "") (.cons (.str "") .nil)))) .nil)))))
    refine ⟨b, l7, _, rfl, hb.ex f0, .inl (sq_of h17), (fun e => absurd (congrArg List.length e) (by show ¬ 25 = 0; decide)), by show 25 ≤ 100000; decide, fun H18 i x e18 hx => ?_⟩
    obtain ⟨d, hd, hda⟩ := all.at hx
    exact q _ _ d (f0.trans e18) (DaA.move (fun a o _ z => e18 a o z) (fun _ z => z) d hda) (odd_ok (List.mem_of_getElem? hd)) (odd_or (List.mem_of_getElem? hd))
end
end Own

namespace Own
open PySem PySem.Spec PyProof.Rows L2 Evl
/-! ### names by their numbers -/
def numL (n : Nat) : List Nat := if h : n = 0 then [] else numL ((n - 1) / 26) ++ [97 + (n - 1) % 26]
termination_by n
decreasing_by omega
def nmN (k : Nat) : Str := ⟨(numL (k + 1)).toArray⟩
def rkF (l : List Nat) : Nat := l.foldl (fun a c => a * 26 + (c - 97) + 1) 0
def rkS (z : Str) : Nat := rkF (TL.tl z) - 1
theorem numL_0 : numL 0 = [] := by rw [numL]; rfl
theorem numL_succ (n : Nat) : numL (n + 1) = numL (n / 26) ++ [97 + n % 26] := by
  rw [numL, dif_neg (Nat.succ_ne_zero n), Nat.add_sub_cancel]
theorem rk_snoc (l : List Nat) (c : Nat) : rkF (l ++ [c]) = rkF l * 26 + (c - 97) + 1 := by
  unfold rkF
  rw [List.foldl_append]
  rfl
theorem rk_num (n : Nat) : rkF (numL n) = n := by
  induction n using Nat.strongRecOn with
  | ind n ih =>
    cases n with
    | zero => rw [numL_0]; rfl
    | succ n =>
      rw [numL_succ, rk_snoc, ih _ (by omega)]
      omega
theorem snoc_cases (l : List Nat) : l = [] ∨ ∃ r c, l = r ++ [c] := by
  rcases List.eq_nil_or_concat l with h | ⟨r, c, h⟩
  · exact .inl h
  · exact .inr ⟨r, c, by rw [h, List.concat_eq_append]⟩
theorem num_rk : ∀ (n : Nat) (l : List Nat), l.length = n → l.all lowc = true → numL (rkF l) = l
  | n, l, hn, h => by
    rcases snoc_cases l with rfl | ⟨r, c, rfl⟩
    · exact numL_0
    · rw [List.all_append, Bool.and_eq_true] at h
      have hc : lowc c = true := by simpa using h.2
      unfold lowc at hc
      rw [Bool.and_eq_true, decide_eq_true_eq, decide_eq_true_eq] at hc
      rw [List.length_append] at hn
      have hn : r.length + 1 = n := hn
      have ih := num_rk (n - 1) r (by omega) h.1
      rw [rk_snoc, numL_succ, show (rkF r * 26 + (c - 97)) / 26 = rkF r from by omega, show (rkF r * 26 + (c - 97)) % 26 = c - 97 from by omega, ih, show 97 + (c - 97) = c from by omega]
termination_by n => n
decreasing_by
  rw [List.length_append] at *
  simp at *
  omega
theorem num_low (n : Nat) : (numL n).all lowc = true := by
  induction n using Nat.strongRecOn with
  | ind n ih =>
    cases n with
    | zero => rw [numL_0]; rfl
    | succ n =>
      rw [numL_succ, List.all_append, ih _ (by omega)]
      have : lowc (97 + n % 26) = true := by
        unfold lowc
        rw [Bool.and_eq_true, decide_eq_true_eq, decide_eq_true_eq]
        omega
      simp [this]
theorem num_len (m : Nat) : ∀ (j n : Nat), n < 26 ^ j → (numL n).length ≤ j
  | 0, n, h => by
    have : n = 0 := by
      rw [Nat.pow_zero] at h
      omega
    rw [this, numL_0]
    exact Nat.le_refl _
  | j + 1, 0, h => by rw [numL_0]; exact Nat.zero_le _
  | j + 1, n + 1, h => by
    rw [numL_succ, List.length_append]
    have z := num_len m j (n / 26) (by
      rw [Nat.pow_succ] at h
      exact Nat.div_lt_of_lt_mul (by omega))
    show _ + 1 ≤ j + 1
    omega
theorem tl_mk (l : List Nat) : TL.tl (⟨l.toArray⟩ : Str) = l := by simp [TL.tl]
theorem nmN_nm {k : Nat} (h : k ≤ 10000) : isNm (nmN k) = true := by
  have z := num_len 0 3 (k + 1) (Nat.lt_of_le_of_lt (show k + 1 ≤ 10001 by omega) (by decide))
  have h1 : 1 ≤ (numL (k + 1)).length := by
    rw [numL_succ, List.length_append]
    show 1 ≤ _ + 1
    omega
  have hl : (nmN k).length = (numL (k + 1)).length := by show (numL (k + 1)).toArray.size = _; simp
  unfold isNm
  rw [hl, decide_eq_true h1, decide_eq_true (show (numL (k + 1)).length ≤ 8 by omega)]
  show (true && true && (TL.tl (nmN k)).all lowc) = true
  rw [show TL.tl (nmN k) = numL (k + 1) from tl_mk _, num_low]
  rfl
theorem rk_nmN (k : Nat) : rkS (nmN k) = k := by
  unfold rkS
  rw [show TL.tl (nmN k) = numL (k + 1) from tl_mk _, rk_num]
  rfl
theorem rkF_pos {l : List Nat} (h : l ≠ []) : 1 ≤ rkF l := by
  rcases snoc_cases l with rfl | ⟨r, c, rfl⟩
  · exact absurd rfl h
  · rw [rk_snoc]
    omega
theorem nm_parts {z : Str} (h : isNm z = true) : TL.tl z ≠ [] ∧ (TL.tl z).all lowc = true := by
  unfold isNm at h
  rw [Bool.and_eq_true, Bool.and_eq_true, decide_eq_true_eq] at h
  refine ⟨fun e => ?_, h.2⟩
  have : z.length = (TL.tl z).length := by show z.cps.size = z.cps.toList.length; simp
  rw [this, e] at h
  exact absurd h.1.1 (by decide)
theorem nmN_rk {z : Str} (h : isNm z = true) : nmN (rkS z) = z := by
  obtain ⟨h1, h2⟩ := nm_parts h
  have z1 := rkF_pos h1
  unfold nmN rkS
  rw [show rkF (TL.tl z) - 1 + 1 = rkF (TL.tl z) from by omega, num_rk _ _ rfl h2]
theorem nodup_leG {α : Type} [DecidableEq α] : ∀ (ys zs : List α), ys.Nodup → (∀ z, z ∈ ys → z ∈ zs) → ys.length ≤ zs.length
  | [], _, _, _ => Nat.zero_le _
  | y :: r, zs, nd, sub => by
    obtain ⟨n1, n2⟩ := List.nodup_cons.mp nd
    have hy := sub y List.mem_cons_self
    have q := nodup_leG r (zs.erase y) n2 fun z hz => (List.mem_erase_of_ne (fun e : z = y => n1 (by rw [← e]; exact hz))).mpr (sub z (List.mem_cons_of_mem _ hz))
    rw [List.length_erase_of_mem hy] at q
    have z := List.length_pos_of_mem hy
    rw [List.length_cons]
    omega
theorem nodup_mapG {α β : Type} (f : α → β) : ∀ {xs : List α}, xs.Nodup → (∀ x ∈ xs, ∀ y ∈ xs, f x = f y → x = y) → (xs.map f).Nodup
  | [], _, _ => List.nodup_nil
  | x :: xs, h, inj => by
    obtain ⟨n1, n2⟩ := List.nodup_cons.mp h
    rw [List.map_cons]
    refine List.nodup_cons.mpr ⟨fun e => ?_, nodup_mapG f n2 fun a ha b hb => inj a (List.mem_cons_of_mem _ ha) b (List.mem_cons_of_mem _ hb)⟩
    obtain ⟨y, hy, e2⟩ := List.mem_map.mp e
    have := inj x List.mem_cons_self y (List.mem_cons_of_mem _ hy) e2.symm
    rw [this] at n1
    exact n1 hy
theorem count_names {ys : List Str} (nd : ys.Nodup) {n : Nat} (hk : ∀ k, k < n → nmN k ∈ ys) (hn : n ≤ 10000) : (ys.filter fun z => isNm z && decide (rkS z < n)).length = n := by
  refine Nat.le_antisymm ?_ ?_
  · have h1 : ((ys.filter fun z => isNm z && decide (rkS z < n)).map rkS).Nodup := nodup_mapG rkS (nd.filter _) fun x hx y hy e => by
      have hx := (List.mem_filter.mp hx).2
      have hy := (List.mem_filter.mp hy).2
      rw [Bool.and_eq_true] at hx hy
      rw [← nmN_rk hx.1, ← nmN_rk hy.1, e]
    have z := nodup_leG _ (List.range n) h1 fun r hr => by
      obtain ⟨x, hx, rfl⟩ := List.mem_map.mp hr
      have hx := (List.mem_filter.mp hx).2
      rw [Bool.and_eq_true, decide_eq_true_eq] at hx
      exact List.mem_range.mpr hx.2
    rw [List.length_map, List.length_range] at z
    exact z
  · have h1 : ((List.range n).map nmN).Nodup := nodup_mapG nmN List.nodup_range fun x _ y _ e => by rw [← rk_nmN x, ← rk_nmN y, e]
    have z := nodup_leG _ (ys.filter fun z => isNm z && decide (rkS z < n)) h1 fun r hr => by
      obtain ⟨k, hk2, rfl⟩ := List.mem_map.mp hr
      have hk2 := List.mem_range.mp hk2
      refine List.mem_filter.mpr ⟨hk k hk2, ?_⟩
      rw [nmN_nm (by omega), rk_nmN, decide_eq_true hk2]
      rfl
    rw [List.length_map, List.length_range] at z
    exact z
/-- some number is free, and none below it -/
theorem free_num (zs : List Str) : ∀ m : Nat, (∀ k, k < m → nmN k ∈ zs) → m ≤ zs.length := fun m h => by
  have h1 : ((List.range m).map nmN).Nodup := nodup_mapG nmN List.nodup_range fun x _ y _ e => by rw [← rk_nmN x, ← rk_nmN y, e]
  have z := nodup_leG _ zs h1 fun r hr => by
    obtain ⟨k, hk, rfl⟩ := List.mem_map.mp hr
    exact h k (List.mem_range.mp hk)
  rw [List.length_map, List.length_range] at z
  exact z
/-- the first free number -/
structure FrN (zs : List Str) (n : Nat) : Prop where
  lo : ∀ k, k < n → nmN k ∈ zs
  no : nmN n ∉ zs
theorem FrN.le {zs : List Str} {n : Nat} (h : FrN zs n) : n ≤ zs.length := free_num zs n h.lo
theorem FrN.one {zs ys : List Str} {n m : Nat} (h : FrN zs n) (k : FrN ys m) (e : ∀ z, z ∈ zs ↔ z ∈ ys) : n = m := by
  rcases Nat.lt_trichotomy n m with q | q | q
  · exact absurd ((e _).mpr (k.lo n q)) h.no
  · exact q
  · exact absurd ((e _).mp (h.lo m q)) k.no
end Own

namespace Own
open PySem PySem.Spec PyProof.Rows L2 Evl
/-! ### list(text); dict comprehensions over anything -/
theorem vals_by : ∀ {xs : List V} {us : List Value}, xs.length = us.length → (∀ (i : Nat) x u, xs[i]? = some x → us[i]? = some u → RelV x u) → Vals xs us
  | [], [], _, _ => .nil
  | [], _ :: _, h, _ => by cases h
  | _ :: _, [], h, _ => by cases h
  | x :: xs, u :: us, h, f => .cons (f 0 x u rfl rfl) (vals_by (Nat.succ.inj h) fun i x u h1 h2 => f (i + 1) x u h1 h2)
def rListTx : List V → Hp → VK → Prop := fun vs H Q => ∃ z : Str, vs = [.str z] ∧ z.length ≤ 100000 ∧ ∀ l, H l = none → Q (.ref l) (upd H l (.lst ((TL.tl z).map fun c => .str (sgn c))))
theorem call_listTx {X : Cx} (hc : X.calm = true) : CallR X (.type "list") rListTx := by
  intro pk s τ H vs us Q I r h
  obtain ⟨z, rfl, hz, q⟩ := h
  cases r with
  | cons rx rr =>
    cases rr
    obtain ⟨t, rfl⟩ := rx
    have hz' : z.cps.size ≤ sizeLine := by
      rw [sizeLine_eq]
      have : z.length = z.cps.size := rfl
      omega
    refine call_list_str (I.ok.hd hc) z t (fun h' tk acc c' kp e hi => ?_) hz'
    have hl : ((TL.tl z).map fun c => V.str (sgn c)).length = acc.toList.length := by
      rw [List.length_map, show (TL.tl z).length = z.cps.size from Array.length_toList, Array.length_toList]
      exact hi.1.symm
    have rv : Vals ((TL.tl z).map fun c => V.str (sgn c)) acc.toList := vals_by hl fun i x u hx hu => by
      rw [Array.getElem?_toList] at hu
      obtain ⟨c, w, h1, rfl⟩ := hi.2 i u hu
      rw [List.getElem?_map] at hx
      have h2 : (TL.tl z)[i]? = some c := by
        show z.cps.toList[i]? = some c
        rw [Array.getElem?_toList]
        exact h1
      rw [h2] at hx
      cases hx
      exact ⟨w, rfl⟩
    refine ⟨.ref s.heap.objs.size, _, I.laid (t' := tk) kp (Nat.le_refl _) (show ObjOk X.prog X.w _ h' _ (.lst ((TL.tl z).map fun c => V.str (sgn c))) from ⟨?_, acc.toList, c', rv, e⟩), rfl, q _ (I.hok.fresh (Nat.le_refl _))⟩
    rw [hl, Array.length_toList, hi.1]
    exact hz'
def rListA (K : PySem.W.Frag) : List V → Hp → VK → Prop := fun xs H Q => (∃ p ys, xs = [.ref p] ∧ (SqL K H p ys ∨ SqT K H p ys) ∧ ∀ l, H l = none → Q (.ref l) (upd H l (.lst ys))) ∨ rListTx xs H Q
theorem call_listA {X : Cx} (hc : X.calm = true) : CallR X (.type "list") (rListA X.K) := CallR.or call_list_of (call_listTx hc)
/-- what is left of a dict comprehension behind its source -/
def DcRest (g : TG) (tt : TT) (tk tv : TE) (vs : List Nat) (σ : L2.St) (Q : VK) : It → Hp → Prop := fun J H1 => tDc (fun _ _ R => R J H1) g tt tk tv vs σ H1 Q
def tDcO (wi : TI) (g : TG) (tt : TT) (tk tv : TE) (vs : List Nat) : TE := fun σ H Q => wi σ H (DcRest g tt tk tv vs σ Q)
theorem pe_dcO {X : Cx} {e : Expr} {wi : TI} {g : TG} {tt : TT} {tk tv : TE} {vs : List Nat} (h : PE X e (tDc wi g tt tk tv vs)) : PE X e (tDcO wi g tt tk tv vs) := h
/-- each turn puts one key -/
theorem dcG {J : It} {n : Nat} {G : Hp → Prop} {Y : Nat → Hp → V → Hp → Prop} (w : Walk J n G Y) {g : TG} {tt : TT} {tk tv : TE} {vs : List Nat} {σ : L2.St} {H1 : Hp} {Q : VK} (hn : n ≤ 40000) (hG0 : G H1) (hGm : ∀ H H', Ex H H' → G H → G H') (hY : ∀ i H x H', Y i H x H' → Ex H H')
    (Pa : Nat → List (Key × V) → Prop) (p0 : Pa 0 [])
    (hs : ∀ i x H H' kvs, i < n → Ex H1 H → Y i H x H' → Pa i kvs → ∀ (N : Key → V → Hp → Prop) (N0 : Hp → Prop), (∀ k z H4, Ex H' H4 → Pa (i + 1) (putK kvs k z) → N k z H4) → (∀ H3, Ex H' H3 → Pa (i + 1) kvs → N0 H3) →
      g x (wipe σ vs) H' fun σ2 H2 => wipe σ2 vs = wipe σ vs ∧ tt σ2 H2 fun b H3 => if b = true then tk σ2 H3 fun y H4 => tv σ2 H4 fun z H5 => ∃ k, y = kV k ∧ N k z H5 else N0 H3)
    (k : ∀ D H2 kvs, H1 D = none → Ex H1 H2 → H2 D = some (.dK kvs) → kvs.length ≤ n → Pa n kvs → Q (.ref D) H2)
    (mono : ∀ (σ2 : L2.St) (H : Hp) (Q Q' : VK), (∀ v H', Q v H' → Q' v H') → tk σ2 H Q → tk σ2 H Q') (monoV : ∀ (σ2 : L2.St) (H : Hp) (Q Q' : VK), (∀ v H', Q v H' → Q' v H') → tv σ2 H Q → tv σ2 H Q')
    (monoG : ∀ x (σ2 : L2.St) (H : Hp) (Q Q' : L2.St → Hp → Prop), (∀ v H', Q v H' → Q' v H') → g x σ2 H Q → g x σ2 H Q') (monoT : ∀ (σ2 : L2.St) (H : Hp) (Q Q' : Bool → Hp → Prop), (∀ v H', Q v H' → Q' v H') → tt σ2 H Q → tt σ2 H Q') :
    DcRest g tt tk tv vs σ Q J H1 := by
  intro D hD
  refine ⟨fun i m H => m = n - i ∧ i ≤ n ∧ ∃ kvs, Ex H1 H ∧ H D = some (.dK kvs) ∧ kvs.length ≤ i ∧ Pa i kvs, ⟨n, by omega, Nat.zero_le _, [], Ex.new hD, upd_same, Nat.zero_le _, p0⟩, ?_⟩
  rintro i m H ⟨rfl, hi, kvs, e, hd, hl, hp⟩
  have hG := hGm _ _ e hG0
  by_cases hlt : i < n
  · refine .inr ⟨w.goes i H hlt hG, fun H' => i + 1 ≤ n ∧ ∃ kvs, Ex H1 H' ∧ H' D = some (.dK kvs) ∧ kvs.length ≤ i + 1 ∧ Pa (i + 1) kvs, fun H' p' => ⟨n - (i + 1), by omega, rfl, p'.1, p'.2⟩, fun x H' y => ?_⟩
    have y' := w.yields i H x H' hlt hG y
    have e' := hY _ _ _ _ y'
    have hd' := e' _ _ hd
    refine monoG _ _ _ _ _ (fun σ2 H2 h2 => ⟨h2.1, monoT _ _ _ _ (fun b H3 h3 => ?_) h2.2⟩) (hs i x H H' kvs hlt e y' hp (fun k z H5 => ∃ kvs, H5 D = some (.dK kvs) ∧ kvs.length < sizeLine ∧ i + 1 ≤ n ∧ ∃ kvs', Ex H1 (upd H5 D (.dK (putK kvs k z))) ∧ upd H5 D (.dK (putK kvs k z)) D = some (.dK kvs') ∧ kvs'.length ≤ i + 1 ∧ Pa (i + 1) kvs') (fun H3 => i + 1 ≤ n ∧ ∃ kvs, Ex H1 H3 ∧ H3 D = some (.dK kvs) ∧ kvs.length ≤ i + 1 ∧ Pa (i + 1) kvs)
      (fun k z H4 e4 p4 => ⟨kvs, e4 _ _ hd', by rw [sizeLine_eq]; omega, hlt, _, Ex.mut ((e.trans e').trans e4) hD, upd_same, Nat.le_trans (length_putK _ _ _) (by omega), p4⟩) (fun H3 e3 p3 => ⟨hlt, kvs, (e.trans e').trans e3, e3 _ _ hd', by omega, p3⟩))
    cases b with
    | false => exact h3
    | true =>
      refine mono _ _ _ _ (fun y H4 h4 => monoV _ _ _ _ (fun z H5 h5 => ?_) h4) h3
      obtain ⟨k, rfl, kvs, c1, c2, c3⟩ := h5
      exact ⟨kvs, k, rfl, c1, c2, c3⟩
  · have e2 : i = n := by omega
    subst e2
    exact .inl ⟨w.stops H hG, k D H kvs hD e hd hl hp⟩
section
variable {X : Cx}
/-- a dict comprehension given to a name on its line -/
theorem ps_setDc {i : Nat} {y : Str} {w : Pos} {kx vx tg src : Expr} {tests : List Expr} {scp : Scope} {own : List (Str × Nat)} {at1 at2 : Pos} {wi : TI} {g : TG} {tt : TT} {tk tv : TE} (calm : X.calm = true) (nd : X.N.Nodup) (hy : X.N[i]? = some y) (loc : X.env.scope.names.lookup y = some .local)
    (sw : swapsWith (.DictComp kx vx [⟨tg, src, tests, 0⟩] scp at1) (some (.Name y w)) at2.line X.env = pure true) (hi : PI X tg src wi) (ok : BlkOk X.N X.env.scope scp own)
    (hg : ∀ (s : Shared) (H : Hp) (C : Addr) (cl : List (Str × Addr)) (fp : List Addr), PG (X.blk s H scp (compEnvC scp cl C X.env) fp) tg g)
    (ht : ∀ (s : Shared) (H : Hp) (C : Addr) (cl : List (Str × Addr)) (fp : List Addr), PTs (X.blk s H scp (compEnvC scp cl C X.env) fp) tests tt)
    (hk : ∀ (s : Shared) (H : Hp) (C : Addr) (cl : List (Str × Addr)) (fp : List Addr), PE (X.blk s H scp (compEnvC scp cl C X.env) fp) kx tk)
    (hv : ∀ (s : Shared) (H : Hp) (C : Addr) (cl : List (Str × Addr)) (fp : List Addr), PE (X.blk s H scp (compEnvC scp cl C X.env) fp) vx tv) (fold : ∀ x, foldedSetIterable src X.env x = pure x := by intro _; rfl) :
    PS X (.Assign [.Name y w] (.DictComp kx vx [⟨tg, src, tests, 0⟩] scp at1) at2) (tAsg (tDc wi g tt tk tv (own.map (·.2))) (gName i)) := by
  constructor
  intro pins s σ H D I h
  rw [exec_Assign_Name_used _ _ _ _ sw]
  apply wpAny_bind; apply wpAny_standAt; apply wpAny_bind
  show wpAny _ X.A (do let _ ← comprehension (.DictComp kx vx [⟨tg, src, tests, 0⟩] scp at1) scp X.env (firstIterPos [⟨tg, src, tests, 0⟩] at1) newDict false (eval src X.env) (some (assign (.Name y w) X.env))) _ _ s
  have h : tDc wi g tt tk tv (own.map (·.2)) σ H (fun x H1 => gName i x σ H1 D.nx) := h
  apply wpAny_bind
  refine thn (dc_core (Qf := fun _ s' => SP X pins D .next s') calm nd I hi ok hg ht hk hv fold h fun Dd C s' m H' J q ns fr => ?_) fun _ s' hq => wpAny_pure (wpAny_pure hq)
  show wpAny _ _ (assign (.Name y w) X.env (.ref Dd)) _ _ _
  apply wpAny_assign_Name
  refine store_ok2 (v := V.ref Dd) J nd hy (.inl loc) rfl (fun s2 J2 ⟨a, sb, ha⟩ => ?_) (.inr loc)
  obtain ⟨f0, f1, f2, f3, f4, f5⟩ := fr
  have ne : C ≠ a := ha.elim (fun z => z ▸ f1) fun z e => f4 y a z e.symm
  exact ⟨m, ns.sameBut sb ne, fun h3 sb3 => ⟨_, H', J2.turned (t' := s2.toks) (fun b o hb e => (sb3.2 b hb).trans e) f0 f1 f3 f4 f5, q⟩⟩
theorem ps_setDcO {st : Stmt} {wi : TI} {g k : TG} {tt : TT} {tk tv : TE} {vs : List Nat} (h : PS X st (tAsg (tDc wi g tt tk tv vs) k)) : PS X st (tAsg (tDcO wi g tt tk tv vs) k) := h
theorem sw_dict {kx vx : Expr} {gs : List Comprehension} {scp : Scope} {at1 w : Pos} {y : Str} {l : Nat} {env : Env} (fn : env.scope.kind = .function) (loc : env.scope.names.lookup y = some .local) (line : (w.line == at1.line) = true)
    (other : (scp.names.any fun (n, k) => n == y && (k == .local || k == .cell)) = false) : swapsWith (.DictComp kx vx gs scp at1) (some (.Name y w)) l env = pure true := by
  have k1 : env.kindOf y = some .local := loc
  have k2 : env.blockKind = .function := by unfold Env.blockKind; rw [fn]; rfl
  unfold swapsWith
  simp only [k2, k1, other, Expr.pos, line]
  rfl
end
/-- a text twice -/
def rMul2 : R2 := fun x y H Q => ∃ z : Str, x = .str z ∧ y = .int 2 ∧ z.length ≤ 100000 ∧ Q (.str (z ++ z)) H
theorem op_mul2 {X : Cx} : OpR X (binaryOp .Mult) rMul2 := by
  intro pk s τ H x y v u Q I rx ry h
  obtain ⟨z, rfl, rfl, hl, q⟩ := h
  obtain ⟨t, rfl⟩ := rx
  obtain ⟨t', rfl⟩ := ry
  refine PySem.P.mul_str (by decide) (fun _ h => ?_) (fun _ _ => ?_) ?_
  · rw [show (2 ^ 63 - 1 : Int) / 2 = 4611686018427387903 from by decide]
    omega
  · show decide (z.length * 2 > sizeLine) = false
    refine decide_eq_false ?_
    rw [sizeLine_eq]
    omega
  · rw [if_neg (by decide)]
    by_cases h0 : z.length = 0
    · have e : z ++ z = z := cs_ext (by
        have : cs z = [] := List.eq_nil_of_length_eq_zero (by rw [← cs_len]; exact h0)
        rw [cs_add, this]
        rfl)
      rw [e] at q
      rw [h0, if_pos (by rfl)]
      exact ⟨.str _, H, I, ⟨_, rfl⟩, q⟩
    · rw [if_neg (by
        rw [beq_eq_false_iff_ne.mpr h0]
        decide)]
      have e : (⟨(List.replicate (2 : Int).toNat z.cps).foldl (· ++ ·) #[]⟩ : Str) = z ++ z := cs_ext (by
        rw [cs_add]
        show ((#[] ++ z.cps) ++ z.cps : Array Nat).toList = z.cps.toList ++ z.cps.toList
        simp)
      rw [e]
      refine ⟨?_, .str _, H, I.tok _, ⟨_, rfl⟩, q⟩
      rw [cs_len, cs_add, List.length_append, ← cs_len, sizeLine_eq]
      omega
end Own

namespace Own
open PySem PySem.Spec PyProof.Rows L2 Evl
abbrev s_is_integer : Stmt := top 5
theorem sc_is_integer : FnScope ["thing"] ["thing"] (defScope s_is_integer) := ⟨rfl, rfl, rfl, by decide +kernel, rfl, by decide +kernel, by decide +kernel⟩
abbrev s_is_home : Stmt := top 8
theorem sc_is_home : FnScope ["thing"] ["thing"] (defScope s_is_home) := ⟨rfl, rfl, rfl, by decide +kernel, rfl, by decide +kernel, by decide +kernel⟩
abbrev s_name_number : Stmt := top 9
theorem sc_name_number : FnScope ["number", "name", "rest", "letter"] ["number"] (defScope s_name_number) := ⟨rfl, rfl, rfl, by decide +kernel, rfl, by decide +kernel, by decide +kernel⟩
abbrev s_fresh : Stmt := top 10
theorem sc_fresh : FnScope ["names", "taken", "name", "number"] ["names"] (defScope s_fresh) := ⟨rfl, rfl, rfl, by decide +kernel, rfl, by decide +kernel, by decide +kernel⟩
theorem let_num : ∀ j : Fin 26, atI LET.cps.toList ((j.val : Nat) : Int) = some (97 + j.val) := let_at
def intD : PyData → Bool | .int _ => true | _ => false
def homD : PyData → Bool | .str z => decide (z = "goal") || decide (z = "book") | _ => false
theorem homD_no {d : PyData} (h : isStrD d = false) : homD d = false := by cases d <;> first | rfl | cases h
theorem str_cons (c : Nat) (l : List Nat) : (⟨#[c]⟩ : Str) ++ (⟨l.toArray⟩ : Str) = ⟨(c :: l).toArray⟩ := cs_ext (by rw [cs_add]; simp [cs])
structure TxW (mg : Str → Option Value) : Prop where
  dm : mg "divmod" = none
  l : ∃ t, mg "LETTERS" = some (.str LET t)
section
variable {P : Program} {w : World} {K : PySem.W.Frag} {mg : Str → Option Value} {base : Heap} {rel : Addr}
def spNN : Sp := fun vs H Q _ => ∃ (k : Nat), vs = [.int k] ∧ k ≤ 10000 ∧ ∀ H', Ex H H' → Q (.str (nmN k)) H'
theorem ok_name_number (T : Txt0 mg) (TW : TxW mg) (D : Df K mg "name_number" s_name_number) : CalG P w K mg base 1 "name_number" spNN := by
  obtain ⟨t0, g_LETTERS⟩ := TW.l
  have TW_divmod := TW.dm
  refine cal_mk D sc_name_number (fun _ _ _ _ _ _ us hl => match us, hl with | [_], _ => rfl) (fun vs H Q E h => ?_) (fun f cdv A outer s H vs Q E hr hG h => ?_)
  · obtain ⟨k, rfl, _⟩ := h
    rfl
  · obtain ⟨k, rfl, hk, q⟩ := h
    refine ⟨_, (pss_cons (ps_set (i := 1) sc_name_number.nd rfl (Or.inl rfl) pe_str)
      (pss_cons (ps_set (i := 2) sc_name_number.nd rfl (Or.inl rfl) (pe_op opAdd (pv 0) pe_int))
      (pss_cons (ps_while PassesOwn.never (pt_cmpR opGt (pv 2) pe_int (nomark _)) (pss_cons (ps_asg (pe_callB call_divmod (by rfl) TW_divmod (by decide +kernel) (pa_cons (pe_op op_sub (pv 2) pe_int) (pa_cons (pe_callB callLen (by rfl) T.len PySem.boot_len (pa_cons (pe_glob (v := .str _) rfl g_LETTERS ⟨_, rfl⟩) pa_nil)) pa_nil))) (pg_tup rfl (pgs_cons (pg_name (i := 2) sc_name_number.nd rfl (Or.inl rfl)) (pgs_cons (pg_name (i := 3) sc_name_number.nd rfl (Or.inl rfl)) pgs_nil))))
      (pss_one (ps_set (i := 1) sc_name_number.nd rfl (Or.inl rfl) (pe_op opAdd (pe_ix ixAny (pe_glob (v := .str _) rfl g_LETTERS ⟨_, rfl⟩) (pv 3) (fun _ _ => rfl)) (pv 1))))))
      (pss_one (ps_ret (pv 1)))))), ?_⟩
    refine ⟨_, rfl, .inl ⟨_, _, rfl, rfl, ?_⟩⟩
    refine ⟨fun m σ H' => ∃ (l : List Nat) (x3 : Option V), σ = [some (.int k), some (.str ⟨l.toArray⟩), some (.int ((m : Nat) : Int)), x3] ∧ Ex H H' ∧ numL m ++ l = numL (k + 1) ∧ m ≤ 10001, ⟨k + 1, [], _, rfl, Ex.refl _, List.append_nil _, by omega⟩, ?_⟩
    rintro m σ H1 ⟨l, x3, rfl, e1, hm, hm2⟩
    refine ⟨_, rfl, _, _, rfl, rfl, _, rfl, ite2 (fun h => ?_) (fun h => ?_)⟩
    · have hm0 : (0 : Int) < (m : Int) := by simpa using h
      refine ⟨fun σ' H' => ∃ m', m' < m ∧ ∃ (l : List Nat) (x3 : Option V), σ' = [some (.int k), some (.str ⟨l.toArray⟩), some (.int ((m' : Nat) : Int)), x3] ∧ Ex H H' ∧ numL m' ++ l = numL (k + 1) ∧ m' ≤ 10001, fun _ _ h => h, ?_⟩
      refine ⟨_, rfl, _, _, rfl, rfl, .inr ⟨LET, rfl, by decide +kernel, ?_⟩⟩
      rw [show LET.length = 26 from by decide +kernel]
      refine ⟨_, _, rfl, ⟨by decide, by decide⟩, fun p np => ?_⟩
      obtain ⟨m1, rfl⟩ : ∃ m1 : Nat, m = m1 + 1 := ⟨m - 1, by omega⟩
      rw [show (((m1 + 1 : Nat) : Int) - 1) / ((26 : Nat) : Int) = ((m1 / 26 : Nat) : Int) from by omega, show (((m1 + 1 : Nat) : Int) - 1) % ((26 : Nat) : Int) = ((m1 % 26 : Nat) : Int) from by omega]
      generalize hq2 : upd H1 p _ = H2
      obtain ⟨e2, h2⟩ := gen1 hq2 np
      refine ⟨p, _, rfl, st_of h2, rfl, _, _, rfl, _, _, rfl, rfl, ?_⟩
      have ha := let_at ⟨m1 % 26, Nat.mod_lt _ (by decide)⟩
      refine ⟨_, rfl, .inr (.inr (.inl ⟨LET, _, _, rfl, rfl, by decide +kernel, ha, ?_⟩))⟩
      have hl : l.length ≤ 3 := by
        have z := num_len 0 3 (k + 1) (Nat.lt_of_le_of_lt (show k + 1 ≤ 10001 by omega) (by decide))
        rw [← hm, List.length_append] at z
        omega
      have hl2 : (⟨l.toArray⟩ : Str).length = l.length := by show l.toArray.size = _; simp
      refine ⟨_, rfl, .inr (.inl ⟨_, _, rfl, rfl, by rw [hl2]; exact Nat.le_trans (show 1 + l.length ≤ 4 by omega) (by decide), ?_⟩)⟩
      rw [str_cons]
      refine ⟨m1 / 26, by omega, _, _, rfl, e1.trans e2, ?_, by omega⟩
      rw [← hm, numL_succ, List.append_assoc]
      rfl
    · have hm0 : m = 0 := by
        have z : ¬ ((0 : Int) < (m : Int)) := by simpa using h
        omega
      subst hm0
      rw [numL_0, List.nil_append] at hm
      subst hm
      exact ⟨_, rfl, q _ e1⟩
def spFresh : Sp := fun vs H Q _ => ∃ (p : Addr) (zs : List Str), vs = [.ref p] ∧ H p = some (.lst (zs.map V.str)) ∧ zs.length ≤ 1000 ∧ ∀ H' n, Ex H H' → FrN zs n → Q (.str (nmN n)) H'
theorem ok_fresh (T : Txt0 mg) (D : Df K mg "fresh" s_fresh) (c_name_number : CalG P w K mg base 1 "name_number" spNN) : CalG P w K mg base 2 "fresh" spFresh := by
  refine cal_mk D sc_fresh (fun _ _ _ _ _ _ us hl => match us, hl with | [_], _ => rfl) (fun vs H Q E h => ?_) (fun f cdv A outer s H vs Q E hr hG h => ?_)
  · obtain ⟨p, zs, rfl, _⟩ := h
    rfl
  · obtain ⟨p, zs, rfl, hp, hl, q⟩ := h
    refine ⟨_, (pss_cons (ps_setDcO (ps_setDc (i := 1) (own := [("name", 2)]) rfl sc_fresh.nd rfl rfl (sw_dict rfl rfl rfl (by decide +kernel)) (piAny (pv 0)) (blkOk_by (own := [("name", 2)]) (N := ["names", "taken", "name", "number"]) (sc := defScope s_fresh) (by first | decide +kernel | kernel_rfl)) (fun _ _ _ _ _ => pg_name (i := 2) sc_fresh.nd rfl (Or.inl rfl)) (fun _ _ _ _ _ => pts_nil) (fun _ _ _ _ _ => pv 2) (fun _ _ _ _ _ => pe_bl)))
      (pss_cons (ps_set (i := 3) sc_fresh.nd rfl (Or.inl rfl) pe_int)
      (pss_cons (ps_while PassesOwn.never (pt_cmp (pc_din (hu_of hr) (pe_cG c_name_number hr hG (by decide) rfl (pa_cons (pv 3) pa_nil)) (pv 1)) (by rfl)) (pss_one (ps_set (i := 3) sc_fresh.nd rfl (Or.inl rfl) (pe_op opAdd (pv 3) pe_int))))
      (pss_one (ps_ret (pe_cG c_name_number hr hG (by decide) rfl (pa_cons (pv 3) pa_nil))))))), ?_⟩
    refine .inl ⟨_, rfl, p, rfl, ⟨_, sq_of hp⟩, ?_⟩
    refine dcG (walk_list (xs := zs.map V.str)) (by rw [List.length_map]; omega) (sq_of hp) (fun _ _ e h => ex_l e h) yAt_ex (fun i kvs => ∀ z : Str, (valV kvs (Sum.inr z)).isSome = true ↔ z ∈ zs.take i) (fun z => by simp [valV_nil]) ?_ ?_ ?_ ?_ ?_ ?_
    · rintro i x H1 H2 kvs hi e1 ⟨rfl, hx⟩ hk N N0 kN kN0
      obtain ⟨z, hz, rfl⟩ := str_at hx
      refine ⟨rfl, _, rfl, Sum.inr z, rfl, kN _ _ _ (Ex.refl _) fun y => ?_⟩
      rw [valV_put, List.take_add_one, hz, List.mem_append]
      by_cases e : y = z
      · subst e
        rw [if_pos rfl]
        simp
      · rw [if_neg (fun h => e (Sum.inr.inj h)), hk y]
        simp [e]
    · rintro Dd H2 kvs hD e2 hD2 _ hk
      have hk : ∀ z : Str, (valV kvs (Sum.inr z)).isSome = true ↔ z ∈ zs := fun z => by
        rw [hk z, List.length_map, List.take_length]
      refine ⟨fun m σ H' => ∃ n : Nat, σ = [some (.ref p), some (.ref Dd), none, some (.int ((n : Nat) : Int))] ∧ Ex H2 H' ∧ m + n = zs.length + 1 ∧ ∀ j, j < n → nmN j ∈ zs, ⟨zs.length + 1, 0, rfl, Ex.refl _, rfl, fun j h => by omega⟩, ?_⟩
      rintro m σ H3 ⟨n, rfl, e3, hm, hn⟩
      have hnl := free_num zs n hn
      refine ⟨_, rfl, n, rfl, by omega, fun H4 e4 => ⟨_, rfl, Dd, _, rfl, DGet.k (k := Sum.inr (nmN n)) ((e3.trans e4) _ _ hD2), ?_⟩⟩
      have e24 := e3.trans e4
      refine ⟨_, rfl, ite2 (fun h => ?_) (fun h => ?_)⟩
      · have hz := (hk _).mp h
        refine ⟨fun σ' H' => ∃ m', m' < m ∧ ∃ n : Nat, σ' = [some (.ref p), some (.ref Dd), none, some (.int ((n : Nat) : Int))] ∧ Ex H2 H' ∧ m' + n = zs.length + 1 ∧ ∀ j, j < n → nmN j ∈ zs, fun _ _ h => h, ?_⟩
        refine ⟨_, rfl, .inl ⟨_, _, rfl, rfl, ?_⟩⟩
        have hn' : ∀ j, j < n + 1 → nmN j ∈ zs := fun j hj => by
          by_cases e : j = n
          · rw [e]
            exact hz
          · exact hn j (by omega)
        have := free_num zs (n + 1) hn'
        exact ⟨m - 1, by omega, n + 1, rfl, e24, by omega, hn'⟩
      · have hz : nmN n ∉ zs := fun e => by
          rw [(hk _).mpr e] at h
          simp at h
        refine ⟨_, rfl, n, rfl, by omega, fun H5 e5 => ?_⟩
        exact q _ n (e2.trans (e24.trans e5)) ⟨hn, hz⟩
    · exact fun _ _ Q Q' f ⟨v, h, q⟩ => ⟨v, h, f _ _ q⟩
    · exact fun _ _ Q Q' f q => f _ _ q
    · exact fun _ _ _ Q Q' f q => f _ _ q
    · exact fun _ _ Q Q' f q => f _ _ q
theorem ok_is_integer (T : Txt0 mg) (TI : TxtI K mg rel) (D : Df K mg "is_integer" s_is_integer) : CalG P w K mg base 1 "is_integer" (spIs intD) := by
  refine cal_mk D sc_is_integer (fun _ _ _ _ _ _ us hl => match us, hl with | [_], _ => rfl) (fun vs H Q E h => ?_) (fun f cdv A outer s H vs Q E hr hG h => ?_)
  · obtain ⟨v, d, rfl, _⟩ := h
    rfl
  · obtain ⟨v, d, rfl, hv, hok, q⟩ := h
    refine ⟨_, (pss_one (ps_ret (pe_and (pe_callB call_isi (by rfl) TI.isinstance (by decide +kernel) (pa_cons (pv 0) (pa_cons (pe_bltn (v := .ty "int") (by rfl) T.int (by decide +kernel) rfl) pa_nil))) (pe_one (pe_not (pe_callB call_isi (by rfl) TI.isinstance (by decide +kernel) (pa_cons (pv 0) (pa_cons (pe_bltn (v := .ty "bool") (by rfl) TI.bool (by decide +kernel) rfl) pa_nil)))))))), ?_⟩
    refine ⟨_, rfl, v, .ty "int", _, _, _, rfl, .ty _, hv.ty, kit_ty (kit_int d), _, rfl, ?_⟩
    cases hs : isIntD d with
    | false =>
      refine iteF ?_
      have e : intD d = false := by cases d <;> first | rfl | cases hs
      rw [← e]
      exact q _ (Ex.refl _)
    | true =>
      refine iteT ⟨_, rfl, v, .ty "bool", _, _, _, rfl, .ty _, hv.ty, kit_ty (kit_bool d), _, rfl, ?_⟩
      have e : (!isBoolD d) = intD d := by cases d <;> first | rfl | cases hs
      rw [e]
      exact q _ (Ex.refl _)
theorem ok_is_home {hom : Addr} (T : Txt0 mg) (TI : TxtI K mg rel) (gh : mg "HOMES" = some (.ref hom)) (homs : ∀ H, SqT K H hom [.str "goal", .str "book"]) (D : Df K mg "is_home" s_is_home) : CalG P w K mg base 1 "is_home" (spIs homD) := by
  refine cal_mk D sc_is_home (fun _ _ _ _ _ _ us hl => match us, hl with | [_], _ => rfl) (fun vs H Q E h => ?_) (fun f cdv A outer s H vs Q E hr hG h => ?_)
  · obtain ⟨v, d, rfl, _⟩ := h
    rfl
  · obtain ⟨v, d, rfl, hv, hok, q⟩ := h
    refine ⟨_, (pss_one (ps_ret (pe_and (pe_callB call_isi (by rfl) TI.isinstance (by decide +kernel) (pa_cons (pv 0) (pa_cons (pe_bltn (v := .ty "str") (by rfl) TI.str (by decide +kernel) rfl) pa_nil))) (pe_one (pe_cmpR opIn (pv 0) (pe_glob (v := .ref _) rfl gh rfl) rfl))))), ?_⟩
    refine ⟨_, rfl, v, .ty "str", _, _, _, rfl, .ty _, hv.ty, kit_ty (kit_str d), _, rfl, ?_⟩
    cases hs : isStrD d with
    | false =>
      refine iteF ?_
      rw [← homD_no hs]
      exact q _ (Ex.refl _)
    | true =>
      obtain ⟨z, rfl⟩ := str_of hs
      have ev := hv.str_inv
      subst ev
      refine iteT ⟨_, rfl, .inl ⟨hom, _, rfl, .inr (homs H), rfl, rfl, ?_⟩⟩
      show Q (.bl (inV (.str z) [.str "goal", .str "book"])) H
      rw [show [V.str "goal", V.str "book"] = (["goal", "book"] : List Str).map V.str from rfl, in_strs]
      have e : decide (z ∈ (["goal", "book"] : List Str)) = homD (.str z) := by
        show _ = (decide (z = "goal") || decide (z = "book"))
        by_cases h1 : z = "goal" <;> by_cases h2 : z = "book" <;> simp [h1, h2]
      rw [e]
      exact q _ (Ex.refl _)
end
end Own

namespace Own
open PySem PySem.Spec PyProof.Rows L2 Evl
abbrev s_l_near : Stmt := top 19
theorem sc_l_near : FnScope ["_law_bag_here", "_law_word", "_law_manner", "_law_at", "_law_sign", "_law_some_here"] ["_law_bag_here", "_law_word"] (defScope s_l_near) := ⟨rfl, rfl, rfl, by decide +kernel, rfl, by decide +kernel, by decide +kernel⟩
abbrev s_l_rank : Stmt := top 20
theorem sc_l_rank : FnScope ["_law_name", "_law_found", "_law_sign"] ["_law_name"] (defScope s_l_rank) := ⟨rfl, rfl, rfl, by decide +kernel, rfl, by decide +kernel, by decide +kernel⟩
theorem lay_iff (z : Str) : lay z = true ↔ ∀ c ∈ cs z, c < 0x110000 := by
  show z.cps.all (· < 0x110000) = true ↔ _
  rw [← Array.all_toList, List.all_eq_true]
  simp [cs]
theorem cut_cs (z : Str) (lo hi : Option Int) : (∀ c ∈ cs (cutS z lo hi), c ∈ cs z) ∧ (cs (cutS z lo hi)).length ≤ (cs z).length := by
  have e : cs (cutS z lo hi) = ((cs z).drop (HT.sIx z.length 0 lo)).take (HT.sIx z.length z.length hi - HT.sIx z.length 0 lo) := by
    unfold cutS cs
    simp
  rw [e]
  refine ⟨fun c hc => List.mem_of_mem_drop (List.mem_of_mem_take hc), ?_⟩
  rw [List.length_take, List.length_drop]
  omega
/-- a short text -/
def txS (n : Nat) (z : Str) : Prop := lay z = true ∧ z.length ≤ n
theorem txS.add {n m : Nat} {a b : Str} (h : txS n a) (k : txS m b) : txS (n + m) (a ++ b) := by
  refine ⟨(lay_iff _).mpr fun c hc => ?_, ?_⟩
  · rw [cs_add, List.mem_append] at hc
    exact hc.elim ((lay_iff _).mp h.1 c) ((lay_iff _).mp k.1 c)
  · rw [cs_len, cs_add, List.length_append, ← cs_len, ← cs_len]
    exact Nat.add_le_add h.2 k.2
theorem txS.cut {n : Nat} {z : Str} (h : txS n z) (lo hi : Option Int) : txS n (cutS z lo hi) := by
  have q := cut_cs z lo hi
  refine ⟨(lay_iff _).mpr fun c hc => (lay_iff _).mp h.1 c (q.1 c hc), ?_⟩
  rw [cs_len]
  have := h.2
  rw [cs_len] at this
  omega
theorem txS.mono {n m : Nat} {z : Str} (h : txS n z) (hm : n ≤ m) : txS m z := ⟨h.1, Nat.le_trans h.2 hm⟩
theorem txS.fit {n : Nat} {a : Str} (h : txS n a) (hn : n ≤ 1000) : a.length ≤ sizeLine := Nat.le_trans h.2 (Nat.le_trans hn (by decide))
theorem txS.fit2 {n m : Nat} {a b : Str} (h : txS n a) (k : txS m b) (hn : n + m ≤ 1000) : a.length + b.length ≤ sizeLine := Nat.le_trans (Nat.add_le_add h.2 k.2) (Nat.le_trans hn (by decide))
theorem txS.nm {z : Str} (h : isNm z = true) : txS 8 z := ⟨nm_ok h, nm_len h⟩
def SG : List Str := ["a", "z", "A", "1", " ", "-", "_", "{", "`", "\n"]
theorem sg_ok {z : Str} (h : z ∈ SG) : txS 1 z := by
  have t : (SG.all fun z => lay z && decide (z.length ≤ 1)) = true := by decide +kernel
  have q := List.all_eq_true.mp t z h
  rw [Bool.and_eq_true, decide_eq_true_eq] at q
  exact q
section
variable {P : Program} {w : World} {K : PySem.W.Frag} {mg : Str → Option Value} {base : Heap} {rel : Addr}
def spRank : Sp := fun vs H Q _ => ∃ z : Str, vs = [.str z] ∧ isNm z = true ∧ ∀ H', Ex H H' → Q (.int ((rkF (TL.tl z) : Int) - 1)) H'
theorem ok_rank (D : Df K mg "_law_rank" s_l_rank) : CalG P w K mg base 1 "_law_rank" spRank := by
  refine cal_mk D sc_l_rank (fun _ _ _ _ _ _ us hl => match us, hl with | [_], _ => rfl) (fun vs H Q E h => ?_) (fun f cdv A outer s H vs Q E hr hG h => ?_)
  · obtain ⟨z, rfl, _⟩ := h
    rfl
  · obtain ⟨z, rfl, hz, q⟩ := h
    refine ⟨_, (pss_cons (ps_set (i := 1) sc_l_rank.nd rfl (Or.inl rfl) pe_int)
      (pss_cons (ps_forO (ps_for PassesOwn.never rfl (piAny (pv 0)) (pg_name (i := 2) sc_l_rank.nd rfl (Or.inl rfl))
        (pss_one (ps_set (i := 1) sc_l_rank.nd rfl (Or.inl rfl) (pe_op opAdd (pe_op opAdd (pe_op opMul (pv 1) pe_int) (pe_bm PySem.F.plainAttrs_str PySem.F.slot_str_index PySem.F.type_str_index mt_sindex pe_str (pa_cons (pv 2) pa_nil))) pe_int)))))
      (pss_one (ps_ret (pe_op op_sub (pv 1) pe_int))))), ?_⟩
    have hlow := (nm_parts hz).2
    refine .inr (.inr ⟨_, rfl, z, rfl, ?_⟩)
    refine frG walk_str (fun i σ H' => ∃ x2 : Option V, σ = [some (.str z), some (.int ((rkF ((TL.tl z).take i) : Nat) : Int)), x2] ∧ H' = H) ⟨_, rfl, rfl⟩ (fun _ _ _ _ _ => trivial) ?_ ?_
    · rintro i x σ H1 H2 hi ⟨x2, rfl, rfl⟩ ⟨rfl, c, hc, rfl⟩
      have hc2 : (TL.tl z)[i]? = some c := by
        show z.cps.toList[i]? = some c
        rw [Array.getElem?_toList]
        exact hc
      have hlc : lowc c = true := List.all_eq_true.mp hlow c (List.mem_of_getElem? hc2)
      obtain ⟨j0, rfl⟩ : ∃ j : Fin 26, c = 97 + j.val := by
        simp only [lowc, Bool.and_eq_true, decide_eq_true_eq] at hlc
        exact ⟨⟨c - 97, by omega⟩, by show c = 97 + (c - 97); omega⟩
      refine ⟨_, rfl, .inl ⟨_, _, rfl, rfl, .inr ⟨by decide, by decide⟩, ?_⟩⟩
      refine ⟨rfl, _, rfl, LET, sgn (97 + j0.val), j0.val, [], rfl, rfl, let_occ j0, ?_⟩
      refine .inl ⟨_, _, rfl, rfl, .inl ⟨_, _, rfl, rfl, ?_⟩⟩
      have e : (rkF ((TL.tl z).take i) : Int) * 26 + (j0.val : Int) + 1 = ((rkF ((TL.tl z).take (i + 1)) : Nat) : Int) := by
        rw [tk hc2, rk_snoc]
        omega
      refine ⟨some (.str ⟨#[97 + j0.val]⟩), ?_, rfl⟩
      rw [← e]
      rfl
    · rintro σ H1 ⟨x2, rfl, rfl⟩
      refine ⟨_, rfl, _, _, rfl, rfl, ?_⟩
      rw [show z.cps.size = (TL.tl z).length from by simp, List.take_length]
      exact q _ (Ex.refl _)
def spNear : Sp := fun vs H Q _ => ∃ (b : Addr) (z : Str), vs = [.ref b, .str z] ∧ BagAt H b ∧ isNm z = true ∧ ∀ H' y, Ex H H' → txS 20 y → Q (.str y) H'
theorem ok_near (T : Txt0 mg) (D : Df K mg "_law_near" s_l_near) (c_l_take : CalG P w K mg base 1 "_law_take" spTake) (c_l_some : CalG P w K mg base 2 "_law_some" (spSome K)) : CalG P w K mg base 3 "_law_near" spNear := by
  refine cal_mk D sc_l_near (fun _ _ _ _ _ _ us hl => match us, hl with | [_, _], _ => rfl) (fun vs H Q E h => ?_) (fun f cdv A outer s H vs Q E hr hG h => ?_)
  · obtain ⟨b, z, rfl, _⟩ := h
    rfl
  · obtain ⟨b, z, rfl, hb, hz, q⟩ := h
    refine ⟨_, (pss_cons (ps_par (i := 2) (j := 3) rfl sc_l_near.nd rfl rfl (by decide) rfl rfl (pa_cons (pe_cG c_l_take hr hG (by decide) rfl (pa_cons (pv 0) (pa_cons pe_int pa_nil))) (pa_cons (pe_cG c_l_take hr hG (by decide) rfl (pa_cons (pv 0) (pa_cons (pe_op opAdd (pe_callB callLen (by rfl) T.len PySem.boot_len (pa_cons (pv 1) pa_nil)) pe_int) pa_nil))) pa_nil)) (by first | rfl | with_unfolding_all rfl | kernel_rfl))
      (pss_cons (ps_set (i := 4) sc_l_near.nd rfl (Or.inl rfl) (pe_cG c_l_some hr hG (by decide) rfl (pa_cons (pv 0) (pa_cons (pe_lst (pa_cons pe_str (pa_cons pe_str (pa_cons pe_str (pa_cons pe_str (pa_cons pe_str (pa_cons pe_str (pa_cons pe_str (pa_cons pe_str (pa_cons pe_str (pa_cons pe_str pa_nil))))))))))) pa_nil))))
      (pss_cons (ps_set (i := 5) sc_l_near.nd rfl (Or.inl rfl) (pe_lst (pa_cons (pv 1) (pa_cons (pe_op opAdd (pe_op opAdd (pe_slice slAny (pv 1) po_none (po_some (pv 3))) (pv 4)) (pe_slice slAny (pv 1) (po_some (pv 3)) po_none)) (pa_cons (pe_op opAdd (pe_slice slAny (pv 1) po_none (po_some (pv 3))) (pe_slice slAny (pv 1) (po_some (pe_op opAdd (pv 3) pe_int)) po_none)) (pa_cons (pe_op opAdd (pe_op opAdd (pe_slice slAny (pv 1) po_none (po_some (pv 3))) (pv 4)) (pe_slice slAny (pv 1) (po_some (pe_op opAdd (pv 3) pe_int)) po_none)) (pa_cons (pe_op op_mul2 (pv 1) pe_int) pa_nil)))))))
      (pss_one (ps_ret (pe_ix ixAny (pv 5) (pv 2) (fun _ _ => rfl))))))), ?_⟩
    have tz := txS.nm hz
    have z8 := tz.2
    refine ⟨_, rfl, b, 5, rfl, hb, by decide, by decide, fun H1 r r0 r1 e1 => ?_⟩
    refine ⟨_, rfl, _, rfl, .inr ⟨z, rfl, tz.fit (by decide), .inl ⟨_, _, rfl, rfl, ?_⟩⟩⟩
    refine ⟨b, _, rfl, hb.ex e1, by omega, by omega, fun H2 a a0 a1 e2 => ?_⟩
    refine ⟨_, _, rfl, ?_⟩
    have e12 := e1.trans e2
    refine ⟨_, rfl, by show 10 ≤ sizeLine; decide, fun l3 n3 => ?_⟩
    generalize hq3 : upd H2 l3 _ = H3
    obtain ⟨e3, h3⟩ := gen1 hq3 n3
    refine ⟨b, l3, SG.map V.str, rfl, hb.ex (e12.trans e3), .inl (sq_of h3), (fun e => absurd (congrArg List.length e) (by show ¬ 10 = 0; decide)), by show 10 ≤ 100000; decide, fun H4 i x e4 hx => ?_⟩
    obtain ⟨y, hy, rfl⟩ := str_at hx
    have ty := sg_ok (List.mem_of_getElem? hy)
    have lo : ∀ (o : Option Int), txS 8 (cutS z none o) := fun o => tz.cut _ _
    have hi : ∀ (o : Option Int), txS 8 (cutS z o none) := fun o => tz.cut _ _
    have zl := tz.fit (by decide)
    refine ⟨_, rfl, _, rfl, _, rfl, a, rfl, .inr (.inr ⟨z, rfl, zl, _, rfl, .inr (.inl ⟨_, _, rfl, rfl, (lo _).fit2 ty (by decide), ?_⟩)⟩)⟩
    refine ⟨_, rfl, _, rfl, a, rfl, .inr (.inr ⟨z, rfl, zl, .inr (.inl ⟨_, _, rfl, rfl, ((lo _).add ty).fit2 (hi _) (by decide), ?_⟩)⟩)⟩
    refine ⟨_, rfl, _, rfl, a, rfl, .inr (.inr ⟨z, rfl, zl, ?_⟩)⟩
    refine ⟨_, rfl, _, rfl, .inl ⟨_, _, rfl, rfl, _, rfl, .inr (.inr ⟨z, rfl, zl, .inr (.inl ⟨_, _, rfl, rfl, (lo _).fit2 (hi _) (by decide), ?_⟩)⟩)⟩⟩
    refine ⟨_, rfl, _, rfl, a, rfl, .inr (.inr ⟨z, rfl, zl, _, rfl, .inr (.inl ⟨_, _, rfl, rfl, (lo _).fit2 ty (by decide), ?_⟩)⟩)⟩
    refine ⟨_, rfl, _, rfl, .inl ⟨_, _, rfl, rfl, _, rfl, .inr (.inr ⟨z, rfl, zl, .inr (.inl ⟨_, _, rfl, rfl, ((lo _).add ty).fit2 (hi _) (by decide), ?_⟩)⟩)⟩⟩
    refine ⟨_, rfl, z, rfl, rfl, by omega, by show 5 ≤ sizeLine; decide, fun l5 n5 => ?_⟩
    generalize hq5 : upd H4 l5 _ = H5
    obtain ⟨e5, h5⟩ := gen1 hq5 n5
    have fin : ∀ y, txS 20 y → Q (.str y) H5 := fun y hy => q H5 y (((e12.trans e3).trans e4).trans e5) hy
    obtain ⟨j, rfl⟩ : ∃ j : Nat, r = (j : Int) := ⟨r.toNat, by omega⟩
    match j, r1, h5 with
    | 0, _, h5 => exact ⟨_, rfl, _, rfl, .inl ⟨l5, _, 0, _, rfl, rfl, sq_of h5, rfl, fin _ (tz.mono (by decide))⟩⟩
    | 1, _, h5 => exact ⟨_, rfl, _, rfl, .inl ⟨l5, _, 1, _, rfl, rfl, sq_of h5, rfl, fin _ ((((lo _).add ty).add (hi _)).mono (by decide))⟩⟩
    | 2, _, h5 => exact ⟨_, rfl, _, rfl, .inl ⟨l5, _, 2, _, rfl, rfl, sq_of h5, rfl, fin _ (((lo _).add (hi _)).mono (by decide))⟩⟩
    | 3, _, h5 => exact ⟨_, rfl, _, rfl, .inl ⟨l5, _, 3, _, rfl, rfl, sq_of h5, rfl, fin _ ((((lo _).add ty).add (hi _)).mono (by decide))⟩⟩
    | 4, _, h5 => exact ⟨_, rfl, _, rfl, .inl ⟨l5, _, 4, _, rfl, rfl, sq_of h5, rfl, fin _ ((tz.add tz).mono (by decide))⟩⟩
    | j + 5, h, _ => exact absurd h (by omega)
end
end Own

namespace Own
open PySem PySem.Spec PyProof.Rows L2 Evl
theorem okD_str {z : Str} {L : Nat} (h : lay z = true) (hl : z.length ≤ L) : okD 0 (10 * L + 5) (.str z) := ⟨h, Nat.le_refl _, by show 10 * z.length + 5 ≤ _; omega⟩
theorem okD_tup {n W : Nat} {ds : List PyData} (h : ∀ d ∈ ds, okD n W d) {m : Nat} (hm : ds.length ≤ m) : okD (n + 1) (m * (W + 2) + 3) (.tuple ds) := by
  refine ⟨gDs_iff.mpr fun d hd => (h d hd).1, Nat.succ_le_succ (depthAll_le.mpr fun d hd => (h d hd).2.1), ?_⟩
  have z : ∀ es : List PyData, (∀ d ∈ es, wd d ≤ W) → wds es ≤ es.length * (W + 2) := by
    intro es
    induction es with
    | nil => exact fun _ => Nat.zero_le _
    | cons e es ih =>
      intro he
      have q1 := he e List.mem_cons_self
      have q2 := ih fun d hd => he d (List.mem_cons_of_mem _ hd)
      show wd e + 2 + wds es ≤ (es.length + 1) * (W + 2)
      rw [Nat.add_mul]
      omega
  have q := z ds fun d hd => (h d hd).2.2
  have q2 := Nat.mul_le_mul_right (W + 2) hm
  show wds ds + 3 ≤ _
  omega
theorem okD_list {n W : Nat} {ds : List PyData} (h : ∀ d ∈ ds, okD n W d) {m : Nat} (hm : ds.length ≤ m) : okD (n + 1) (m * (W + 2) + 3) (.list ds) := okD_tup h hm
theorem gA.okD {a : A3} (h : gA a) : okD 1 264 (atD a) := by
  obtain ⟨h1, h2, h3, h4⟩ := h
  unfold sOk at h1
  rw [Bool.and_eq_true, Bool.and_eq_true] at h1
  refine okD_tup (n := 0) (W := 85) (m := 3) (fun d hd => ?_) (Nat.le_refl _)
  have hd : d ∈ [PyData.str a.1, PyData.str a.2.1, PyData.str a.2.2] := hd
  simp only [List.mem_cons, List.not_mem_nil, or_false] at hd
  rcases hd with rfl | rfl | rfl
  · exact okD_str (L := 8) h1.1 h2
  · exact okD_str (L := 8) h1.2.1 h3
  · exact okD_str (L := 8) h1.2.2 h4
theorem okD_fa {as : List A3} {m : Nat} (h : ∀ a ∈ as, gA a) (h2 : as.length ≤ m) : okD 2 (m * 266 + 3) (faD as) := by
  refine okD_tup (n := 1) (W := 264) (m := m) (fun d hd => ?_) (by rw [List.length_map]; exact h2)
  obtain ⟨a, ha, rfl⟩ := List.mem_map.mp hd
  exact (h a ha).okD
theorem lcL {J : It} {n : Nat} {G : Hp → Prop} {Y : Nat → Hp → V → Hp → Prop} (w : Walk J n G Y) {g : TG} {tt : TT} {te : TE} {vs : List Nat} {σ : L2.St} {H1 : Hp} {Q : VK} (hG0 : G H1) (hGm : ∀ H H', Ex H H' → G H → G H') (hY : ∀ i H x H', Y i H x H' → Ex H H') (hn : n ≤ 40000)
    (Pa : Addr → Nat → List V → Hp → Prop) (hm : ∀ D i ys H H', TEx H H' → ExB D H H' → Pa D i ys H → Pa D i ys H') (p0 : ∀ D, Pa D 0 [] H1)
    (hs : ∀ D i x H H' ys, i < n → Ex H1 H → Y i H x H' → H1 D = none → H' D = some (.lst ys) → Pa D i ys H' → ∀ (N : V → Hp → Prop) (N0 : Hp → Prop), (∀ y H4, Ex H' H4 → Pa D (i + 1) (ys ++ [y]) H4 → N y H4) → (∀ H3, Ex H' H3 → Pa D (i + 1) ys H3 → N0 H3) →
      g x (wipe σ vs) H' fun σ2 H2 => wipe σ2 vs = wipe σ vs ∧ tt σ2 H2 fun b H3 => if b = true then te σ2 H3 N else N0 H3)
    (k : ∀ D H2 ys, H1 D = none → Ex H1 H2 → H2 D = some (.lst ys) → ys.length ≤ n → Pa D n ys H2 → Q (.ref D) H2) :
    LcRest g tt te vs σ Q J H1 := by
  intro D hD
  refine lc_it w (fun i H => ∃ ys, Ex H1 H ∧ H D = some (.lst ys) ∧ ys.length ≤ i ∧ Pa D i ys H) ⟨[], Ex.new hD, upd_same, Nat.zero_le _, hm _ _ _ _ _ (TEx.of (Ex.new hD)) (fun a o _ h => Ex.new hD a o h) (p0 D)⟩ (fun i H hi ⟨ys, e, _⟩ => hGm _ _ e hG0) ?_ ?_
  · rintro i x H H' hi ⟨ys, e, hd, hl, hp⟩ hy
    have e' := hY _ _ _ _ hy
    refine hs D i x H H' ys hi e hy hD (e' _ _ hd) (hm _ _ _ _ _ (TEx.of e') (fun a o _ h => e' a o h) hp) _ _ (fun y H4 e4 p4 => ?_) (fun H3 e3 p3 => ?_)
    · have d4 := e4 _ _ (e' _ _ hd)
      refine ⟨ys, d4, sz_lt (by omega), ys ++ [y], Ex.mut ((e.trans e').trans e4) hD, upd_same, ?_, hm _ _ _ _ _ (TEx.lst d4) (ExB.set (ExB.refl _ _)) p4⟩
      rw [List.length_append]
      show ys.length + 1 ≤ i + 1
      omega
    · exact ⟨ys, (e.trans e').trans e3, e3 _ _ (e' _ _ hd), by omega, p3⟩
  · rintro H ⟨ys, e, hd, hl, hp⟩
    exact k D H ys hD e hd hl hp
abbrev s_l_listed : Stmt := top 21
theorem sc_l_listed : FnScope ["_law_bag_here", "_law_found", "_law_letters", "_law_manner", "_law_letter", "_law_some_here", "_law_one", "_law_name"] ["_law_bag_here"] (defScope s_l_listed) := ⟨rfl, rfl, rfl, by decide +kernel, rfl, by decide +kernel, by decide +kernel⟩
abbrev s_l_fresh_right : Stmt := top 22
theorem sc_l_fresh_right : FnScope ["_law_labels", "_law_tells", "_law_known", "_law_name"] ["_law_labels", "_law_tells"] (defScope s_l_fresh_right) := ⟨rfl, rfl, rfl, by decide +kernel, rfl, by decide +kernel, by decide +kernel⟩
structure TxtZ (mg : Str → Option Value) : Prop where
  sorted : mg "sorted" = none
  set : mg "set" = none
  sum : mg "sum" = none
def LsD (D : Addr) (H : Hp) (as : List Addr) (yss : List (List V)) : Prop := Paired (fun a zs => a ≠ D ∧ H a = some (.lst zs)) as yss
theorem LsD.mv {D : Addr} {H H' : Hp} {as : List Addr} {yss : List (List V)} (e : ExB D H H') (h : LsD D H as yss) : LsD D H' as yss := Paired.mono (fun _ _ z => ⟨z.1, e _ _ z.1 z.2⟩) h
theorem LsD.ex {D : Addr} {H H' : Hp} {as : List Addr} {yss : List (List V)} (e : Ex H H') (h : LsD D H as yss) : Paired (fun a zs => H' a = some (.lst zs)) as yss := Paired.mono (fun _ _ z => e _ _ z.2) h
theorem cut_upto (xs : List V) (j : Nat) : cutV xs none (some (j : Int)) = xs.take j := by
  unfold cutV
  rw [HT.sIx_nat, HT.sIx_none, List.drop_zero, Nat.sub_zero]
  by_cases h : j ≤ xs.length
  · rw [Nat.min_eq_left h]
  · rw [Nat.min_eq_right (by omega), List.take_of_length_le (Nat.le_refl _), List.take_of_length_le (by omega)]
theorem cut_nat (zs : List Str) {r : Int} (h : 0 ≤ r) : cutV (zs.map V.str) none (some r) = (zs.take r.toNat).map V.str := by
  obtain ⟨j, rfl⟩ : ∃ j : Nat, r = (j : Int) := ⟨r.toNat, by omega⟩
  rw [cut_upto, List.map_take]
  rfl
theorem atI_back {α : Type} {xs : List α} {k : Nat} (h : k < xs.length) : ∃ v, v ∈ xs ∧ atI xs (-1 - (k : Int)) = some v := by
  have e : ixN xs.length (-1 - (k : Int)) = some (xs.length - 1 - k) := by
    unfold ixN
    rw [if_neg (by omega), if_pos (by omega)]
    congr 1
    omega
  refine ⟨xs[xs.length - 1 - k], List.getElem_mem _, ?_⟩
  unfold atI
  rw [e]
  show xs[xs.length - 1 - k]? = _
  exact List.getElem?_eq_getElem (by omega)
def LT : List Str := (TL.tl LET).map sgn
theorem lt_len : LT.length = 26 := by decide +kernel
theorem lt_ok {z : Str} (h : z ∈ LT) : txS 1 z := by
  have t : (LT.all fun z => lay z && decide (z.length ≤ 1)) = true := by decide +kernel
  have q := List.all_eq_true.mp t z h
  rw [Bool.and_eq_true, decide_eq_true_eq] at q
  exact q
/-- texts of at most nine signs -/
def tx9 (zs : List Str) : Prop := ∀ z ∈ zs, txS 9 z
theorem tx9.app {xs ys : List Str} (h : tx9 xs) (k : tx9 ys) : tx9 (xs ++ ys) := fun z hz => (List.mem_append.mp hz).elim (h z) (k z)
theorem tx9.snoc {xs : List Str} {y : Str} (h : tx9 xs) (k : txS 9 y) : tx9 (xs ++ [y]) := h.app fun z hz => by
  rw [List.mem_singleton.mp hz]
  exact k
theorem tx9.take {xs : List Str} (h : tx9 xs) (n : Nat) : tx9 (xs.take n) := fun z hz => h z (List.mem_of_mem_take hz)
theorem lt9 : tx9 LT := fun z hz => (lt_ok hz).mono (by decide)
theorem m_app (xs ys : List Str) : xs.map V.str ++ ys.map V.str = (xs ++ ys).map V.str := (List.map_append ..).symm
theorem four_cut {r : Int} (h0 : 0 ≤ r) (h1 : r < 4) : ∃ n : Nat, 400 ≤ n ∧ atI [V.int 702, V.int 715, V.int 728, V.int 400] r = some (.int (n : Int)) := by
  have q : r = 0 ∨ r = 1 ∨ r = 2 ∨ r = 3 := by omega
  rcases q with rfl | rfl | rfl | rfl
  · exact ⟨702, by decide, rfl⟩
  · exact ⟨715, by decide, rfl⟩
  · exact ⟨728, by decide, rfl⟩
  · exact ⟨400, by decide, rfl⟩
section
variable {P : Program} {w : World} {K : PySem.W.Frag} {mg : Str → Option Value} {base : Heap} {rel : Addr}
def spListed : Sp := fun vs H Q _ => ∃ (b : Addr), vs = [.ref b] ∧ BagAt H b ∧ ∀ (H' : Hp) (p : Addr) (zs : List Str), Ex H H' → H' p = some (.lst (zs.map V.str)) → zs.length ≤ 805 → tx9 zs → Q (.ref p) H'
theorem ok_listed (T : Txt0 mg) (TZ : TxtZ mg) (D : Df K mg "_law_listed" s_l_listed) (c_l_take : CalG P w K mg base 1 "_law_take" spTake) (c_l_names : CalG P w K mg base 2 "_law_names" spNames) : CalG P w K mg base 3 "_law_listed" spListed := by
  refine cal_mk D sc_l_listed (fun _ _ _ _ _ _ us hl => match us, hl with | [_], _ => rfl) (fun vs H Q E h => ?_) (fun f cdv A outer s H vs Q E hr hG h => ?_)
  · obtain ⟨b, rfl, _⟩ := h
    rfl
  · obtain ⟨b, rfl, hb, q⟩ := h
    refine ⟨_, (pss_cons (ps_set (i := 1) sc_l_listed.nd rfl (Or.inl rfl) (pe_cG c_l_names hr hG (by decide) rfl (pa_cons (pv 0) (pa_cons (pe_cG c_l_take hr hG (by decide) rfl (pa_cons (pv 0) (pa_cons pe_int pa_nil))) pa_nil))))
      (pss_cons (ps_set (i := 2) sc_l_listed.nd rfl (Or.inr rfl) (pe_callTy (call_listA rfl) (by rfl) T.list (by decide +kernel) (pa_cons pe_str pa_nil)))
      (pss_cons (ps_set (i := 3) sc_l_listed.nd rfl (Or.inl rfl) (pe_cG c_l_take hr hG (by decide) rfl (pa_cons (pv 0) (pa_cons pe_int pa_nil))))
      (Evl.pss_cut (ps_if (pt_cmpR (opEq hr) (pv 3) pe_int (nomark _)) (pss_one (ps_set (i := 1) sc_l_listed.nd rfl (Or.inl rfl) (pe_op opAdd (pv 1) (pe_slice slAny (pe_op opAdd (pv 2) (pe_lcO (pe_lc (own := [("_law_letter", 4)]) rfl sc_l_listed.nd (piAny (pv 2)) (blkOk_by (own := [("_law_letter", 4)]) (N := ["_law_bag_here", "_law_found", "_law_letters", "_law_manner", "_law_letter", "_law_some_here", "_law_one", "_law_name"]) (sc := defScope s_l_listed) (by first | decide +kernel | kernel_rfl)) (fun _ _ _ _ _ => pg_name (i := 4) sc_l_listed.nd rfl (Or.inl rfl)) (fun _ _ _ _ _ => pts_nil) (fun _ _ _ _ _ => pe_op opAddB pe_str (pv 4))))) po_none (po_some (pe_cG c_l_take hr hG (by decide) rfl (pa_cons (pv 0) (pa_cons pe_int pa_nil)))))))) pss_nil)
      (Evl.pss_cut (ps_if (pt_cmpR (opEq hr) (pv 3) pe_int (nomark _)) (pss_cons (ps_set (i := 5) sc_l_listed.nd rfl (Or.inr rfl) (pe_op opAdd (pv 2) (pe_callB (cr_sumL rfl) (by rfl) TZ.sum (by decide +kernel) (pa_cons (pe_lcO (pe_lc (own := [("_law_one", 6)]) rfl sc_l_listed.nd (piAny (pv 2)) (blkOk_by (own := [("_law_one", 6)]) (N := ["_law_bag_here", "_law_found", "_law_letters", "_law_manner", "_law_letter", "_law_some_here", "_law_one", "_law_name"]) (sc := defScope s_l_listed) (by first | decide +kernel | kernel_rfl)) (fun _ _ _ _ _ => pg_name (i := 6) sc_l_listed.nd rfl (Or.inr rfl) (hf := .inl rfl)) (fun _ _ _ _ _ => pts_nil) (fun _ _ _ _ _ => pe_lcO (pe_lc (own := [("_law_letter", 4)]) rfl sc_l_listed.nd (piAnyB (pv 2)) (blkOk_by (own := [("_law_letter", 4)]) (N := ["_law_bag_here", "_law_found", "_law_letters", "_law_manner", "_law_letter", "_law_some_here", "_law_one", "_law_name"]) (by first | decide +kernel | kernel_rfl)) (fun _ _ _ _ _ => pg_name (i := 4) sc_l_listed.nd rfl (Or.inl rfl)) (fun _ _ _ _ _ => pts_nil) (fun _ _ _ _ _ => pe_op opAddBB (pv 6) (pv 4)))))) (pa_cons (pe_lst pa_nil) pa_nil)))))
      (pss_cons (ps_set (i := 5) sc_l_listed.nd rfl (Or.inr rfl) (pe_slice slAny (pe_op opAdd (pv 5) (pe_lcO (pe_lc (own := [("_law_letter", 4)]) rfl sc_l_listed.nd (piAny (pv 2)) (blkOk_by (own := [("_law_letter", 4)]) (N := ["_law_bag_here", "_law_found", "_law_letters", "_law_manner", "_law_letter", "_law_some_here", "_law_one", "_law_name"]) (sc := defScope s_l_listed) (by first | decide +kernel | kernel_rfl)) (fun _ _ _ _ _ => pg_name (i := 4) sc_l_listed.nd rfl (Or.inl rfl)) (fun _ _ _ _ _ => pts_nil) (fun _ _ _ _ _ => pe_op opAddB pe_str (pv 4))))) po_none (po_some (pe_ix ixAny (pe_lst (pa_cons pe_int (pa_cons pe_int (pa_cons pe_int (pa_cons pe_int pa_nil))))) (pe_cG c_l_take hr hG (by decide) rfl (pa_cons (pv 0) (pa_cons pe_int pa_nil))) (fun _ _ => rfl)))))
      (pss_one (ps_set (i := 1) sc_l_listed.nd rfl (Or.inl rfl) (pe_op opAdd (pv 1) (pe_lcO (pe_lc (own := [("_law_name", 7)]) rfl sc_l_listed.nd (piAny (pv 5)) (blkOk_by (own := [("_law_name", 7)]) (N := ["_law_bag_here", "_law_found", "_law_letters", "_law_manner", "_law_letter", "_law_some_here", "_law_one", "_law_name"]) (sc := defScope s_l_listed) (by first | decide +kernel | kernel_rfl)) (fun _ _ _ _ _ => pg_name (i := 7) sc_l_listed.nd rfl (Or.inl rfl)) (fun _ _ _ _ _ => pts_one (pt_cmpR (opNeB hr) (pv 7) (pe_ix ixAnyB (pv 5) (pe_op op_sub (pe_un un_neg pe_int) (pe_cG c_l_take hr hG (by decide) rfl (pa_cons (pv 0) (pa_cons pe_int pa_nil)))) (fun _ _ => rfl)) (nomark _))) (fun _ _ _ _ _ => pv 7)))))))) pss_nil)
      (pss_one (ps_ret (pe_op opAdd (pv 1) (pe_slice slAny (pe_lst (pa_cons pe_str (pa_cons pe_str (pa_cons pe_str pa_nil)))) po_none (po_some (pe_cG c_l_take hr hG (by decide) rfl (pa_cons (pv 0) (pa_cons pe_int pa_nil))))))))))))), ?_⟩
    refine ⟨_, rfl, _, rfl, b, 12, rfl, hb, by decide, by decide, fun H1 r r0 r1 e1 => ⟨b, r, rfl, hb.ex e1, r0, by omega, fun H2 p2 ns e2 n2 h2 hl2 _ hnm => ?_⟩⟩
    have e02 := e1.trans e2
    have tns : tx9 ns := fun z hz => (txS.nm (hnm z hz)).mono (by decide)
    refine .inr ⟨LET, rfl, by decide +kernel, fun l3 n3 => ?_⟩
    generalize hq3 : upd H2 l3 _ = H3
    obtain ⟨e3, h3⟩ := gen1 hq3 n3
    have h3 : H3 l3 = some (.lst (LT.map V.str)) := h3.trans (by unfold LT; rw [List.map_map]; rfl)
    have e03 := e02.trans e3
    refine ⟨_, rfl, b, 4, rfl, hb.ex e03, by decide, by decide, fun H4 m m0 m1 e4 => ?_⟩
    have e04 := e03.trans e4
    have h4 := e4 _ _ h3
    have ltl : (LT.map V.str).length ≤ 40000 := by rw [List.length_map, lt_len]; decide
    refine ⟨fun σ' H' => ∃ (p : Addr) (zs : List Str), σ' = [some (.ref b), some (.ref p), some (.ref l3), some (.int m), none, none, none, none] ∧ Ex H4 H' ∧ H' p = some (.lst (zs.map V.str)) ∧ zs.length ≤ 70 ∧ tx9 zs, ?_, ?_⟩
    · refine ⟨_, rfl, .inl ⟨rfl, _, rfl, ite2 (fun _ => ?_) (fun _ => ⟨p2, ns, rfl, Ex.refl _, (e3.trans e4) _ _ h2, by omega, tns⟩)⟩⟩
      refine ⟨_, rfl, _, rfl, .inl ⟨_, rfl, l3, rfl, ⟨_, sq_of h4⟩, ?_⟩⟩
      refine lcG (walk_list (xs := LT.map V.str)) ltl (sq_of h4) (fun _ _ e h => ex_l e h) yAt_ex (fun i ys _ => ∃ zs : List Str, ys = zs.map V.str ∧ zs.length = i ∧ tx9 zs) (fun _ _ _ _ _ h => h) ⟨[], rfl, rfl, fun z hz => by cases hz⟩ ?_ ?_
      · rintro i x H5 H6 ys hi e5 ⟨rfl, hx⟩ ⟨zs, rfl, hzl, hz9⟩ N N0 kN kN0
        obtain ⟨z, hz, rfl⟩ := str_at hx
        have tz := lt_ok (List.mem_of_getElem? hz)
        have ta : txS 1 ("a" : Str) := ⟨by decide +kernel, by decide +kernel⟩
        refine ⟨rfl, _, rfl, .inr (.inl ⟨_, _, rfl, rfl, ta.fit2 tz (by decide), kN _ _ (Ex.refl _) ⟨zs ++ [_], by rw [List.map_append]; rfl, by rw [List.length_append, hzl]; rfl, hz9.snoc ((ta.add tz).mono (by decide))⟩⟩)⟩
      · rintro D5 H5 ys hD5 e5 hD5' _ ⟨zs, rfl, hzl, hz9⟩
        rw [List.length_map, lt_len] at hzl
        refine .inr (.inr (.inl ⟨l3, D5, _, _, rfl, rfl, e5 _ _ h4, hD5', by rw [List.length_map, List.length_map, lt_len, hzl]; decide, fun l6 n6 => ?_⟩))
        generalize hq6 : upd H5 l6 _ = H6
        obtain ⟨e6, h6⟩ := gen1 hq6 n6
        rw [m_app] at h6
        have e46 := e5.trans e6
        refine ⟨_, rfl, b, 40, rfl, hb.ex (e04.trans e46), by decide, by decide, fun H7 r2 r20 r21 e7 => ⟨r2, rfl, .inl ⟨l6, _, rfl, sq_of (e7 _ _ h6), fun l8 n8 => ?_⟩⟩⟩
        generalize hq8 : upd H7 l8 _ = H8
        obtain ⟨e8, h8⟩ := gen1 hq8 n8
        rw [cut_nat _ r20] at h8
        have e48 := (e46.trans e7).trans e8
        have hl8 : ((LT ++ zs).take r2.toNat).length ≤ 52 := by rw [List.length_take, List.length_append, lt_len, hzl]; omega
        refine .inr (.inr (.inl ⟨p2, l8, _, _, rfl, rfl, (e3.trans (e4.trans e48)) _ _ h2, h8, by rw [List.length_map, List.length_map]; exact Nat.le_trans (show _ ≤ 64 by omega) (by decide), fun l9 n9 => ?_⟩))
        generalize hq9 : upd H8 l9 _ = H9
        obtain ⟨e9, h9⟩ := gen1 hq9 n9
        rw [m_app] at h9
        exact ⟨l9, _, rfl, e48.trans e9, h9, by rw [List.length_append]; omega, tns.app ((lt9.app hz9).take _)⟩
    · rintro σ' H5 ⟨p5, zs5, rfl, e5, h5, hl5, t5⟩
      have e05 := e04.trans e5
      have g5 := e5 _ _ h4
      refine ⟨fun σ' H' => ∃ (p : Addr) (zs : List Str) (x5 : Option V), σ' = [some (.ref b), some (.ref p), some (.ref l3), some (.int m), none, x5, none, none] ∧ Ex H5 H' ∧ H' p = some (.lst (zs.map V.str)) ∧ zs.length ≤ 798 ∧ tx9 zs, ?_, ?_⟩
      · refine ⟨_, rfl, .inl ⟨rfl, _, rfl, ite2 (fun _ => ?_) (fun _ => ⟨p5, zs5, _, rfl, Ex.refl _, h5, by omega, t5⟩)⟩⟩
        refine ⟨_, rfl, .inl ⟨_, rfl, l3, rfl, ⟨_, sq_of g5⟩, ?_⟩⟩
        refine lcL (walk_list (xs := LT.map V.str)) (sq_of g5) (fun _ _ e h => ex_l e h) yAt_ex ltl (fun Dl i ys H' => ∃ (as : List Addr) (yss : List (List V)) (zs : List Str), ys = as.map V.ref ∧ LsD Dl H' as yss ∧ yss.flatten = zs.map V.str ∧ zs.length = i * 26 ∧ tx9 zs)
          (fun Dl i ys H H' t x ⟨as, yss, zs, z1, z2, z3, z4, z5⟩ => ⟨as, yss, zs, z1, z2.mv x, z3, z4, z5⟩) (fun Dl => ⟨[], [], [], rfl, .nil, rfl, rfl, fun z hz => by cases hz⟩) ?_ ?_
        · rintro Dl i x H6 H7 ys hi e6 ⟨rfl, hx⟩ hD hDl ⟨as, yss, zs, rfl, z2, z3, z4, z5⟩ N N0 kN kN0
          obtain ⟨z, hz, rfl⟩ := str_at hx
          have tz := lt_ok (List.mem_of_getElem? hz)
          have g7 := e6 _ _ g5
          refine ⟨rfl, .inl ⟨_, rfl, l3, rfl, ⟨_, sq_of g7⟩, ?_⟩⟩
          refine lcG (walk_list (xs := LT.map V.str)) ltl (sq_of g7) (fun _ _ e h => ex_l e h) yAt_ex (fun i ys _ => ∃ zs : List Str, ys = zs.map V.str ∧ zs.length = i ∧ tx9 zs) (fun _ _ _ _ _ h => h) ⟨[], rfl, rfl, fun z hz => by cases hz⟩ ?_ ?_
          · rintro i2 x2 H8 H9 ys2 hi2 e8 ⟨rfl, hx2⟩ ⟨zs2, rfl, hzl2, hz92⟩ M M0 kM kM0
            obtain ⟨y, hy, rfl⟩ := str_at hx2
            have ty := lt_ok (List.mem_of_getElem? hy)
            refine ⟨rfl, _, rfl, _, rfl, .inr (.inl ⟨_, _, rfl, rfl, tz.fit2 ty (by decide), kM _ _ (Ex.refl _) ⟨zs2 ++ [_], by rw [List.map_append]; rfl, by rw [List.length_append, hzl2]; rfl, hz92.snoc ((tz.add ty).mono (by decide))⟩⟩)⟩
          · rintro D8 H8 ys8 hD8 e8 hD8' _ ⟨zs8, rfl, hzl8, hz98⟩
            rw [List.length_map, lt_len] at hzl8
            have nD : D8 ≠ Dl := fun z => by rw [z, hDl] at hD8; cases hD8
            refine kN _ _ e8 ⟨as ++ [D8], yss ++ [zs8.map V.str], zs ++ zs8, by rw [List.map_append]; rfl, Paired.snoc (z2.mv fun a o _ h => e8 a o h) ⟨nD, hD8'⟩, ?_, by rw [List.length_append, z4, hzl8]; omega, z5.app hz98⟩
            rw [List.flatten_append, z3, ← m_app]
            show _ ++ (_ ++ []) = _
            rw [List.append_nil]
        rintro D6 H6 ys6 hD6 e6 hD6' _ ⟨as, yss, zs, rfl, z2, z3, z4, z5⟩
        rw [List.length_map, lt_len] at z4
        refine ⟨by show 0 ≤ sizeLine; decide, fun e0 n0 => ?_⟩
        generalize hq7 : upd H6 e0 _ = H7
        obtain ⟨e7, h7⟩ := gen1 hq7 n0
        refine ⟨D6, e0, as, yss, rfl, sq_of (e7 _ _ hD6'), h7, z2.ex e7, by rw [z3, List.length_map, z4]; decide, fun p8 H8 e8 h8 => ?_⟩
        rw [z3] at h8
        have e58 := (e6.trans e7).trans e8
        refine .inr (.inr (.inl ⟨l3, p8, _, _, rfl, rfl, e58 _ _ g5, h8, by rw [List.length_map, List.length_map, lt_len, z4]; decide, fun l9 n9 => ?_⟩))
        generalize hq9 : upd H8 l9 _ = H9
        obtain ⟨e9, h9⟩ := gen1 hq9 n9
        rw [m_app] at h9
        have e59 := e58.trans e9
        have g9 := e59 _ _ g5
        -- some_here, cut
        refine ⟨_, rfl, .inl ⟨_, rfl, l3, rfl, ⟨_, sq_of g9⟩, ?_⟩⟩
        refine lcG (walk_list (xs := LT.map V.str)) ltl (sq_of g9) (fun _ _ e h => ex_l e h) yAt_ex (fun i ys _ => ∃ zs : List Str, ys = zs.map V.str ∧ zs.length = i ∧ tx9 zs) (fun _ _ _ _ _ h => h) ⟨[], rfl, rfl, fun z hz => by cases hz⟩ ?_ ?_
        · rintro i x H10 H11 ys hi e10 ⟨rfl, hx⟩ ⟨zs2, rfl, hzl, hz9⟩ N N0 kN kN0
          obtain ⟨z, hz, rfl⟩ := str_at hx
          have tz := lt_ok (List.mem_of_getElem? hz)
          have ta : txS 2 ("aa" : Str) := ⟨by decide +kernel, by decide +kernel⟩
          refine ⟨rfl, _, rfl, .inr (.inl ⟨_, _, rfl, rfl, ta.fit2 tz (by decide), kN _ _ (Ex.refl _) ⟨zs2 ++ [_], by rw [List.map_append]; rfl, by rw [List.length_append, hzl]; rfl, hz9.snoc ((ta.add tz).mono (by decide))⟩⟩)⟩
        rintro D10 H10 ys10 hD10 e10 hD10' _ ⟨zs10, rfl, hzl10, hz910⟩
        rw [List.length_map, lt_len] at hzl10
        refine .inr (.inr (.inl ⟨l9, D10, _, _, rfl, rfl, e10 _ _ h9, hD10', by rw [List.length_map, List.length_map, List.length_append, lt_len, z4, hzl10]; decide, fun l11 n11 => ?_⟩))
        generalize hq11 : upd H10 l11 _ = H11
        obtain ⟨e11, h11⟩ := gen1 hq11 n11
        rw [m_app] at h11
        have e511 := (e59.trans e10).trans e11
        refine ⟨by show 4 ≤ sizeLine; decide, fun l12 n12 => ?_⟩
        generalize hq12 : upd H11 l12 _ = H12
        obtain ⟨e12, h12⟩ := gen1 hq12 n12
        refine ⟨_, rfl, b, 4, rfl, hb.ex (e05.trans (e511.trans e12)), by decide, by decide, fun H13 r3 r30 r31 e13 => ?_⟩
        obtain ⟨c, c4, hc⟩ := four_cut r30 r31
        refine .inl ⟨l12, _, r3, _, rfl, rfl, sq_of (e13 _ _ h12), hc, (c : Int), rfl, .inl ⟨l11, _, rfl, sq_of ((e12.trans e13) _ _ h11), fun l14 n14 => ?_⟩⟩
        generalize hq14 : upd H13 l14 _ = H14
        obtain ⟨e14, h14⟩ := gen1 hq14 n14
        rw [cut_nat _ (Int.natCast_nonneg c), Int.toNat_natCast] at h14
        have e514 := ((e511.trans e12).trans e13).trans e14
        obtain ⟨ws, hws⟩ : ∃ ws, (LT ++ zs ++ zs10).take c = ws := ⟨_, rfl⟩
        have wl : 400 ≤ ws.length ∧ ws.length ≤ 728 := by
          rw [← hws, List.length_take, List.length_append, List.length_append, lt_len, z4, hzl10]
          omega
        have w9 : tx9 ws := by
          rw [← hws]
          exact ((lt9.app z5).app hz910).take _
        rw [hws] at h14
        -- found
        refine ⟨_, rfl, .inl ⟨_, rfl, l14, rfl, ⟨_, sq_of h14⟩, ?_⟩⟩
        refine lcG (walk_list (xs := ws.map V.str)) (by rw [List.length_map]; omega) (sq_of h14) (fun _ _ e h => ex_l e h) yAt_ex (fun i ys _ => ∃ zs : List Str, ys = zs.map V.str ∧ tx9 zs) (fun _ _ _ _ _ h => h) ⟨[], rfl, fun z hz => by cases hz⟩ ?_ ?_
        · rintro i x H15 H16 ys hi e15 ⟨rfl, hx⟩ ⟨zs2, rfl, hz9⟩ N N0 kN kN0
          obtain ⟨z, hz, rfl⟩ := str_at hx
          refine ⟨rfl, _, rfl, _, rfl, 1, rfl, _, rfl, b, 90, rfl, hb.ex ((e05.trans e514).trans e15), by decide, by decide, fun H17 r4 r40 r41 e17 => ⟨_, _, rfl, rfl, ?_⟩⟩
          obtain ⟨k, rfl⟩ : ∃ k : Nat, r4 = (k : Int) := ⟨r4.toNat, by omega⟩
          obtain ⟨v, hv, ha⟩ := atI_back (xs := ws.map V.str) (k := k) (by rw [List.length_map]; omega)
          obtain ⟨y, hy, rfl⟩ := List.mem_map.mp hv
          refine .inl ⟨l14, _, _, _, rfl, rfl, sq_of ((e15.trans e17) _ _ h14), ha, .inl ⟨rfl, _, rfl, ite2 (fun _ => ?_) (fun _ => ?_)⟩⟩
          · exact ⟨_, rfl, kN _ _ e17 ⟨zs2 ++ [z], by rw [List.map_append]; rfl, hz9.snoc (w9 z (List.mem_of_getElem? hz))⟩⟩
          · exact kN0 _ e17 ⟨zs2, rfl, hz9⟩
        rintro D15 H15 ys15 hD15 e15 hD15' hl15 ⟨zs15, rfl, hz915⟩
        rw [List.length_map, List.length_map] at hl15
        refine .inr (.inr (.inl ⟨p5, D15, _, _, rfl, rfl, (e514.trans e15) _ _ h5, hD15', by rw [List.length_map, List.length_map]; exact Nat.le_trans (show _ ≤ 798 by omega) (by decide), fun l16 n16 => ?_⟩))
        generalize hq16 : upd H15 l16 _ = H16
        obtain ⟨e16, h16⟩ := gen1 hq16 n16
        rw [m_app] at h16
        exact ⟨l16, _, _, rfl, (e514.trans e15).trans e16, h16, by rw [List.length_append]; omega, t5.app hz915⟩
      · rintro σ' H6 ⟨p6, zs6, x5, rfl, e6, h6, hl6, t6⟩
        refine ⟨_, rfl, by show 3 ≤ sizeLine; decide, fun l7 n7 => ?_⟩
        generalize hq7 : upd H6 l7 _ = H7
        obtain ⟨e7, h7⟩ := gen1 hq7 n7
        refine ⟨_, rfl, b, 4, rfl, hb.ex ((e05.trans e6).trans e7), by decide, by decide, fun H8 r5 r50 r51 e8 => ⟨r5, rfl, .inl ⟨l7, _, rfl, sq_of (e8 _ _ h7), fun l9 n9 => ?_⟩⟩⟩
        generalize hq9 : upd H8 l9 _ = H9
        obtain ⟨e9, h9⟩ := gen1 hq9 n9
        rw [show [V.str "", V.str "A", V.str "a b"] = (["", "A", "a b"] : List Str).map V.str from rfl, cut_nat _ r50] at h9
        have t3 : tx9 (["", "A", "a b"] : List Str) := fun z hz => by
          have t : ((["", "A", "a b"] : List Str).all fun z => lay z && decide (z.length ≤ 9)) = true := by decide +kernel
          have q := List.all_eq_true.mp t z hz
          rw [Bool.and_eq_true, decide_eq_true_eq] at q
          exact q
        have e69 := (e7.trans e8).trans e9
        have l3' : ((["", "A", "a b"] : List Str).take r5.toNat).length ≤ 2 + 1 := by rw [List.length_take]; exact Nat.min_le_right _ _
        refine .inr (.inr (.inl ⟨p6, l9, _, _, rfl, rfl, e69 _ _ h6, h9, by rw [List.length_map, List.length_map]; exact Nat.le_trans (show _ ≤ 801 by omega) (by decide), fun l10 n10 => ?_⟩))
        generalize hq10 : upd H9 l10 _ = H10
        obtain ⟨e10, h10⟩ := gen1 hq10 n10
        rw [m_app] at h10
        exact q H10 l10 _ ((e05.trans e6).trans (e69.trans e10)) h10 (by rw [List.length_append]; omega) (t6.app (t3.take _))
def spFR : Sp := fun vs H Q _ => ∃ (p : Addr) (zs : List Str) (n : Nat), vs = [.ref p, .str (nmN n)] ∧ H p = some (.lst (zs.map V.str)) ∧ zs.length ≤ 1000 ∧ FrN zs n ∧ tx9 zs ∧ ∀ H', Ex H H' → Q (.bl true) H'
theorem ok_fresh_right (T : Txt0 mg) (TZ : TxtZ mg) (D : Df K mg "_law_fresh_right" s_l_fresh_right) (c_l_is_name : CalG P w K mg base 1 "_law_is_name" (spIs nmD)) (c_l_rank : CalG P w K mg base 1 "_law_rank" spRank) : CalG P w K mg base 2 "_law_fresh_right" spFR := by
  refine cal_mk D sc_l_fresh_right (fun _ _ _ _ _ _ us hl => match us, hl with | [_, _], _ => rfl) (fun vs H Q E h => ?_) (fun f cdv A outer s H vs Q E hr hG h => ?_)
  · obtain ⟨p, zs, n, rfl, _⟩ := h
    rfl
  · obtain ⟨p, zs, n, rfl, hp, hl, fn, t9, q⟩ := h
    refine ⟨_, (pss_cons (ps_if (PW.pt (pw_or (pt_not (pt_val (pe_cG c_l_is_name hr hG (by decide) rfl (pa_cons (pv 1) pa_nil)))) (pw_or1 (pt_cmpR opIn (pv 1) (pv 0) rfl)))) (pss_one (ps_ret pe_bl)) pss_nil)
      (pss_cons (ps_setLcO (ps_setLc (i := 2) (own := [("_law_name", 3)]) rfl sc_l_fresh_right.nd rfl rfl (sw_true rfl rfl rfl (by decide +kernel)) (piAny (pe_callB (cr_sortX rfl) (by rfl) TZ.sorted (by decide +kernel) (pa_cons (pe_callTy (cr_setX rfl) (by rfl) TZ.set (by decide +kernel) (pa_cons (pv 0) pa_nil)) pa_nil))) (blkOk_by (own := [("_law_name", 3)]) (N := ["_law_labels", "_law_tells", "_law_known", "_law_name"]) (sc := defScope s_l_fresh_right) (by first | decide +kernel | kernel_rfl)) (fun _ _ _ _ _ => pg_name (i := 3) sc_l_fresh_right.nd rfl (Or.inl rfl)) (fun _ _ _ _ _ => pts_one (PW.pt (pw_and (pt_val (pe_cG c_l_is_name hr hG (by decide) rfl (pa_cons (pv 3) pa_nil))) (pw_and1 (pt_cmpR opLt (pe_cG c_l_rank hr hG (by decide) rfl (pa_cons (pv 3) pa_nil)) (pe_cG c_l_rank hr hG (by decide) rfl (pa_cons (pv 1) pa_nil)) (nomark _)))))) (fun _ _ _ _ _ => pv 3)))
      (pss_one (ps_ret (pe_cmpR (opEq hr) (pe_callB callLen (by rfl) T.len PySem.boot_len (pa_cons (pv 2) pa_nil)) (pe_cG c_l_rank hr hG (by decide) rfl (pa_cons (pv 1) pa_nil)) (nomark _)))))), ?_⟩
    have hn := fn.le
    have nm := nmN_nm (k := n) (by omega)
    have okS : ∀ {m : Nat} {z : Str}, txS m z → m ≤ 1000 → okD 40 16000000 (.str z) := fun {m z} h hm => (okD_str (L := 1000) h.1 (Nat.le_trans h.2 hm)).mono (by decide) (by decide)
    refine ⟨_, rfl, .str (nmN n), .str (nmN n), rfl, .str _, okS (txS.nm nm) (by decide), fun H1 e1 => ?_⟩
    refine ⟨true, by rw [show nmD (.str (nmN n)) = true from nm], iteF ?_⟩
    refine ⟨_, rfl, _, rfl, .inl ⟨p, _, rfl, .inl (sq_of (e1 _ _ hp)), rfl, flat_strs _, ?_⟩⟩
    rw [in_strs, decide_eq_false fn.no]
    refine ⟨_, rfl, iteF ?_⟩
    have hp1 := e1 _ _ hp
    refine .inl ⟨_, rfl, p, zs, rfl, sq_of hp1, by omega, fun sa sl c1 c2 nsa => ?_⟩
    generalize hq2 : upd H1 sa _ = H2
    obtain ⟨e2, h2⟩ := gen1 hq2 nsa
    refine ⟨sa, sl, rfl, h2, by omega, fun p3 ns so yl np3 => ?_⟩
    generalize hq3 : upd H2 p3 _ = H3
    obtain ⟨e3, h3⟩ := gen1 hq3 np3
    have mem : ∀ z, z ∈ ns ↔ z ∈ zs := fun z => (so.me z).trans (c2 z)
    have cnt := count_names so.nd (n := n) (fun k hk => (mem _).mpr (fn.lo k hk)) (by omega)
    have rkn : rkF (TL.tl (nmN n)) = n + 1 := by rw [show TL.tl (nmN n) = numL (n + 1) from tl_mk _, rk_num]
    refine ⟨p3, rfl, ⟨_, sq_of h3⟩, ?_⟩
    refine lcG (walk_list (xs := ns.map V.str)) (by rw [List.length_map]; omega) (sq_of h3) (fun _ _ e h => ex_l e h) yAt_ex (fun i ys _ => ys = ((ns.take i).filter fun z => isNm z && decide (rkS z < n)).map V.str) (fun _ _ _ _ _ h => h) rfl ?_ ?_
    · rintro i x H4 H5 ys hi e4 ⟨rfl, hx⟩ rfl N N0 kN kN0
      obtain ⟨z, hz, rfl⟩ := str_at hx
      have tz := t9 z ((mem z).mp (List.mem_of_getElem? hz))
      have step : (ns.take (i + 1)).filter (fun z => isNm z && decide (rkS z < n)) = (ns.take i).filter (fun z => isNm z && decide (rkS z < n)) ++ (if (isNm z && decide (rkS z < n)) = true then [z] else []) := by
        rw [tk hz, List.filter_append]
        congr 1
        cases hb : (isNm z && decide (rkS z < n)) <;> simp [hb]
      refine ⟨rfl, _, rfl, .str z, .str z, rfl, .str _, okS tz (by decide), fun H6 e6 => ⟨_, rfl, ?_⟩⟩
      cases hnz : isNm z with
      | false =>
        rw [show nmD (.str z) = false from hnz]
        refine iteF (iteF (kN0 _ e6 ?_))
        rw [step, hnz, Bool.false_and]
        simp
      | true =>
        rw [show nmD (.str z) = true from hnz]
        refine iteT ⟨_, rfl, z, rfl, hnz, fun H7 e7 => ⟨_, rfl, nmN n, rfl, nm, fun H8 e8 => ⟨_, _, rfl, rfl, _, rfl, ?_⟩⟩⟩
        have z1 := rkF_pos (nm_parts hnz).1
        have ed : decide ((rkF (TL.tl z) : Int) - 1 < (rkF (TL.tl (nmN n)) : Int) - 1) = decide (rkS z < n) := by
          rw [rkn]
          have e : rkS z = rkF (TL.tl z) - 1 := rfl
          by_cases h : rkS z < n
          · rw [decide_eq_true h, decide_eq_true (by omega)]
          · rw [decide_eq_false h, decide_eq_false (by omega)]
        rw [ed]
        refine ite2 (fun h => ?_) (fun h => ?_)
        · refine ⟨_, rfl, kN _ _ ((e6.trans e7).trans e8) ?_⟩
          rw [step, hnz, Bool.true_and, h, List.map_append]
          rfl
        · refine kN0 _ ((e6.trans e7).trans e8) ?_
          rw [step, hnz, Bool.true_and, show decide (rkS z < n) = false from by simpa using h]
          simp
    rintro D4 H4 ys4 hD4 e4 hD4' hl4 rfl
    rw [show (ns.map V.str).length = ns.length from List.length_map .., List.take_length] at hD4'
    refine ⟨_, rfl, .inl ⟨D4, _, rfl, .inl (sq_of hD4'), _, rfl, nmN n, rfl, nm, fun H5 e5 => .inl ⟨rfl, ?_⟩⟩⟩
    rw [List.length_map, cnt, rkn, show (((n + 1 : Nat) : Int) - 1) = (n : Int) from by omega, decide_eq_true rfl]
    exact q _ ((e1.trans e2).trans ((e3.trans e4).trans e5))
end
end Own

namespace Own
open PySem PySem.Spec PyProof.Rows L2 Evl
mutual
theorem Da.dp {K : PySem.W.Frag} {H : Hp} : ∀ (d : PyData) {v : V}, d.canLay0 = true → Da H v d → Dp K H v d
  | .none, _, _, h => by cases h; exact .non
  | .bool _, _, _, h => by cases h; exact .bl _
  | .int _, _, _, h => by cases h; exact .int _
  | .str _, _, _, h => by cases h; exact .str _
  | .list ds, _, q, h => by
    cases h with
    | lst h1 h2 => exact .lst (sq_of h1) (DaAll.dp ds q h2)
  | .tuple ds, _, q, h => by
    cases h with
    | tup h1 h2 => exact .tup (st_of h1) (DaAll.dp ds q h2)
  | .dict _, _, q, h => by cases q
theorem DaAll.dp {K : PySem.W.Frag} {H : Hp} : ∀ (ds : List PyData) {vs : List V}, PyData.canLayAll0 ds = true → DaAll H vs ds → DpAll K H vs ds
  | [], _, _, h => by cases h; exact .nil
  | d :: ds, _, q, h => by
    have q' : (d.canLay0 && PyData.canLayAll0 ds) = true := q
    rw [Bool.and_eq_true] at q'
    cases h with
    | cons h1 h2 => exact .cons (Da.dp d q'.1 h1) (DaAll.dp ds q'.2 h2)
end
/-- data within bounds, without dicts -/
def okN (n W : Nat) (d : PyData) : Prop := okD n W d ∧ d.canLay0 = true
theorem okN.mono {n W n' W' : Nat} {d : PyData} (h : okN n W d) (h1 : n ≤ n') (h2 : W ≤ W') : okN n' W' d := ⟨h.1.mono h1 h2, h.2⟩
theorem lay_all {ds : List PyData} (h : ∀ d ∈ ds, d.canLay0 = true) : PyData.canLayAll0 ds = true := by
  induction ds with
  | nil => rfl
  | cons d ds ih =>
    show (d.canLay0 && PyData.canLayAll0 ds) = true
    rw [h d List.mem_cons_self, ih fun x hx => h x (List.mem_cons_of_mem _ hx)]
    rfl
theorem okN_tup {n W : Nat} {ds : List PyData} (h : ∀ d ∈ ds, okN n W d) {m : Nat} (hm : ds.length ≤ m) : okN (n + 1) (m * (W + 2) + 3) (.tuple ds) := ⟨okD_tup (fun d hd => (h d hd).1) hm, lay_all fun d hd => (h d hd).2⟩
theorem okN_list {n W : Nat} {ds : List PyData} (h : ∀ d ∈ ds, okN n W d) {m : Nat} (hm : ds.length ≤ m) : okN (n + 1) (m * (W + 2) + 3) (.list ds) := ⟨okD_list (fun d hd => (h d hd).1) hm, lay_all fun d hd => (h d hd).2⟩
theorem okN_str {z : Str} {L : Nat} (h : lay z = true) (hl : z.length ≤ L) : okN 0 (10 * L + 5) (.str z) := ⟨okD_str h hl, h⟩
theorem okN_nm {z : Str} (h : isNm z = true) : okN 0 85 (.str z) := okN_str (L := 8) (nm_ok h) (nm_len h)
theorem okN_nat {n : Nat} (h : n ≤ 1000) : okN 0 1921 (.int (n : Int)) := by
  refine ⟨⟨?_, Nat.le_refl _, Nat.le_refl _⟩, rfl⟩
  have z : ((List.range 1001).all fun n => gD (.int (n : Int))) = true := by decide +kernel
  exact List.all_eq_true.mp z n (List.mem_range.mpr (by omega))
abbrev s_l_alike : Stmt := top 14
theorem sc_l_alike : FnScope ["_law_found", "_law_due"] ["_law_found", "_law_due"] (defScope s_l_alike) := ⟨rfl, rfl, rfl, by decide +kernel, rfl, by decide +kernel, by decide +kernel⟩
/-- two things that are alike -/
def AlkP (H : Hp) (x y : V) : Prop := ∃ d, Da H x d ∧ Da H y d ∧ okD 40 16000000 d ∧ (d.canLay0 = true ∨ ∃ (t t' : Addr) (xs : List V), x = .ref t ∧ y = .ref t' ∧ H t = some (.tup xs) ∧ H t' = some (.tup xs) ∧ xs.all plV = true)
section
variable {P : Program} {w : World} {K : PySem.W.Frag} {mg : Str → Option Value} {base : Heap}
def spAlk : Sp := fun vs H Q _ => ∃ x y, vs = [x, y] ∧ AlkP H x y ∧ Q (.bl true) H
theorem ok_alk (T : Txt0 mg) (hsys : SysAt base) (D : Df K mg "_law_alike" s_l_alike) : CalG P w K mg base 1 "_law_alike" spAlk := by
  refine cal_mk D sc_l_alike (fun _ _ _ _ _ _ us hl => match us, hl with | [_, _], _ => rfl) (fun vs H Q E h => ?_) (fun f cdv A outer s H vs Q E hr hG h => ?_)
  · obtain ⟨x, y, rfl, _⟩ := h
    rfl
  · obtain ⟨x, y, rfl, ⟨d, h1, h2, ok, hc⟩, q⟩ := h
    refine ⟨_, (pss_one (ps_ret (pe_and (pe_cmpR (opEqX hr) (pv 0) (pv 1) (nomark _)) (pe_one (pe_cmpR (opEq hr) (pe_callB (callReprX hsys hG hr) (by rfl) T.repr (by decide +kernel) (pa_cons (pv 0) pa_nil)) (pe_callB (callReprX hsys hG hr) (by rfl) T.repr (by decide +kernel) (pa_cons (pv 1) pa_nil)) (nomark _)))))), ?_⟩
    refine ⟨_, rfl, _, rfl, ?_⟩
    rcases hc with hc | ⟨t, t', xs, rfl, rfl, z1, z2, hp⟩
    · have shp : SeqAt.shaped d = true := by
        unfold SeqAt.shaped
        rw [hc, Bool.true_and]
        exact decide_eq_true (Nat.le_trans ok.2.1 (by decide))
      refine .inl (.inr ⟨d, d, Da.dp d hc h1, Da.dp d hc h2, shp, shp, ?_⟩)
      rw [PySem.SeqAt.eqv_refl d hc]
      refine ⟨true, rfl, iteT ?_⟩
      refine ⟨_, rfl, x, d, rfl, h1, ok, ?_⟩
      refine ⟨_, rfl, y, d, rfl, h2, ok, ?_⟩
      refine .inl ⟨rfl, ?_⟩
      rw [decide_eq_true rfl]
      exact q
    · refine .inr ⟨t, t', xs, rfl, rfl, st_of z1, st_of z2, hp, ?_⟩
      refine ⟨true, rfl, iteT ?_⟩
      refine ⟨_, rfl, .ref t, d, rfl, h1, ok, ?_⟩
      refine ⟨_, rfl, .ref t', d, rfl, h2, ok, ?_⟩
      refine .inl ⟨rfl, ?_⟩
      rw [decide_eq_true rfl]
      exact q
end
abbrev s_law : Stmt := top 23
theorem sc_law : FnScope ["_law_script", "_law_bag_here", "_law_spin", "_law_word", "_law_thing", "_law_due", "_law_some_here", "_law_again", "_law_labels", "_law_shown"] ["_law_script"] (defScope s_law) := ⟨rfl, rfl, rfl, by decide +kernel, rfl, by decide +kernel, by decide +kernel⟩
theorem call_isiB2 {X : Cx} {s : Shared} {H : Hp} {sc : Scope} {ce : Env} {fp : List Addr} : CallR (X.blk s H sc ce fp) (.builtin "isinstance") (rIsi X.K) := call_isi
def W6 : List Str := ["eq", "lt", "gt", "goal", "book", "abcdefgh"]
theorem w6_nm {z : Str} (h : z ∈ W6) : isNm z = true := by
  have t : (W6.all isNm) = true := by decide +kernel
  exact List.all_eq_true.mp t z h
theorem isint_and {K : PySem.W.Frag} {σ : L2.St} {H : Hp} {Q : VK} {i : Nat} {x : V} {d : PyData} (hs : σ[i]? = some (some x)) (hd : Da H x d) (q : Q (.bl (intD d)) H) :
    tAndV (tCB (rIsi K) (tCons (tVar i) (tCons (tC (.ty "int")) tNil))) (tNotV (tCB (rIsi K) (tCons (tVar i) (tCons (tC (.ty "bool")) tNil)))) σ H Q := by
  refine ⟨_, hs, x, .ty "int", _, _, _, rfl, .ty _, hd.ty, kit_ty (kit_int d), _, rfl, ?_⟩
  cases hi : isIntD d with
  | false =>
    refine iteF ?_
    have e : intD d = false := by cases d <;> first | rfl | cases hi
    rw [← e]
    exact q
  | true =>
    refine iteT ⟨_, hs, x, .ty "bool", _, _, _, rfl, .ty _, hd.ty, kit_ty (kit_bool d), _, rfl, ?_⟩
    have e : (!isBoolD d) = intD d := by cases d <;> first | rfl | cases hi
    rw [e]
    exact q
theorem bools4 (a b c e : Bool) : okN 6 5000 (.list [.bool a, .bool b, .bool c, .bool e]) := by
  refine (okN_list (n := 0) (W := 5) (m := 4) (fun d hd => ?_) (Nat.le_refl _)).mono (by decide) (by decide)
  simp only [List.mem_cons, List.not_mem_nil, or_false] at hd
  rcases hd with rfl | rfl | rfl | rfl <;> exact ⟨⟨rfl, Nat.le_refl _, Nat.le_refl _⟩, rfl⟩
theorem strs_daL {H : Hp} : ∀ zs : List Str, DaAll H (zs.map V.str) (zs.map PyData.str)
  | [] => .nil
  | z :: zs => .cons (.str z) (strs_daL zs)
section
variable {P : Program} {w : World} {K : PySem.W.Frag} {mg : Str → Option Value} {base : Heap} {rel : Addr}
def spLaw (K : PySem.W.Frag) : Sp := fun vs H Q _ => ∃ (a : Addr) (ns : List Int), vs = [.ref a] ∧ SqL K H a (ns.map V.int) ∧ ns.length ≤ 63 ∧ ∀ H', Q (.bl true) H'
theorem ok_law {fl : Addr} {fdl : FuncData} (T : Txt0 mg) (hsys : SysAt base) (TI : TxtI K mg rel) (F : Fun K "law" "law" s_law fl fdl) (c_l_bag : CalG P w K mg base 1 "_law_bag" (spBag K)) (c_l_names : CalG P w K mg base 2 "_law_names" spNames) (c_l_some : CalG P w K mg base 2 "_law_some" (spSome K)) (c_l_near : CalG P w K mg base 3 "_law_near" spNear)
    (c_l_odd : CalG P w K mg base 3 "_law_odd" spOdd) (c_l_is_name : CalG P w K mg base 1 "_law_is_name" (spIs nmD)) (c_is_integer : CalG P w K mg base 1 "is_integer" (spIs intD)) (c_is_name : CalG P w K mg base 1 "is_name" (spIs nmD)) (c_is_relation : CalG P w K mg base 1 "is_relation" (spIs relD))
    (c_is_home : CalG P w K mg base 1 "is_home" (spIs homD)) (c_l_alike : CalG P w K mg base 1 "_law_alike" spAlk) (c_l_listed : CalG P w K mg base 3 "_law_listed" spListed) (c_fresh : CalG P w K mg base 2 "fresh" spFresh) (c_l_fresh_right : CalG P w K mg base 2 "_law_fresh_right" spFR) :
    FnG P w K mg base 8 fl fdl ["_law_script"] (spLaw K) := by
  refine fn_mk F sc_law (fun vs H Q E h => ?_) (fun cdv A outer s H vs Q E hr hG h => ?_)
  · obtain ⟨a, ns, rfl, _⟩ := h
    rfl
  · obtain ⟨a0, ms, rfl, ha0, hl, q⟩ := h
    refine ⟨_, (pss_cons (ps_set (i := 1) sc_law.nd rfl (Or.inl rfl) (pe_cG c_l_bag hr hG (by decide) rfl (pa_cons (pv 0) pa_nil)))
      (pss_cons (ps_forO (ps_for PassesOwn.never rfl (pi_range1 rfl T.range (pa_cons pe_int pa_nil)) (pg_name (i := 2) sc_law.nd rfl (Or.inl rfl))
        (pss_cons (ps_set (i := 3) sc_law.nd rfl (Or.inl rfl) (pe_cG c_l_some hr hG (by decide) rfl (pa_cons (pv 1) (pa_cons (pe_op opAdd (pe_cG c_l_names hr hG (by decide) rfl (pa_cons (pv 1) (pa_cons pe_int pa_nil))) (pe_lst (pa_cons pe_str (pa_cons pe_str (pa_cons pe_str (pa_cons pe_str (pa_cons pe_str (pa_cons pe_str pa_nil)))))))) pa_nil))))
      (pss_cons (ps_forO (ps_for PassesOwn.never rfl (piAny (pe_tup (pa_cons (pe_cG c_l_near hr hG (by decide) rfl (pa_cons (pv 1) (pa_cons (pv 3) pa_nil))) (pa_cons (pv 3) (pa_cons (pe_cG c_l_odd hr hG (by decide) rfl (pa_cons (pv 1) pa_nil)) (pa_cons (pe_lst (pa_cons (pv 3) pa_nil)) (pa_cons (pe_tup (pa_cons (pv 3) pa_nil)) (pa_cons pe_int (pa_cons pe_int (pa_cons pe_bl pa_nil)))))))))) (pg_name (i := 4) sc_law.nd rfl (Or.inr rfl))
        (pss_cons (ps_set (i := 5) sc_law.nd rfl (Or.inl rfl) (pe_lst (pa_cons (pe_and (pe_callB call_isi (by rfl) TI.isinstance (by decide +kernel) (pa_cons (pv 4) (pa_cons (pe_bltn (v := .ty "int") (by rfl) T.int (by decide +kernel) rfl) pa_nil))) (pe_one (pe_not (pe_callB call_isi (by rfl) TI.isinstance (by decide +kernel) (pa_cons (pv 4) (pa_cons (pe_bltn (v := .ty "bool") (by rfl) TI.bool (by decide +kernel) rfl) pa_nil)))))) (pa_cons (pe_cG c_l_is_name hr hG (by decide) rfl (pa_cons (pv 4) pa_nil)) pa_nil))))
      (pss_cons (ps_set (i := 5) sc_law.nd rfl (Or.inl rfl) (pe_op opAdd (pv 5) (pe_lcO (pe_lc (own := [("_law_some_here", 6)]) rfl sc_law.nd (piAny (pe_tup (pa_cons (pe_tup (pa_cons pe_str (pa_cons pe_str (pa_cons pe_str pa_nil)))) (pa_cons (pe_tup (pa_cons pe_str (pa_cons pe_str pa_nil))) pa_nil)))) (blkOk_by (own := [("_law_some_here", 6)]) (N := ["_law_script", "_law_bag_here", "_law_spin", "_law_word", "_law_thing", "_law_due", "_law_some_here", "_law_again", "_law_labels", "_law_shown"]) (sc := defScope s_law) (by first | decide +kernel | kernel_rfl)) (fun _ _ _ _ _ => pg_name (i := 6) sc_law.nd rfl (Or.inl rfl)) (fun _ _ _ _ _ => pts_nil) (fun _ _ _ _ _ => (pe_and (pe_callB call_isiB (by rfl) TI.isinstance (by decide +kernel) (pa_cons (pv 4) (pa_cons (pe_bltn (v := .ty "str") (by rfl) TI.str (by decide +kernel) rfl) pa_nil))) (pe_one (pe_cmpR opInB (pv 4) (pv 6) rfl))))))))
      (pss_one (ps_forO (ps_for PassesOwn.never rfl (pi_range1 rfl T.range (pa_cons pe_int pa_nil)) (pg_name (i := 7) sc_law.nd rfl (Or.inl rfl))
        (pss_one (ps_if (pt_not (pt_val (pe_cG c_l_alike hr hG (by decide) rfl (pa_cons (pe_lst (pa_cons (pe_cG c_is_integer hr hG (by decide) rfl (pa_cons (pv 4) pa_nil)) (pa_cons (pe_cG c_is_name hr hG (by decide) rfl (pa_cons (pv 4) pa_nil)) (pa_cons (pe_cG c_is_relation hr hG (by decide) rfl (pa_cons (pv 4) pa_nil)) (pa_cons (pe_cG c_is_home hr hG (by decide) rfl (pa_cons (pv 4) pa_nil)) pa_nil))))) (pa_cons (pv 5) pa_nil))))) (pss_one (ps_ret pe_bl)) pss_nil)))))))))
      (pss_cons (ps_set (i := 8) sc_law.nd rfl (Or.inl rfl) (pe_cG c_l_listed hr hG (by decide) rfl (pa_cons (pv 1) pa_nil)))
      (pss_cons (ps_set (i := 9) sc_law.nd rfl (Or.inl rfl) (pe_callB (callReprX hsys hG hr) (by rfl) T.repr (by decide +kernel) (pa_cons (pv 8) pa_nil)))
      (pss_one (ps_if (PW.pt (pw_or (pt_not (pt_val (pe_cG c_l_fresh_right hr hG (by decide) rfl (pa_cons (pv 8) (pa_cons (pe_cG c_fresh hr hG (by decide) rfl (pa_cons (pv 8) pa_nil)) pa_nil))))) (pw_or (pt_cmpR (opNe hr) (pe_cG c_fresh hr hG (by decide) rfl (pa_cons (pv 8) pa_nil)) (pe_cG c_fresh hr hG (by decide) rfl (pa_cons (pe_revL (pv 8)) pa_nil)) (nomark _)) (pw_or1 (pt_cmpR (opNe hr) (pe_callB (callReprX hsys hG hr) (by rfl) T.repr (by decide +kernel) (pa_cons (pv 8) pa_nil)) (pv 9) (nomark _)))))) (pss_one (ps_ret pe_bl)) pss_nil))))))))
      (pss_one (ps_ret pe_bl)))), ?_⟩
    refine ⟨_, rfl, a0, ms, rfl, ha0, hl, fun H1 b e1 hb => ?_⟩
    refine ⟨12, rfl, by decide, by decide, ?_⟩
    refine frG (walk_range (lo := 0) (n := 12)) (fun i σ H' => ∃ (x2 x3 x4 x5 x6 x7 x8 x9 : Option V), σ = [some (.ref a0), some (.ref b), x2, x3, x4, x5, x6, x7, x8, x9] ∧ Ex H1 H') ⟨_, _, _, _, _, _, _, _, rfl, Ex.refl _⟩ (fun _ _ _ _ _ => trivial) ?_ ?_
    · rintro i0 x σ H2 H3 hi ⟨x2, x3, x4, x5, x6, x7, x8, x9, rfl, e2⟩ ⟨rfl, rfl⟩
      refine ⟨_, rfl, _, rfl, b, 2, rfl, hb.ex e2, by decide, by decide, fun H4 p4 ns e4 n4 h4 hl4 _ hnm => ?_⟩
      refine ⟨by show 6 ≤ sizeLine; decide, fun l5 n5 => ?_⟩
      generalize hq5 : upd H4 l5 _ = H5
      obtain ⟨e5, h5⟩ := gen1 hq5 n5
      refine .inr (.inr (.inl ⟨p4, l5, _, _, rfl, rfl, e5 _ _ h4, h5, by rw [List.length_map]; exact Nat.le_trans (show ns.length + 6 ≤ 8 by omega) (by decide), fun l6 n6 => ?_⟩))
      generalize hq6 : upd H5 l6 _ = H6
      obtain ⟨e6, h6⟩ := gen1 hq6 n6
      have h6 : H6 l6 = some (.lst ((ns ++ W6).map V.str)) := h6.trans (by rw [List.map_append]; rfl)
      have e26 := (e2.trans e4).trans (e5.trans e6)
      refine ⟨b, l6, _, rfl, hb.ex e26, .inl (sq_of h6), (fun e => absurd (congrArg List.length e) (by rw [List.length_map, List.length_append]; show ¬ ns.length + 6 = 0; omega)), by rw [List.length_map, List.length_append]; show ns.length + 6 ≤ _; omega, fun H7 j x e7 hx => ?_⟩
      obtain ⟨z, hz, rfl⟩ := str_at hx
      have nz : isNm z = true := by
        rcases List.mem_append.mp (List.mem_of_getElem? hz) with h | h
        · exact hnm z h
        · exact w6_nm h
      have e27 := e26.trans e7
      refine .inr (.inl ⟨_, rfl, _, rfl, b, z, rfl, hb.ex e27, nz, fun H8 y e8 ty => ?_⟩)
      refine ⟨_, rfl, _, rfl, b, rfl, hb.ex (e27.trans e8), fun H9 vo dod e9 hdo okd hor => ?_⟩
      refine ⟨_, rfl, by show 1 ≤ sizeLine; decide, fun l10 n10 => ?_⟩
      generalize hq10 : upd H9 l10 _ = H10
      obtain ⟨e10, h10⟩ := gen1 hq10 n10
      refine ⟨_, rfl, by show 1 ≤ sizeLine; decide, fun t11 n11 => ?_⟩
      generalize hq11 : upd H10 t11 _ = H11
      obtain ⟨e11, h11⟩ := gen1 hq11 n11
      refine ⟨by show 8 ≤ sizeLine; decide, fun t12 n12 => ?_⟩
      generalize hq12 : upd H11 t12 _ = H12
      obtain ⟨e12, h12⟩ := gen1 hq12 n12
      have e912 := (e10.trans e11).trans e12
      have tz := txS.nm nz
      have okS : ∀ {m : Nat} {z : Str}, txS m z → m ≤ 100 → okD 0 1005 (.str z) := fun {m z} h hm => (okD_str (L := 100) h.1 (Nat.le_trans h.2 hm)).mono (by decide) (by decide)
      have oi : ∀ i : Int, i = 0 ∨ i = 1 → okD 0 5000 (.int i) := fun i h => by
        rcases h with rfl | rfl <;> exact ⟨by decide +kernel, by decide +kernel, by decide +kernel⟩
      obtain ⟨xs, hxs⟩ : ∃ xs, [V.str y, .str z, vo, .ref l10, .ref t11, .int 0, .int 1, .bl false] = xs := ⟨_, rfl⟩
      have all : ∀ x ∈ xs, ∃ d, Da H12 x d ∧ okD 3 5000 d := by
        rw [← hxs]
        have one : okD 1 1010 (.list [.str z]) := (okD_list (n := 0) (W := 1005) (m := 1) (fun d hd => by rw [List.mem_singleton.mp hd]; exact okS tz (by decide)) (Nat.le_refl _)).mono (by decide) (by decide)
        have one2 : okD 1 1010 (.tuple [.str z]) := (okD_tup (n := 0) (W := 1005) (m := 1) (fun d hd => by rw [List.mem_singleton.mp hd]; exact okS tz (by decide)) (Nat.le_refl _)).mono (by decide) (by decide)
        intro x hx
        simp only [List.mem_cons, List.not_mem_nil, or_false] at hx
        rcases hx with rfl | rfl | rfl | rfl | rfl | rfl | rfl | rfl
        · exact ⟨.str y, .str y, (okS ty (by decide)).mono (by decide) (by decide)⟩
        · exact ⟨.str z, .str z, (okS tz (by decide)).mono (by decide) (by decide)⟩
        · exact ⟨dod, Da.ex e912 _ (DaA.da _ hdo), okd.mono (by decide) (by decide)⟩
        · exact ⟨.list [.str z], .lst ((e11.trans e12) _ _ h10) (.cons (.str z) .nil), one.mono (by decide) (by decide)⟩
        · exact ⟨.tuple [.str z], .tup (e12 _ _ h11) (.cons (.str z) .nil), one2.mono (by decide) (by decide)⟩
        · exact ⟨.int 0, .int 0, (oi _ (.inl rfl)).mono (by decide) (by decide)⟩
        · exact ⟨.int 1, .int 1, (oi _ (.inr rfl)).mono (by decide) (by decide)⟩
        · exact ⟨.bool false, .bl false, by decide +kernel, by decide +kernel, by decide +kernel⟩
      have h12 : H12 t12 = some (.tup xs) := by rw [← hxs]; exact h12
      have xl : xs.length = 8 := by rw [← hxs]; rfl
      refine ⟨t12, rfl, ⟨_, st_of h12⟩, ?_⟩
      have e212 := (e27.trans e8).trans (e9.trans e912)
      refine frG (walk_tup (xs := xs)) (fun i σ H' => ∃ (x4 x5 x6 x7 : Option V), σ = [some (.ref a0), some (.ref b), some (.int (0 + (i0 : Int))), some (.str z), x4, x5, x6, x7, x8, x9] ∧ Ex H12 H') ⟨_, _, _, _, rfl, Ex.refl _⟩ (fun _ _ _ _ ⟨_, _, _, _, _, e⟩ => st_of (e _ _ h12)) ?_ ?_
      · rintro i x σ H13 H14 hi ⟨x4, x5, x6, x7, rfl, e13⟩ ⟨rfl, hx⟩
        obtain ⟨d, hd, okd⟩ := all x (List.mem_of_getElem? hx)
        have hd13 := Da.ex e13 _ hd
        refine isint_and (σ := [some (.ref a0), some (.ref b), some (.int (0 + (i0 : Int))), some (.str z), some x, x5, x6, x7, x8, x9]) rfl hd13 ?_
        have kd : okD 40 16000000 d := okd.mono (by decide) (by decide)
        refine ⟨_, rfl, x, d, rfl, hd13, kd, fun H15 e15 => ⟨by show 2 ≤ sizeLine; decide, fun l16 n16 => ?_⟩⟩
        generalize hq16 : upd H15 l16 _ = H16
        obtain ⟨e16, h16⟩ := gen1 hq16 n16
        refine ⟨_, rfl, .inr (.inl ⟨by show 3 ≤ sizeLine; decide, fun t17 n17 => ?_⟩)⟩
        generalize hq17 : upd H16 t17 _ = H17
        obtain ⟨e17, h17⟩ := gen1 hq17 n17
        refine ⟨by show 2 ≤ sizeLine; decide, fun t18 n18 => ?_⟩
        generalize hq18 : upd H17 t18 _ = H18
        obtain ⟨e18, h18⟩ := gen1 hq18 n18
        refine ⟨by show 2 ≤ sizeLine; decide, fun t19 n19 => ?_⟩
        generalize hq19 : upd H18 t19 _ = H19
        obtain ⟨e19, h19⟩ := gen1 hq19 n19
        refine ⟨t19, rfl, ⟨_, st_of h19⟩, ?_⟩
        have e1419 := ((e15.trans e16).trans (e17.trans e18)).trans e19
        have hd19 := Da.ex e1419 _ hd13
        refine lcG (walk_tup (xs := [V.ref t17, V.ref t18])) (by show 2 ≤ 40000; decide) (st_of h19) (fun _ _ e h => ex_t e h) yAt_ex (fun i ys _ => ys = ([relD d, homD d].take i).map V.bl) (fun _ _ _ _ _ h => h) rfl ?_ ?_
        · rintro i2 x2 H20 H21 ys hi2 e20 ⟨rfl, hx2⟩ rfl N N0 kN kN0
          have hd21 := Da.ex e20 _ hd19
          refine ⟨rfl, _, rfl, x, .ty "str", _, _, _, rfl, .ty _, hd21.ty, kit_ty (kit_str d), _, rfl, ?_⟩
          have two : (i2 = 0 ∧ x2 = .ref t17) ∨ (i2 = 1 ∧ x2 = .ref t18) := by
            match i2, hx2 with
            | 0, h => cases h; exact .inl ⟨rfl, rfl⟩
            | 1, h => cases h; exact .inr ⟨rfl, rfl⟩
            | i + 2, h => cases h
          have g17 := ((e18.trans e19).trans e20) _ _ h17
          have g18 := (e19.trans e20) _ _ h18
          cases hs : isStrD d with
          | false =>
            refine iteF (kN _ _ (Ex.refl _) ?_)
            rcases two with ⟨rfl, rfl⟩ | ⟨rfl, rfl⟩
            · rw [relD_no hs]
              rfl
            · rw [homD_no hs]
              rfl
          | true =>
            obtain ⟨y2, rfl⟩ := str_of hs
            have ev := hd21.str_inv
            subst ev
            rcases two with ⟨rfl, rfl⟩ | ⟨rfl, rfl⟩
            · refine iteT ⟨_, rfl, _, rfl, .inl ⟨t17, _, rfl, .inr (st_of g17), rfl, rfl, kN _ _ (Ex.refl _) ?_⟩⟩
              rw [show (if false = true then !inV (V.str y2) [V.str "eq", V.str "lt", V.str "gt"] else inV (V.str y2) [V.str "eq", V.str "lt", V.str "gt"]) = isR3 y2 from rel_in y2]
              rfl
            · refine iteT ⟨_, rfl, _, rfl, .inl ⟨t18, _, rfl, .inr (st_of g18), rfl, rfl, kN _ _ (Ex.refl _) ?_⟩⟩
              have e : inV (V.str y2) [V.str "goal", V.str "book"] = homD (.str y2) := by
                rw [show [V.str "goal", V.str "book"] = (["goal", "book"] : List Str).map V.str from rfl, in_strs]
                show _ = (decide (y2 = "goal") || decide (y2 = "book"))
                by_cases h1 : y2 = "goal" <;> by_cases h2 : y2 = "book" <;> simp [h1, h2]
              rw [show (if false = true then !inV (V.str y2) [V.str "goal", V.str "book"] else inV (V.str y2) [V.str "goal", V.str "book"]) = homD (.str y2) from e]
              rfl
        rintro D20 H20 ys20 hD20 e20 hD20' _ rfl
        refine .inr (.inr (.inl ⟨l16, D20, _, _, rfl, rfl, (((e17.trans e18).trans e19).trans e20) _ _ h16, hD20', by show 2 + 2 ≤ sizeLine; decide, fun l21 n21 => ?_⟩))
        generalize hq21 : upd H20 l21 _ = H21
        obtain ⟨e21, h21⟩ := gen1 hq21 n21
        have e1421 := (e1419.trans e20).trans e21
        have hd22 := Da.ex e1421 _ hd13
        refine ⟨2, rfl, by decide, by decide, ?_⟩
        refine frG (walk_range (lo := 0) (n := 2)) (fun i σ H' => ∃ x7 : Option V, σ = [some (.ref a0), some (.ref b), some (.int (0 + (i0 : Int))), some (.str z), some x, some (.ref l21), x6, x7, x8, x9] ∧ Ex H21 H') ⟨_, rfl, Ex.refl _⟩ (fun _ _ _ _ _ => trivial) ?_ ?_
        · rintro i3 x3' σ H22 H23 hi3 ⟨x7', rfl, e22⟩ ⟨rfl, rfl⟩
          have hdd := Da.ex e22 _ hd22
          refine ⟨_, rfl, x, d, rfl, hdd, kd, fun H24 e24 => ⟨_, rfl, x, d, rfl, Da.ex e24 _ hdd, kd, fun H25 e25 => ⟨_, rfl, x, d, rfl, Da.ex (e24.trans e25) _ hdd, kd, fun H26 e26' => ⟨_, rfl, x, d, rfl, Da.ex ((e24.trans e25).trans e26') _ hdd, kd, fun H27 e27' => ?_⟩⟩⟩⟩
          refine ⟨by show 4 ≤ sizeLine; decide, fun l28 n28 => ?_⟩
          generalize hq28 : upd H27 l28 _ = H28
          obtain ⟨e28, h28⟩ := gen1 hq28 n28
          have e2228 := ((e24.trans e25).trans (e26'.trans e27')).trans e28
          have ok4 := bools4 (intD d) (nmD d) (relD d) (homD d)
          refine ⟨_, rfl, .ref l28, .ref l21, rfl, ⟨_, .lst h28 (.cons (.bl _) (.cons (.bl _) (.cons (.bl _) (.cons (.bl _) .nil)))), .lst ((e22.trans e2228) _ _ h21) (.cons (.bl _) (.cons (.bl _) (.cons (.bl _) (.cons (.bl _) .nil)))), ok4.1.mono (by decide) (by decide), .inl ok4.2⟩, _, rfl, iteF ?_⟩
          exact ⟨_, rfl, e22.trans e2228⟩
        · rintro σ H22 ⟨x7', rfl, e22⟩
          exact ⟨_, _, _, _, rfl, e13.trans (e1421.trans e22)⟩
      · rintro σ H13 ⟨x4, x5, x6, x7, rfl, e13⟩
        have e213 := e212.trans e13
        refine ⟨_, rfl, b, rfl, hb.ex e213, fun H14 p zs e14 hp hzl t9 => ?_⟩
        have dz : ∀ {H' : Hp}, Ex H14 H' → Da H' (.ref p) (.list (zs.map PyData.str)) := fun {H'} e => .lst (e _ _ hp) (strs_daL zs)
        have oz : okD 40 16000000 (.list (zs.map PyData.str)) := (okD_list (n := 0) (W := 95) (m := 805) (fun d hd => by
          obtain ⟨y, hy, rfl⟩ := List.mem_map.mp hd
          exact okD_str (L := 9) (t9 y hy).1 (t9 y hy).2) (by rw [List.length_map]; exact hzl)).mono (by decide) (by decide)
        refine ⟨_, rfl, .ref p, _, rfl, dz (Ex.refl _), oz, ?_⟩
        refine ⟨_, rfl, _, rfl, p, zs, rfl, hp, by omega, fun H15 n e15 fn => ⟨p, zs, n, rfl, e15 _ _ hp, by omega, fn, t9, fun H16 e16 => ⟨true, rfl, iteF ?_⟩⟩⟩
        have e1416 := e15.trans e16
        refine ⟨_, rfl, p, zs, rfl, e1416 _ _ hp, by omega, fun H17 n1 e17 fn1 => ⟨_, rfl, p, _, rfl, sq_of ((e1416.trans e17) _ _ hp), fun l18 n18 => ?_⟩⟩
        generalize hq18 : upd H17 l18 _ = H18
        obtain ⟨e18, h18⟩ := gen1 hq18 n18
        rw [← List.map_reverse] at h18
        refine ⟨l18, zs.reverse, rfl, h18, by rw [List.length_reverse]; omega, fun H19 n2 e19 fn2 => ?_⟩
        have en : n1 = n2 := fn1.one fn2 fun z => List.mem_reverse.symm
        subst en
        refine .inl ⟨rfl, _, rfl, ?_⟩
        rw [decide_eq_true rfl]
        have e1419 := ((e1416.trans e17).trans e18).trans e19
        refine iteF ⟨_, rfl, .ref p, _, rfl, dz e1419, oz, _, rfl, .inl ⟨rfl, _, rfl, ?_⟩⟩
        rw [decide_eq_true rfl]
        exact iteF ⟨_, _, _, _, _, _, _, _, rfl, e213.trans (e14.trans e1419)⟩
    · rintro σ H2 ⟨x2, x3, x4, x5, x6, x7, x8, x9, rfl, e2⟩
      exact q _
end
end Own

namespace Own
open PySem PySem.Spec PyProof.Rows L2 Evl
/-! ### the end -/
theorem law_callS {P : Program} {w : World} {K : PySem.W.Frag} {mg mb : Str → Option Value} {k : Nat} {fa a : Addr} {fd : FuncData} {x : Str} {sp : Sp} {st : Shared} {vs : List Value} {ns : List Int}
    (inK : K.In st.heap) (gN : st.heap.Ns mainGlobals mg) (bN : st.heap.Ns builtinsNs mb) (bN0 : ∀ x : Str, x ≠ "__name__" → mb x = bootBuiltins x) (noL : st.heap.NoLimit) (g0 : st.gens = #[])
    (at0 : st.heap.get? a = some { cls := .type "list", data := .seq vs.toArray }) (are : IntsAre vs ns) (few : ns.length ≤ sizeLine) (hr : Room k callerA)
    (sysN : ∃ mm, st.heap.Ns sysModules mm) (F : ∀ base : Heap, K.In base → base.Ns mainGlobals mg → SysAt base → FnG P w K mg base k fa fd [x] sp) (bnd : ∀ (s : Shared) (u : Value), BindsTo s fd ⟨[u], []⟩ [(x, u)])
    (want : ∀ H : Hp, Only H → SqL K H a (ns.map V.int) → sp [.ref a] H (fun v _ => v = .bl true) fun _ _ _ => False)
    :
    codeAny (model P w) callerA (.call (.ref fa) ⟨[.ref a], []⟩) (fun r s' => r = .ok (.ret (.bool true)) ∧ OldK st.heap s'.heap ∧ s'.os = st.os ∧ AllBare s'.gens) st := by
  have rvs := vals_ints are
  have lv := are.length
  have main : ∀ H : Hp, Only H → SqL K H a (ns.map V.int) → HOk P w H st.heap → (∀ b, H b ≠ none → b = a) → (H a ≠ none → K.lookup a = none) →
      codeAny (model P w) callerA (.call (.ref fa) ⟨[.ref a], []⟩) (fun r s' => r = .ok (.ret (.bool true)) ∧ OldK st.heap s'.heap ∧ s'.os = st.os ∧ AllBare s'.gens) st := by
    intro H only sq okH ata notK
    have inB : ∀ {b : Addr} {o : Obj}, st.heap.get? b = some o → H b = none → (hidT st.heap H).get? b = some o := fun e n => hidT_get e n
    have nod : ∀ {b : Addr} {o : Obj} {es : Array DictEntry} {ep : Nat}, st.heap.get? b = some o → o.data = .dict es ep → H b = none := fun {b o es ep} e d => by
      cases qq : H b with
      | none => rfl
      | some u =>
        have e' : b = a := ata b (by rw [qq]; simp)
        subst e'
        rw [at0] at e; cases e
        have d' : Data.seq vs.toArray _ = Data.dict es ep := d
        cases d'
    have nsB : ∀ {b : Addr} {m : Str → Option Value}, st.heap.Ns b m → (hidT st.heap H).Ns b m := fun {b m} ⟨o, es, ep, e, d, r⟩ => ⟨o, es, ep, inB e (nod e d), d, r⟩
    have kB : K.In (hidT st.heap H) := fun b o e => inB (inK b o e) (by
      cases qq : H b with
      | none => rfl
      | some u =>
        have e' : b = a := ata b (by rw [qq]; simp)
        subst e'
        rw [notK (by rw [qq]; simp)] at e; cases e)
    have mdl : Mod K mg (hidT st.heap H) := ⟨kB, nsB gN, ⟨mb, nsB bN, bN0⟩, let ⟨mc, h1, h2⟩ := noL; ⟨mc, nsB h1, h2⟩⟩
    have envs : Env0 P w K mg (hidT st.heap H) callerA [] st H := ⟨rfl, mdl, fun b o e => of_hidT e, Nat.le_of_eq (hidT_size _ _), trivial, fun b bN => absurd (show b ∈ ([] : List Addr) from bN) (by simp), okH, .of_eq g0⟩
    refine codeAny_mono ((F _ kB (nsB gN) (let ⟨mm, z⟩ := sysN; ⟨mm, nsB z⟩)).run callerA [] st H ⟨[.ref a], []⟩ [.ref a] [.ref a] _ _ hr rfl envs (bnd st (.ref a)) (.cons rfl .nil) (want H only sq)) fun r s' h => ?_
    cases r with
    | error e => exact (show False from h).elim
    | ok fl =>
      cases fl with
      | next => exact False.elim h
      | brk => exact False.elim h
      | cont => exact False.elim h
      | ret u =>
        obtain ⟨v, H', oss, br, uu, hok', r', qq⟩ := h
        have q' : v = .bl true := qq
        subst q'
        obtain rfl : u = Value.bool true := r'
        refine ⟨rfl, OldK.of_keep fun b o e => ?_, oss, br⟩
        cases qq : H b with
        | none => exact uu.keep b o e qq (by intro zz; exact absurd (show b ∈ ([] : List Addr) from zz) (by simp)) (by simp)
        | some u =>
          rcases only b with zz | ⟨ob, xs, zz⟩
          · rw [qq] at zz; cases zz
          · have zz2 := uu.frzs b ob _ zz
            obtain ⟨e1, _⟩ := okH b _ zz
            obtain ⟨e2, _⟩ := hok' b _ zz2
            rw [e] at e1; cases e1
            exact e2
  cases lkK : K.lookup a with
  | some o =>
    have e := inK a o lkK
    rw [at0] at e
    cases e
    refine main (fun _ => none) (fun _ => .inl rfl) (.inr ⟨_, vs.toArray, _, lkK, rfl, rfl, rfl, by rw [List.size_toArray, lv]; exact few, by simpa using rvs⟩) (fun b u zz => by have z' : (none : Option HO) = some u := zz; cases z') (fun b zz => absurd rfl zz) fun zz => absurd rfl zz
  | none =>
    refine main (fun b => if b = a then some (.frz { cls := .type "list", data := .seq vs.toArray } (.lst (ns.map V.int))) else none) (fun b => ?_) (.inl (.inr ⟨{ cls := .type "list", data := .seq vs.toArray }, if_pos rfl⟩)) (fun b u zz => ?_) (fun b zz => ?_) fun _ => lkK
    · by_cases bN : b = a
      · exact .inr ⟨_, _, if_pos bN⟩
      · exact .inl (if_neg bN)
    · by_cases bN : b = a
      · have z' := (if_pos bN).symm.trans zz
        cases z'
        subst bN
        exact ⟨at0, by rw [List.length_map]; exact few, vs, _, rvs, at0⟩
      · have z' := (if_neg bN).symm.trans zz
        cases z'
    · by_cases bN : b = a
      · exact bN
      · exact absurd (if_neg bN) zz
theorem walk_S {l : PySem.W.OpenLaw} {n k : Nat} {q : Program} {loose : List Str} {XP : (Str → Option Value) → Heap → Prop} {YP : World → Heap → Prop} {d : DefRec} {K : Params → PySem.W.Frag} {sp : World → Sp} {x : Str}
    (most : l.most = some n) (small : n ≤ sizeLine) (nodf : d.params.defaults = []) (room : Room k callerA) (imps : importsNone q = true) (inn : ∀ (w : World) (h : Heap), YP w h → (K w.params).In h)
    (F : ∀ (w : World) (mg : Str → Option Value) (fa : Addr) (h : Heap), (K w.params).In h → h.Ns mainGlobals mg → mg d.name = some (.ref fa) →
      ∃ fd : FuncData, (∀ (s : Shared) (u : Value), BindsTo s fd ⟨[u], []⟩ [(x, u)]) ∧ ∀ base : Heap, (K w.params).In base → base.Ns mainGlobals mg → SysAt base → FnG l.prog w (K w.params) mg base k fa fd [x] (sp w))
    (want : ∀ (w : World) (H : Hp) (a : Addr) (ns : List Int), ns.length ≤ n → SqL (K w.params) H a (ns.map V.int) → sp w [.ref a] H (fun v _ => v = .bl true) fun _ _ _ => False) :
    PySem.W.WalkO q loose XP YP l.row.toRowW d [] (fun f vs => PySem.call f vs) := by
  refine Att.attach_call most nodf fun w s₀ st mg mb fa o pm cd doc a vs ns G Y ho hd hcd hmg hobj hints hlen g0 => ?_
  have KI := inn w _ Y
  obtain ⟨fd, bd, good⟩ := F w mg fa _ KI G.T.g hmg
  exact law_callS KI G.T.g G.T.b G.T.builtins G.T.nolimit g0 hobj hints (Nat.le_trans hlen small) room (let ⟨mm, z, _⟩ := (G.T.seer imps).mods; ⟨mm, z⟩) good bd (fun H _ hS => want w H a ns hlen hS)
theorem df_mk {K : PySem.W.Frag} {h : Heap} {mg : Str → Option Value} {x : Str} {st : Stmt} {f : Addr} {oc : Value} {od an : Option Addr} {sl : Array (Option Value)} {kV doc pm cdv ct : Value} (X : K.In h) (G : h.Ns mainGlobals mg)
    (a : PySem.W.nsIn K mainGlobals x = some (some (.ref f))) (l : K.lookup f = some ⟨oc, od, .func (PySem.W.fnOf x x (defArgs st) (defBody st) (defScope st) .none kV doc pm an cdv ct), sl⟩) (c : PySem.W.codeIn K cdv x = true) (kp : PySem.W.keepIn K (.ref f) = true) : Df K mg x st :=
  ⟨f, _, PySem.W.mg_of X G a, fun_mk l c kp⟩
end Own

namespace Own
open PySem PySem.Spec PyProof.Rows L2 Evl
theorem all_mk {P : Program} {w : World} {K : PySem.W.Frag} {h : Heap} {mg : Str → Option Value} {fa : Addr} (X : K.In h) (G : h.Ns mainGlobals mg) (hfa : mg "law" = some (.ref fa))
    {od0 an0 : Option Addr} {sl0 : Array (Option Value)} {oc0 kV0 dc0 pm0 cd0 ct0 : Value} {f0 : Addr}
    {od1 an1 : Option Addr} {sl1 : Array (Option Value)} {oc1 kV1 dc1 pm1 cd1 ct1 : Value} {f1 : Addr}
    {od2 an2 : Option Addr} {sl2 : Array (Option Value)} {oc2 kV2 dc2 pm2 cd2 ct2 : Value} {f2 : Addr}
    {od3 an3 : Option Addr} {sl3 : Array (Option Value)} {oc3 kV3 dc3 pm3 cd3 ct3 : Value} {f3 : Addr}
    {od4 an4 : Option Addr} {sl4 : Array (Option Value)} {oc4 kV4 dc4 pm4 cd4 ct4 : Value} {f4 : Addr}
    {od5 an5 : Option Addr} {sl5 : Array (Option Value)} {oc5 kV5 dc5 pm5 cd5 ct5 : Value} {f5 : Addr}
    {od6 an6 : Option Addr} {sl6 : Array (Option Value)} {oc6 kV6 dc6 pm6 cd6 ct6 : Value} {f6 : Addr}
    {od7 an7 : Option Addr} {sl7 : Array (Option Value)} {oc7 kV7 dc7 pm7 cd7 ct7 : Value} {f7 : Addr}
    {od8 an8 : Option Addr} {sl8 : Array (Option Value)} {oc8 kV8 dc8 pm8 cd8 ct8 : Value} {f8 : Addr}
    {od9 an9 : Option Addr} {sl9 : Array (Option Value)} {oc9 kV9 dc9 pm9 cd9 ct9 : Value} {f9 : Addr}
    {od10 an10 : Option Addr} {sl10 : Array (Option Value)} {oc10 kV10 dc10 pm10 cd10 ct10 : Value} {f10 : Addr}
    {od11 an11 : Option Addr} {sl11 : Array (Option Value)} {oc11 kV11 dc11 pm11 cd11 ct11 : Value} {f11 : Addr}
    {od12 an12 : Option Addr} {sl12 : Array (Option Value)} {oc12 kV12 dc12 pm12 cd12 ct12 : Value} {f12 : Addr}
    {od13 an13 : Option Addr} {sl13 : Array (Option Value)} {oc13 kV13 dc13 pm13 cd13 ct13 : Value} {f13 : Addr}
    {od14 an14 : Option Addr} {sl14 : Array (Option Value)} {oc14 kV14 dc14 pm14 cd14 ct14 : Value} {f14 : Addr}
    {od15 an15 : Option Addr} {sl15 : Array (Option Value)} {oc15 kV15 dc15 pm15 cd15 ct15 : Value} {f15 : Addr}
    {od16 an16 : Option Addr} {sl16 : Array (Option Value)} {oc16 kV16 dc16 pm16 cd16 ct16 : Value} {f16 : Addr}
    {od17 an17 : Option Addr} {sl17 : Array (Option Value)} {oc17 kV17 dc17 pm17 cd17 ct17 : Value} {f17 : Addr} {rel hom : Addr} {odR odM : Option Addr} {nR nM : Nat} {slR slM : Array (Option Value)} {tL t1 t2 t3 t4 t5 tT : Tok}
    (a0 : PySem.W.nsIn K mainGlobals "is_integer" = some (some (.ref f0))) (l0 : K.lookup f0 = some ⟨oc0, od0, .func (PySem.W.fnOf "is_integer" "is_integer" (defArgs s_is_integer) (defBody s_is_integer) (defScope s_is_integer) .none kV0 dc0 pm0 an0 cd0 ct0), sl0⟩) (c0 : PySem.W.codeIn K cd0 "is_integer" = true) (k0 : PySem.W.keepIn K (.ref f0) = true)
    (a1 : PySem.W.nsIn K mainGlobals "is_name" = some (some (.ref f1))) (l1 : K.lookup f1 = some ⟨oc1, od1, .func (PySem.W.fnOf "is_name" "is_name" (defArgs s_is_name) (defBody s_is_name) (defScope s_is_name) .none kV1 dc1 pm1 an1 cd1 ct1), sl1⟩) (c1 : PySem.W.codeIn K cd1 "is_name" = true) (k1 : PySem.W.keepIn K (.ref f1) = true)
    (a2 : PySem.W.nsIn K mainGlobals "is_relation" = some (some (.ref f2))) (l2 : K.lookup f2 = some ⟨oc2, od2, .func (PySem.W.fnOf "is_relation" "is_relation" (defArgs s_is_relation) (defBody s_is_relation) (defScope s_is_relation) .none kV2 dc2 pm2 an2 cd2 ct2), sl2⟩) (c2 : PySem.W.codeIn K cd2 "is_relation" = true) (k2 : PySem.W.keepIn K (.ref f2) = true)
    (a3 : PySem.W.nsIn K mainGlobals "is_home" = some (some (.ref f3))) (l3 : K.lookup f3 = some ⟨oc3, od3, .func (PySem.W.fnOf "is_home" "is_home" (defArgs s_is_home) (defBody s_is_home) (defScope s_is_home) .none kV3 dc3 pm3 an3 cd3 ct3), sl3⟩) (c3 : PySem.W.codeIn K cd3 "is_home" = true) (k3 : PySem.W.keepIn K (.ref f3) = true)
    (a4 : PySem.W.nsIn K mainGlobals "name_number" = some (some (.ref f4))) (l4 : K.lookup f4 = some ⟨oc4, od4, .func (PySem.W.fnOf "name_number" "name_number" (defArgs s_name_number) (defBody s_name_number) (defScope s_name_number) .none kV4 dc4 pm4 an4 cd4 ct4), sl4⟩) (c4 : PySem.W.codeIn K cd4 "name_number" = true) (k4 : PySem.W.keepIn K (.ref f4) = true)
    (a5 : PySem.W.nsIn K mainGlobals "fresh" = some (some (.ref f5))) (l5 : K.lookup f5 = some ⟨oc5, od5, .func (PySem.W.fnOf "fresh" "fresh" (defArgs s_fresh) (defBody s_fresh) (defScope s_fresh) .none kV5 dc5 pm5 an5 cd5 ct5), sl5⟩) (c5 : PySem.W.codeIn K cd5 "fresh" = true) (k5 : PySem.W.keepIn K (.ref f5) = true)
    (a6 : PySem.W.nsIn K mainGlobals "_law_bag" = some (some (.ref f6))) (l6 : K.lookup f6 = some ⟨oc6, od6, .func (PySem.W.fnOf "_law_bag" "_law_bag" (defArgs s_l_bag) (defBody s_l_bag) (defScope s_l_bag) .none kV6 dc6 pm6 an6 cd6 ct6), sl6⟩) (c6 : PySem.W.codeIn K cd6 "_law_bag" = true) (k6 : PySem.W.keepIn K (.ref f6) = true)
    (a7 : PySem.W.nsIn K mainGlobals "_law_take" = some (some (.ref f7))) (l7 : K.lookup f7 = some ⟨oc7, od7, .func (PySem.W.fnOf "_law_take" "_law_take" (defArgs s_l_take) (defBody s_l_take) (defScope s_l_take) .none kV7 dc7 pm7 an7 cd7 ct7), sl7⟩) (c7 : PySem.W.codeIn K cd7 "_law_take" = true) (k7 : PySem.W.keepIn K (.ref f7) = true)
    (a8 : PySem.W.nsIn K mainGlobals "_law_alike" = some (some (.ref f8))) (l8 : K.lookup f8 = some ⟨oc8, od8, .func (PySem.W.fnOf "_law_alike" "_law_alike" (defArgs s_l_alike) (defBody s_l_alike) (defScope s_l_alike) .none kV8 dc8 pm8 an8 cd8 ct8), sl8⟩) (c8 : PySem.W.codeIn K cd8 "_law_alike" = true) (k8 : PySem.W.keepIn K (.ref f8) = true)
    (a9 : PySem.W.nsIn K mainGlobals "_law_some" = some (some (.ref f9))) (l9 : K.lookup f9 = some ⟨oc9, od9, .func (PySem.W.fnOf "_law_some" "_law_some" (defArgs s_l_some) (defBody s_l_some) (defScope s_l_some) .none kV9 dc9 pm9 an9 cd9 ct9), sl9⟩) (c9 : PySem.W.codeIn K cd9 "_law_some" = true) (k9 : PySem.W.keepIn K (.ref f9) = true)
    (a10 : PySem.W.nsIn K mainGlobals "_law_names" = some (some (.ref f10))) (l10 : K.lookup f10 = some ⟨oc10, od10, .func (PySem.W.fnOf "_law_names" "_law_names" (defArgs s_l_names) (defBody s_l_names) (defScope s_l_names) .none kV10 dc10 pm10 an10 cd10 ct10), sl10⟩) (c10 : PySem.W.codeIn K cd10 "_law_names" = true) (k10 : PySem.W.keepIn K (.ref f10) = true)
    (a11 : PySem.W.nsIn K mainGlobals "_law_odd" = some (some (.ref f11))) (l11 : K.lookup f11 = some ⟨oc11, od11, .func (PySem.W.fnOf "_law_odd" "_law_odd" (defArgs s_l_odd) (defBody s_l_odd) (defScope s_l_odd) .none kV11 dc11 pm11 an11 cd11 ct11), sl11⟩) (c11 : PySem.W.codeIn K cd11 "_law_odd" = true) (k11 : PySem.W.keepIn K (.ref f11) = true)
    (a12 : PySem.W.nsIn K mainGlobals "_law_is_name" = some (some (.ref f12))) (l12 : K.lookup f12 = some ⟨oc12, od12, .func (PySem.W.fnOf "_law_is_name" "_law_is_name" (defArgs s_l_is_name) (defBody s_l_is_name) (defScope s_l_is_name) .none kV12 dc12 pm12 an12 cd12 ct12), sl12⟩) (c12 : PySem.W.codeIn K cd12 "_law_is_name" = true) (k12 : PySem.W.keepIn K (.ref f12) = true)
    (a13 : PySem.W.nsIn K mainGlobals "_law_near" = some (some (.ref f13))) (l13 : K.lookup f13 = some ⟨oc13, od13, .func (PySem.W.fnOf "_law_near" "_law_near" (defArgs s_l_near) (defBody s_l_near) (defScope s_l_near) .none kV13 dc13 pm13 an13 cd13 ct13), sl13⟩) (c13 : PySem.W.codeIn K cd13 "_law_near" = true) (k13 : PySem.W.keepIn K (.ref f13) = true)
    (a14 : PySem.W.nsIn K mainGlobals "_law_rank" = some (some (.ref f14))) (l14 : K.lookup f14 = some ⟨oc14, od14, .func (PySem.W.fnOf "_law_rank" "_law_rank" (defArgs s_l_rank) (defBody s_l_rank) (defScope s_l_rank) .none kV14 dc14 pm14 an14 cd14 ct14), sl14⟩) (c14 : PySem.W.codeIn K cd14 "_law_rank" = true) (k14 : PySem.W.keepIn K (.ref f14) = true)
    (a15 : PySem.W.nsIn K mainGlobals "_law_listed" = some (some (.ref f15))) (l15 : K.lookup f15 = some ⟨oc15, od15, .func (PySem.W.fnOf "_law_listed" "_law_listed" (defArgs s_l_listed) (defBody s_l_listed) (defScope s_l_listed) .none kV15 dc15 pm15 an15 cd15 ct15), sl15⟩) (c15 : PySem.W.codeIn K cd15 "_law_listed" = true) (k15 : PySem.W.keepIn K (.ref f15) = true)
    (a16 : PySem.W.nsIn K mainGlobals "_law_fresh_right" = some (some (.ref f16))) (l16 : K.lookup f16 = some ⟨oc16, od16, .func (PySem.W.fnOf "_law_fresh_right" "_law_fresh_right" (defArgs s_l_fresh_right) (defBody s_l_fresh_right) (defScope s_l_fresh_right) .none kV16 dc16 pm16 an16 cd16 ct16), sl16⟩) (c16 : PySem.W.codeIn K cd16 "_law_fresh_right" = true) (k16 : PySem.W.keepIn K (.ref f16) = true)
    (a17 : PySem.W.nsIn K mainGlobals "law" = some (some (.ref f17))) (l17 : K.lookup f17 = some ⟨oc17, od17, .func (PySem.W.fnOf "law" "law" (defArgs s_law) (defBody s_law) (defScope s_law) .none kV17 dc17 pm17 an17 cd17 ct17), sl17⟩) (c17 : PySem.W.codeIn K cd17 "law" = true) (k17 : PySem.W.keepIn K (.ref f17) = true)
    (z_abs : PySem.W.nsIn K mainGlobals "abs" = some none)
    (z_int : PySem.W.nsIn K mainGlobals "int" = some none)
    (z_len : PySem.W.nsIn K mainGlobals "len" = some none)
    (z_tuple : PySem.W.nsIn K mainGlobals "tuple" = some none)
    (z_list : PySem.W.nsIn K mainGlobals "list" = some none)
    (z_all : PySem.W.nsIn K mainGlobals "all" = some none)
    (z_any : PySem.W.nsIn K mainGlobals "any" = some none)
    (z_zip : PySem.W.nsIn K mainGlobals "zip" = some none)
    (z_range : PySem.W.nsIn K mainGlobals "range" = some none)
    (z_repr : PySem.W.nsIn K mainGlobals "repr" = some none)
    (z_dict : PySem.W.nsIn K mainGlobals "dict" = some none)
    (z_isinstance : PySem.W.nsIn K mainGlobals "isinstance" = some none)
    (z_str : PySem.W.nsIn K mainGlobals "str" = some none)
    (z_bool : PySem.W.nsIn K mainGlobals "bool" = some none)
    (z_sorted : PySem.W.nsIn K mainGlobals "sorted" = some none)
    (z_set : PySem.W.nsIn K mainGlobals "set" = some none)
    (z_sum : PySem.W.nsIn K mainGlobals "sum" = some none)
    (z_divmod : PySem.W.nsIn K mainGlobals "divmod" = some none)
    (gLong : PySem.W.nsIn K mainGlobals "LONGEST_NAME" = some (some (.int 8 tL)))
    (gRel : PySem.W.nsIn K mainGlobals "RELATIONS" = some (some (.ref rel)))
    (lRel : K.lookup rel = some ⟨.type "tuple", odR, .seq #[.str "eq" t1, .str "lt" t2, .str "gt" t3] nR, slR⟩)
    (gHom : PySem.W.nsIn K mainGlobals "HOMES" = some (some (.ref hom)))
    (lHom : K.lookup hom = some ⟨.type "tuple", odM, .seq #[.str "goal" t4, .str "book" t5] nM, slM⟩)
    (gLet : PySem.W.nsIn K mainGlobals "LETTERS" = some (some (.str LET tT))) :
    ∃ fd : FuncData, (∀ (s : Shared) (v : Value), BindsTo s fd ⟨[v], []⟩ [("_law_script", v)]) ∧ ∀ base : Heap, K.In base → base.Ns mainGlobals mg → SysAt base → FnG P w K mg base 8 fa fd ["_law_script"] (spLaw K) := by
  have e := hfa.symm.trans (PySem.W.mg_of X G a17)
  cases e
  have D_is_integer : Df K mg "is_integer" s_is_integer := df_mk X G a0 l0 c0 k0
  have D_is_name : Df K mg "is_name" s_is_name := df_mk X G a1 l1 c1 k1
  have D_is_relation : Df K mg "is_relation" s_is_relation := df_mk X G a2 l2 c2 k2
  have D_is_home : Df K mg "is_home" s_is_home := df_mk X G a3 l3 c3 k3
  have D_name_number : Df K mg "name_number" s_name_number := df_mk X G a4 l4 c4 k4
  have D_fresh : Df K mg "fresh" s_fresh := df_mk X G a5 l5 c5 k5
  have D_l_bag : Df K mg "_law_bag" s_l_bag := df_mk X G a6 l6 c6 k6
  have D_l_take : Df K mg "_law_take" s_l_take := df_mk X G a7 l7 c7 k7
  have D_l_alike : Df K mg "_law_alike" s_l_alike := df_mk X G a8 l8 c8 k8
  have D_l_some : Df K mg "_law_some" s_l_some := df_mk X G a9 l9 c9 k9
  have D_l_names : Df K mg "_law_names" s_l_names := df_mk X G a10 l10 c10 k10
  have D_l_odd : Df K mg "_law_odd" s_l_odd := df_mk X G a11 l11 c11 k11
  have D_l_is_name : Df K mg "_law_is_name" s_l_is_name := df_mk X G a12 l12 c12 k12
  have D_l_near : Df K mg "_law_near" s_l_near := df_mk X G a13 l13 c13 k13
  have D_l_rank : Df K mg "_law_rank" s_l_rank := df_mk X G a14 l14 c14 k14
  have D_l_listed : Df K mg "_law_listed" s_l_listed := df_mk X G a15 l15 c15 k15
  have D_l_fresh_right : Df K mg "_law_fresh_right" s_l_fresh_right := df_mk X G a16 l16 c16 k16
  have F_law := fun_mk (st := s_law) l17 c17 k17
  refine ⟨PySem.W.fnOf "law" "law" (defArgs s_law) (defBody s_law) (defScope s_law) .none kV17 dc17 pm17 an17 cd17 ct17, fun s v => .of_eq rfl, fun base _ _ hsys => ?_⟩
  have T : Txt0 mg := ⟨PySem.W.mg_none_of X G z_abs, PySem.W.mg_none_of X G z_int, PySem.W.mg_none_of X G z_len, PySem.W.mg_none_of X G z_tuple, PySem.W.mg_none_of X G z_list, PySem.W.mg_none_of X G z_all, PySem.W.mg_none_of X G z_any, PySem.W.mg_none_of X G z_zip, PySem.W.mg_none_of X G z_range, PySem.W.mg_none_of X G z_repr, PySem.W.mg_none_of X G z_dict⟩
  have TI : TxtI K mg rel := ⟨PySem.W.mg_none_of X G z_isinstance, PySem.W.mg_none_of X G z_str, PySem.W.mg_none_of X G z_bool, T.tuple, ⟨_, PySem.W.mg_of X G gLong⟩, PySem.W.mg_of X G gRel, fun H => .inr ⟨_, _, _, lRel, rfl, rfl, by show 3 ≤ sizeLine; decide, .cons ⟨_, rfl⟩ (.cons ⟨_, rfl⟩ (.cons ⟨_, rfl⟩ .nil))⟩⟩
  have TZ : TxtZ mg := ⟨PySem.W.mg_none_of X G z_sorted, PySem.W.mg_none_of X G z_set, PySem.W.mg_none_of X G z_sum⟩
  have TW : TxW mg := ⟨PySem.W.mg_none_of X G z_divmod, ⟨_, PySem.W.mg_of X G gLet⟩⟩
  have hh : ∀ H, SqT K H hom [.str "goal", .str "book"] := fun H => .inr ⟨_, _, _, lHom, rfl, rfl, by show 2 ≤ sizeLine; decide, .cons ⟨_, rfl⟩ (.cons ⟨_, rfl⟩ .nil)⟩
  have c1 : CalG P w K mg base 1 "_law_take" spTake := take_ext (ok_takeL T D_l_take)
  have c2 := bag_ext (ok_bagL (P := P) (w := w) (base := base) T D_l_bag)
  have c3 := ok_some (K := K) T D_l_some c1
  have c4 := ok_names T D_l_names c1
  have c5 := ok_odd T D_l_odd c3
  have c6 := ok_l_is_name (P := P) (w := w) (base := base) T TI D_l_is_name
  have c7 := ok_is_name (P := P) (w := w) (base := base) T TI D_is_name
  have c8 := ok_is_relation (P := P) (w := w) (base := base) T TI D_is_relation
  have c9 := ok_is_integer (P := P) (w := w) (base := base) T TI D_is_integer
  have c10 := ok_is_home (P := P) (w := w) (base := base) T TI (PySem.W.mg_of X G gHom) hh D_is_home
  have c11 := ok_name_number (P := P) (w := w) (K := K) (base := base) T TW D_name_number
  have c12 := ok_fresh T D_fresh c11
  have c13 := ok_near T D_l_near c1 c3
  have c14 := ok_rank (P := P) (w := w) (base := base) D_l_rank
  have c15 := ok_listed T TZ D_l_listed c1 c4
  have c16 := ok_fresh_right T TZ D_l_fresh_right c6 c14
  have c17 := ok_alk (P := P) (w := w) T hsys D_l_alike
  exact ok_law T hsys TI F_law c2 c4 c3 c13 c5 c6 c9 c7 c8 c10 c17 c15 c12 c16
theorem walk {l : PySem.W.OpenLaw} {q : Program} {loose : List Str} {XP : (Str → Option Value) → Heap → Prop} {YP : World → Heap → Prop} {d : DefRec} {K : Params → PySem.W.Frag} (most : l.most = some 63) (nodf : d.params.defaults = [])
    (inn : ∀ (w : World) (h : Heap), YP w h → (K w.params).In h)
    (F : ∀ (w : World) (mg : Str → Option Value) (fa : Addr) (h : Heap), (K w.params).In h → h.Ns mainGlobals mg → mg d.name = some (.ref fa) →
      ∃ fd : FuncData, (∀ (s : Shared) (u : Value), BindsTo s fd ⟨[u], []⟩ [("_law_script", u)]) ∧ ∀ base : Heap, (K w.params).In base → base.Ns mainGlobals mg → SysAt base → FnG l.prog w (K w.params) mg base 8 fa fd ["_law_script"] (spLaw (K w.params))) (imps : importsNone q = true) :
    PySem.W.WalkO q loose XP YP l.row.toRowW d [] (fun f vs => PySem.call f vs) :=
  walk_S (n := 63) (k := 8) (x := "_law_script") (sp := fun w => spLaw (K w.params)) most (by decide) nodf ⟨rfl, by decide, by decide⟩ imps inn F (fun _ _ a ns hl hS => ⟨a, ns, rfl, hS, hl, fun _ => rfl⟩)
end Own
open PySem PySem.W PyProof.Rows in
set_option maxRecDepth 100000 in
set_option maxHeartbeats 0 in
theorem PySem.Challenge.cw_scriptpicks_k11_words_known_holds : PySem.Challenge.rw_scriptpicks_k11_words_known.Holds := by
  w_on; o_law; k_head; (case hw => w_witness2)
  k_fill
  refine Own.walk (l := PySem.Challenge.rw_scriptpicks_k11_words_known) rfl rfl (fun w h Y => PySem.W.kIn_of Y) ?F ?imps
  case imps => decide +kernel
  case F =>
    intro w mg fa h KX G hmg
    refine' Own.all_mk KX G hmg ?a0 ?l0 ?c0 ?k0 ?a1 ?l1 ?c1 ?k1 ?a2 ?l2 ?c2 ?k2 ?a3 ?l3 ?c3 ?k3 ?a4 ?l4 ?c4 ?k4 ?a5 ?l5 ?c5 ?k5 ?a6 ?l6 ?c6 ?k6 ?a7 ?l7 ?c7 ?k7 ?a8 ?l8 ?c8 ?k8 ?a9 ?l9 ?c9 ?k9 ?a10 ?l10 ?c10 ?k10 ?a11 ?l11 ?c11 ?k11 ?a12 ?l12 ?c12 ?k12 ?a13 ?l13 ?c13 ?k13 ?a14 ?l14 ?c14 ?k14 ?a15 ?l15 ?c15 ?k15 ?a16 ?l16 ?c16 ?k16 ?a17 ?l17 ?c17 ?k17 ?z_abs ?z_int ?z_len ?z_tuple ?z_list ?z_all ?z_any ?z_zip ?z_range ?z_repr ?z_dict ?z_isinstance ?z_str ?z_bool ?z_sorted ?z_set ?z_sum ?z_divmod ?gLong ?gRel ?lRel ?gHom ?lHom ?gLet
    (case a0 => k_is)
    (case l0 => k_is)
    (case c0 => k_is)
    (case k0 => k_is)
    (case a1 => k_is)
    (case l1 => k_is)
    (case c1 => k_is)
    (case k1 => k_is)
    (case a2 => k_is)
    (case l2 => k_is)
    (case c2 => k_is)
    (case k2 => k_is)
    (case a3 => k_is)
    (case l3 => k_is)
    (case c3 => k_is)
    (case k3 => k_is)
    (case a4 => k_is)
    (case l4 => k_is)
    (case c4 => k_is)
    (case k4 => k_is)
    (case a5 => k_is)
    (case l5 => k_is)
    (case c5 => k_is)
    (case k5 => k_is)
    (case a6 => k_is)
    (case l6 => k_is)
    (case c6 => k_is)
    (case k6 => k_is)
    (case a7 => k_is)
    (case l7 => k_is)
    (case c7 => k_is)
    (case k7 => k_is)
    (case a8 => k_is)
    (case l8 => k_is)
    (case c8 => k_is)
    (case k8 => k_is)
    (case a9 => k_is)
    (case l9 => k_is)
    (case c9 => k_is)
    (case k9 => k_is)
    (case a10 => k_is)
    (case l10 => k_is)
    (case c10 => k_is)
    (case k10 => k_is)
    (case a11 => k_is)
    (case l11 => k_is)
    (case c11 => k_is)
    (case k11 => k_is)
    (case a12 => k_is)
    (case l12 => k_is)
    (case c12 => k_is)
    (case k12 => k_is)
    (case a13 => k_is)
    (case l13 => k_is)
    (case c13 => k_is)
    (case k13 => k_is)
    (case a14 => k_is)
    (case l14 => k_is)
    (case c14 => k_is)
    (case k14 => k_is)
    (case a15 => k_is)
    (case l15 => k_is)
    (case c15 => k_is)
    (case k15 => k_is)
    (case a16 => k_is)
    (case l16 => k_is)
    (case c16 => k_is)
    (case k16 => k_is)
    (case a17 => k_is)
    (case l17 => k_is)
    (case c17 => k_is)
    (case k17 => k_is)
    (case z_abs => k_is)
    (case z_int => k_is)
    (case z_len => k_is)
    (case z_tuple => k_is)
    (case z_list => k_is)
    (case z_all => k_is)
    (case z_any => k_is)
    (case z_zip => k_is)
    (case z_range => k_is)
    (case z_repr => k_is)
    (case z_dict => k_is)
    (case z_isinstance => k_is)
    (case z_str => k_is)
    (case z_bool => k_is)
    (case z_sorted => k_is)
    (case z_set => k_is)
    (case z_sum => k_is)
    (case z_divmod => k_is)
    (case gLong => k_is)
    (case gRel => k_is)
    (case lRel => k_is)
    (case gHom => k_is)
    (case lHom => k_is)
    (case gLet => k_is)
